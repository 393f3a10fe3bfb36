import PyProof.Rows.All
import Wide.All
import OpenK.AllK
import Wide.FinOn
import KE.DataMinMax
import KE.GoesMore
import KE.GoesZip
import HandS.ForMost
import HandS.Walk
import HandS.Zip
import HandS.Conv
import HandS.IsInst
import HandS.Strs
import HandS.SetFor
import HandS.Wide
import HandS.Flow
import HandS.TupMul
import HandS.Codes
import HandS.TupAny
import HandS.Star
import HandS.Dict
import HandS.Words
import PySem.Challenge.RW_rolluplevels_k03_order_of_rollups
set_option Elab.async false
set_option linter.all false
set_option maxRecDepth 100000
set_option maxHeartbeats 4000000
namespace RL
open PySem PySem.Spec PyProof.Rows L2

/-! ### repr of nested data, where nothing is being shown already -/
def rRepr (K : PySem.W.Frag) : List V → Hp → VK → Prop := fun xs H Q =>
  ∃ x d, xs = [x] ∧ Dp K H x d ∧ isDisplay d = true ∧ d.showable = true ∧ d.hasDict = false ∧ d.depth ≤ 50 ∧ d.shown.length ≤ sizeLine ∧ Q (.str d.shown) H
theorem call_repr {X : Cx} (hg : X.A.guards = some []) (hu : X.A.units + 64 < cLine) : CallR X (.builtin "repr") (rRepr X.K) := by
  intro pins s σ H xs us Q I r h
  obtain ⟨x, d, rfl, hd, disp, sh, nd, dp, sz, q⟩ := h
  obtain ⟨u, rfl, r1⟩ := vals1 r
  obtain ⟨as, rd⟩ := Dp.reads I d x _ hd r1
  obtain ⟨a, rfl⟩ := isRef_of_reads rd disp
  exact repr_of_reads' rd sh (PyData.noDict_hsm nd) hg (by omega) (fun _ _ e => e) (fun h' u tk hk => ⟨.str _, H, I.kept hk, ⟨u, rfl⟩, q⟩) sz

/-! ### max of a tuple, of a list of ints, told as a fold -/
def rMaxD (K : PySem.W.Frag) : List V → Hp → VK → Prop := fun vs H Q =>
  ∃ (a : Addr) (n : Int) (ns : List Int), vs = [V.ref a] ∧ (SqT K H a ((n :: ns).map V.int) ∨ SqL K H a ((n :: ns).map V.int)) ∧ Q (.int (ns.foldl max n)) H
theorem readsAll_ints {h : Heap} : ∀ {ns : List Int} {us : List Value}, Vals (ns.map V.int) us → ∃ as, ReadsAll h us (ns.map PyData.int) as
  | [], _, r => by cases r; exact ⟨_, .nil⟩
  | n :: ns, _, r => by
    cases r with
    | cons r1 r2 =>
      obtain ⟨t, rfl⟩ := r1
      obtain ⟨as, q⟩ := readsAll_ints r2
      exact ⟨_, .cons (.int n t) q⟩
theorem alike_ints (ns : List Int) : PySem.W.AlikeAll (ns.map PyData.int) := by
  refine ⟨fun x hx y hy => ?_, fun x hx => ?_⟩
  · obtain ⟨a, _, rfl⟩ := List.mem_map.mp hx
    obtain ⟨b, _, rfl⟩ := List.mem_map.mp hy
    rfl
  · obtain ⟨a, _, rfl⟩ := List.mem_map.mp hx
    exact fun z => nomatch z
theorem depth_ints : ∀ ns : List Int, PyData.depthAll (ns.map PyData.int) = 0
  | [] => rfl
  | n :: ns => by
    show max (PyData.depth (.int n)) (PyData.depthAll (ns.map PyData.int)) = 0
    rw [depth_ints ns]
    rfl
theorem cr_maxD {X : Cx} (hc : X.calm = true) (hu : X.A.units + 64 < cLine) : CallR X (.builtin "max") (rMaxD X.K) := by
  intro pins s σ H vs us Q I r h
  obtain ⟨a, n, ns, rfl, hs, q⟩ := h
  rw [Vals.ref1 r]
  have hd : PyData.depthAll (PyData.int n :: ns.map PyData.int) = 0 := depth_ints (n :: ns)
  have fin : ∀ (v : Value) (h' : Heap) (tk : Nat) (bs : List Addr), Reads h' v (PySem.W.maxD (.int n) (ns.map PyData.int)) bs → (∀ b o, s.heap.get? b = some o → h'.get? b = some o) →
      EP X pins σ Q v { s with heap := h', toks := tk } := fun v h' tk bs rd hk => by
    rw [PySem.W.maxD_ints] at rd
    cases rd with
    | int i t => exact ⟨.int _, H, I.kept hk, ⟨t, rfl⟩, q⟩
  rcases hs with hs | hs
  · obtain ⟨its, rv, hl, _⟩ := I.tuple hs
    obtain ⟨as, rd⟩ := readsAll_ints (h := s.heap) rv
    exact PySem.W.max_tuple_data (I.ok.hd hc) hl (by simpa using rd) (alike_ints (n :: ns)) (by rw [hd]; omega) fun _ v h' tk bs _ r hk => fin v h' tk bs r hk
  · obtain ⟨its, rv, hl, _⟩ := I.list hs
    obtain ⟨as, rd⟩ := readsAll_ints (h := s.heap) rv
    exact PySem.W.max_list_data (I.ok.hd hc) hl.isList (by simpa using rd) (alike_ints (n :: ns)) (by rw [hd]; omega) fun _ v h' tk bs _ r hk => fin v h' tk bs r hk

/-! ### set(t) of a tuple of ints -/
def rSetT (K : PySem.W.Frag) (w : World) : List V → Hp → VK → Prop := fun xs H Q =>
  ∃ (a : Addr) (ns : List Int), xs = [V.ref a] ∧ SqT K H a (ns.map V.int) ∧ ns.length < 60 ∧ ∀ p c, H p = none → c ≤ ns.length → Q (.ref p) (upd H p (SetO w p (fun j => decide (j ∈ ns)) c))
theorem cr_setT {X : Cx} (hc : X.calm = true) : CallR X (.type "set") (rSetT X.K X.w) := by
  intro pins s σ H vs us Q I r h
  obtain ⟨a, ns, rfl, hs, hn, q⟩ := h
  rw [Vals.ref1 r]
  obtain ⟨its, rv, hl, _⟩ := I.tuple hs
  have hb : ns.length + 1 < scanBound := Nat.lt_of_lt_of_le (Nat.add_lt_add_right hn 1) (by decide)
  refine call_set_tupI ns (I.ok.hd hc) hl (by simpa using rv.ints) hb fun h' tk c R hle hk => ?_
  exact ⟨.ref _, _, I.laid (t' := tk) hk (Nat.le_refl _) (setO_new R), rfl, q _ c (I.hok.fresh (Nat.le_refl _)) hle⟩

/-! ### zip of a tuple and a list -/
def ItzM (K : PySem.W.Frag) (a b : Addr) : It :=
  ⟨fun i H => ∃ (xs ys : List V) (x y : V), SqT K H a xs ∧ SqL K H b ys ∧ xs[i]? = some x ∧ ys[i]? = some y,
    fun i H v H' => ∃ T x y, v = .ref T ∧ H T = none ∧ H' = upd H T (.tup [x, y]) ∧ (∀ xs, SqT K H a xs → xs[i]? = some x) ∧ ∀ ys, SqL K H b ys → ys[i]? = some y,
    fun i H => ∃ xs ys : List V, SqT K H a xs ∧ SqL K H b ys ∧ i ≤ xs.length ∧ i ≤ ys.length ∧ (i = xs.length ∨ i = ys.length)⟩
theorem sepM {z TI TO i1 i2 a b : Addr} (D : ZipApart z TI TO i1 i2 a b) : ZipSep2 z TI TO i1 i2 [i1, a] [i2, b] where
  TIz := D.TIz
  TOz := D.TOz
  TITO := D.TITO
  TIi1 := D.TIi1
  mem1 := by simp
  zf1 := by simp only [List.mem_cons, List.not_mem_nil, or_false, not_or]; exact ⟨D.i1z.symm, D.l1z.symm⟩
  Tf1 := by simp only [List.mem_cons, List.not_mem_nil, or_false, not_or]; exact ⟨D.TOi1, D.l1TO.symm⟩
  TIi2 := D.TIi2
  mem2 := by simp
  zf2 := by simp only [List.mem_cons, List.not_mem_nil, or_false, not_or]; exact ⟨D.i2z.symm, D.l2z.symm⟩
  Tf2 := by simp only [List.mem_cons, List.not_mem_nil, or_false, not_or]; exact ⟨D.TOi2, D.l2TO.symm⟩
  sep1_2 := by simp only [List.mem_cons, List.not_mem_nil, or_false, not_or]; exact ⟨D.i12, D.l2i1.symm⟩
  sep2_1 := by simp only [List.mem_cons, List.not_mem_nil, or_false, not_or]; exact ⟨D.i12.symm, D.l1i2.symm⟩
theorem turn_zipM {P : Program} {w : World} {K : PySem.W.Frag} {elts : List Expr} {kk : Nat} {tpos : Pos} {a b z TI TO i1 i2 : Addr} (D : ZipApart z TI TO i1 i2 a b) :
    Turn P w K (.Tuple elts kk tpos) (ItzM K a b) [z, TI, TO, i1, i2] z
      (fun i h => IsZip h z TI TO .none ∧ IsPair h TI (.ref i1) (.ref i2) ∧ (∃ x y, IsPair h TO x y) ∧ h.IsTupleIter i1 a i ∧ h.IsListIter i2 b i) where
  mem := List.mem_cons_self
  obj := fun i h st c hc => by
    obtain ⟨hz, hTI, ⟨x, y, hTO⟩, ⟨o1, e1, _, d1⟩, ⟨o2, e2, _, d2⟩⟩ := st
    simp only [List.mem_cons, List.not_mem_nil, or_false] at hc
    rcases hc with rfl | rfl | rfl | rfl | rfl
    · exact ⟨_, hz, fun _ q => nomatch q⟩
    · exact ⟨_, hTI, fun _ q => nomatch q⟩
    · exact ⟨_, hTO, fun _ q => nomatch q⟩
    · exact ⟨o1, e1, fun _ q => by rw [d1] at q; cases q⟩
    · exact ⟨o2, e2, fun _ q => by rw [d2] at q; cases q⟩
  keep := fun i h h' st k => by
    obtain ⟨hz, hTI, ⟨x, y, hTO⟩, h1, h2⟩ := st
    have m1 : i1 ∈ [z, TI, TO, i1, i2] := by simp
    have m2 : i2 ∈ [z, TI, TO, i1, i2] := by simp
    exact ⟨k z (by simp) _ hz, k TI (by simp) _ hTI, ⟨x, y, k TO (by simp) _ hTO⟩, h1.at (k i1 m1), h2.at (k i2 m2)⟩
  item := by
    intro X hP hw hK hc i pins s σ H E I hf st hg
    subst hP hw hK
    obtain ⟨hz, hTI, ⟨x0, y0, hTO⟩, h1, h2⟩ := st
    obtain ⟨xs, ys, x, y, qx, qy, gx, gy⟩ := hg
    obtain ⟨its, rv, p, _⟩ := I.tuple qx
    obtain ⟨its2, rv2, p2, _⟩ := I.list qy
    have lx := rv.length
    have ly := rv2.length
    obtain ⟨bx, _⟩ := List.getElem?_eq_some_iff.mp gx
    obtain ⟨byy, _⟩ := List.getElem?_eq_some_iff.mp gy
    have hzl : z < s.heap.objs.size := Heap.lt_size hz
    have hh : X.A.in1.handled = none := I.ok.hd hc
    refine wpAny_pyNext_zipD2_item (sepM D) (Draws.tuple hh i1 a D.l1i1 its.toArray) (Draws.list hh i2 b D.l2i2 its2.toArray) hz hTI hTO ⟨h1, p⟩ ⟨h2, p2.isList⟩ (by simp; omega) (by simp; omega) fun u u2 h' tk g1 g2 z' TO' s1 s2 hT hsz hk => ?_
    obtain ⟨w1, hw1, ru⟩ := rv.get gx
    obtain ⟨w2, hw2, ru2⟩ := rv2.get gy
    have e1 : w1 = u := by
      have g1' : its[i]? = some u := by simpa using g1
      exact Option.some.inj (hw1.symm.trans g1')
    have e2 : w2 = u2 := by
      have g2' : its2[i]? = some u2 := by simpa using g2
      exact Option.some.inj (hw2.symm.trans g2')
    subst e1 e2
    refine ⟨_, rfl, wpAny_letOwnedTupleGo_zip (s := { s with heap := h', toks := tk }) z' fun h'' z'' sb => ?_⟩
    have hT2 : h''.get? s.heap.objs.size = some { cls := .type "tuple", data := .seq #[w1, w2] } := (sb.2 _ (Nat.ne_of_gt hzl)).trans hT
    have new : ObjOk X.prog X.w (upd H s.heap.objs.size (.tup [x, y])) h'' s.heap.objs.size (.tup [x, y]) :=
      ⟨by show 2 ≤ sizeLine; decide, [w1, w2], .cons ru (.cons ru2 .nil), ⟨_, hT2, rfl, _, rfl⟩⟩
    have far : ∀ c o, c ∉ [z, TI, TO, i1, i2] → s.heap.get? c = some o → h''.get? c = some o := fun c o hb q => by
      simp only [List.mem_cons, List.not_mem_nil, or_false, not_or] at hb
      exact (sb.2 c hb.1).trans (hk c o hb.1 hb.2.2.1 hb.2.2.2.1 hb.2.2.2.2 q)
    have I1 := I.turnedNew (t' := tk) (ch := [z, TI, TO, i1, i2]) far hf (Nat.le_refl _) new
    refine ⟨.ref s.heap.objs.size, _, I1, rfl, ⟨_, x, y, rfl, I.hok.fresh (Nat.le_refl _), rfl, fun l hl => by rw [I.tuple_inj hl qx]; exact gx, fun l hl => by rw [I.list_inj hl qy]; exact gy⟩, ⟨z'', ?_, ⟨w1, w2, ?_⟩, ?_, ?_⟩, fun c hcm => ?_⟩
    · exact (sb.2 _ D.TIz).trans (hk _ _ D.TIz D.TITO D.TIi1 D.TIi2 hTI)
    · exact (sb.2 _ D.TOz).trans TO'
    · exact s1.1.at fun o q => (sb.2 _ D.i1z).trans q
    · exact s2.1.at fun o q => (sb.2 _ D.i2z).trans q
    · have hlt : c < s.heap.objs.size := by
        simp only [List.mem_cons, List.not_mem_nil, or_false] at hcm
        rcases hcm with rfl | rfl | rfl | rfl | rfl
        · exact hzl
        · exact Heap.lt_size hTI
        · exact Heap.lt_size hTO
        · obtain ⟨_, e, _⟩ := h1; exact Heap.lt_size e
        · obtain ⟨_, e, _⟩ := h2; exact Heap.lt_size e
      rw [upd_ne (Nat.ne_of_lt hlt)]
      exact (hf c hcm).1
  done := by
    intro X hP hw hK hc i pins s σ H E I hf st hg
    subst hP hw hK
    obtain ⟨hz, hTI, ⟨x0, y0, hTO⟩, h1, h2⟩ := st
    obtain ⟨xs, ys, qx, qy, le1, le2, hend⟩ := hg
    obtain ⟨its, rv, p, _⟩ := I.tuple qx
    obtain ⟨its2, rv2, p2, _⟩ := I.list qy
    have lx := rv.length
    have ly := rv2.length
    have hh : X.A.in1.handled = none := I.ok.hd hc
    refine wpAny_pyNext_zipD2_end (sepM D) (Draws.tuple hh i1 a D.l1i1 its.toArray) (Draws.list hh i2 b D.l2i2 its2.toArray) hz hTI hTO ⟨h1, p⟩ ⟨h2, p2.isList⟩ (by simp; omega) (by simp; omega) (by simp; omega) fun h' tk hk => ?_
    refine ⟨rfl, I.turnedL (t' := tk) (ch := [z, TI, TO, i1, i2]) (fun c o hb q => ?_) hf⟩
    simp only [List.mem_cons, List.not_mem_nil, or_false, not_or] at hb
    exact hk c o hb.1 hb.2.2.1 hb.2.2.2.1 hb.2.2.2.2 q
  self := fun A i s Q E st h => wpAny_pyIter_zip st.1 h

def iZipM (K : PySem.W.Frag) (ta : TA) : TI := fun σ H R => ta σ H fun vs H1 => ∃ a b xs ys, vs = [.ref a, .ref b] ∧ SqT K H1 a xs ∧ SqL K H1 b ys ∧ R (ItzM K a b) H1
theorem pi_zipM {X : Cx} {e e2 : Expr} {ta : TA} {p pos tpos : Pos} {elts : List Expr} {kk : Nat} (hg : Gl X "zip") (hm : X.mg "zip" = none) (ha : PA X [e, e2] ta)
    (hs : starEach [e, e2] X.env = (false, eval e X.env) :: starEach [e2] X.env := by rfl) (hpl : (backTo pos (starEach [e2] X.env)).any (·.1) = false := by rfl) :
    PI X (.Tuple elts kk tpos) (.Call (.Name "zip" p) [e, e2] [] pos) (iZipM X.K ta) := by
  refine ⟨fun pins s σ H R I h => Call_ (ld_blt I hg hm PyProof.Rows.boot_zip (PyProof.Rows.callWith_type1 (thn (ha.run pos pins s σ H _ I h) ?_) hs hpl))⟩
  intro us s1 ⟨vs, H1, I1, r1, a, b, xs, ys, ex, qx, qy, q⟩
  subst ex
  cases r1 with
  | cons ra rr =>
    cases rr with
    | cons rb rr =>
      cases rr
      cases ra
      cases rb
      obtain ⟨its, rv, p1, _⟩ := I1.tuple qx
      obtain ⟨its2, rv2, p2, _⟩ := I1.list qy
      obtain ⟨o1, ho1, _⟩ := id p1
      refine zip_begins2 (begins_tuple a its.toArray) (begins_list b its2.toArray) p1 p2.isList fun h' hz hTI hTO h1 h2 hsz hk => wpAny_pyIter_zip hz ?_
      have D := PySem.W.ktu_apart s1.heap.objs.size a b (Heap.lt_size ho1) p2.lt
      refine ⟨s1.heap.objs.size + 4, [s1.heap.objs.size + 4, s1.heap.objs.size + 2, s1.heap.objs.size + 3, s1.heap.objs.size, s1.heap.objs.size + 1], _, _, H1, rfl, I1.kept (t' := s1.toks) hk, turn_zipM D, ⟨hz, hTI, ⟨_, _, hTO⟩, ⟨_, h1, rfl, rfl⟩, ⟨_, h2, rfl, rfl⟩⟩, fun c hcm => ?_, q⟩
      have hle : s1.heap.objs.size ≤ c := by
        simp only [List.mem_cons, List.not_mem_nil, or_false] at hcm
        rcases hcm with rfl | rfl | rfl | rfl | rfl
        · exact Nat.le_add_right _ _
        · exact Nat.le_add_right _ _
        · exact Nat.le_add_right _ _
        · exact Nat.le_refl _
        · exact Nat.le_add_right _ _
      exact I1.fpOk hle (I1.hok.fresh hle)
section
variable {K : PySem.W.Frag} {a b : Addr} {xs ys : List V}
theorem walk_zipM (hl : xs.length = ys.length) : Walk (ItzM K a b) xs.length (fun H => SqT K H a xs ∧ SqL K H b ys) (YPair (fun i => xs[i]?) (fun i => ys[i]?)) := by
  refine ⟨fun i _ hi q => ?_, fun _ q => ⟨xs, ys, q.1, q.2, Nat.le_refl _, by omega, .inl rfl⟩, fun i H v H' _ q y => ?_⟩
  · have h2 : i < ys.length := by omega
    exact ⟨xs, ys, xs[i], ys[i], q.1, q.2, by simp [hi], by simp [h2]⟩
  · obtain ⟨T, x, z, h1, h2, h3, h4, h5⟩ := y
    exact ⟨T, x, z, h1, h2, h3, h4 xs q.1, h5 ys q.2⟩
theorem walk_zipT (hl : xs.length = ys.length) : Walk (RZ.ItzT K a b) xs.length (fun H => SqT K H a xs ∧ SqT K H b ys) (YPair (fun i => xs[i]?) (fun i => ys[i]?)) := by
  refine ⟨fun i _ hi q => ?_, fun _ q => ⟨xs, ys, q.1, q.2, .inl (Nat.le_refl _)⟩, fun i H v H' _ q y => ?_⟩
  · have h2 : i < ys.length := by omega
    exact ⟨xs, ys, xs[i], ys[i], q.1, q.2, by simp [hi], by simp [h2]⟩
  · obtain ⟨T, x, z, h1, h2, h3, h4, h5⟩ := y
    exact ⟨T, x, z, h1, h2, h3, h4 xs q.1, h5 ys q.2⟩
end
end RL
namespace RL
open PySem PySem.Spec PyProof.Rows L2

/-! ### a def's promise where nothing is being shown (guards): for the defs that call repr -/
structure FnG (P : Program) (w : World) (K : PySem.W.Frag) (mg : Str → Option Value) (base : Heap) (k : Nat) (f : Addr) (fd : FuncData) (ps : List Str) (sp : Sp) : Prop where
  len : ∀ vs H Q E, sp vs H Q E → vs.length = ps.length
  run : ∀ (A : Around) (outer : List Env) (s : Shared) (H : Hp) (args : Args) (us : List Value) (vs : List V) (Q : VK) (E : XK),
    A.guards = some [] → Room k A → Env0 P w K mg base A outer s H → BindsTo s fd args (ps.zip us) → Vals vs us → sp vs H Q E → codeAny (model P w) A (.call (.ref f) args) (CR CX0 outer P w H s Q E) s

theorem guards_deeper {A : Around} {env : Env} (h : A.guards = some []) : (A.deeper env).guards = some [] := h

section
variable {P : Program} {w : World} {K : PySem.W.Frag} {mg : Str → Option Value} {base : Heap} {k : Nat} {f : Addr} {fd : FuncData} {N ps : List Str} {sp : Sp}
theorem fnG {x qual : Str} {st : Stmt} (F : Fun K x qual st f fd) (S : FnScope N ps (defScope st)) (len : ∀ vs H Q E, sp vs H Q E → vs.length = ps.length)
    (hbody : ∀ (cdv : Value) (A : Around) (outer : List Env) (s : Shared) (H : Hp) (vs : List V) (Q : VK) (E : XK), A.guards = some [] → Room k (A.deeper (envOfC qual (defScope st) s.heap.objs.size f cdv)) → sp vs H Q E →
      ∃ t, PSs (cxOf CX0 P w K mg base N qual (defScope st) f cdv A outer s H E).nox (defBody st) t ∧ t { nx := fun _ H' => Q .non H', rt := Q } (start N vs) H) : FnG P w K mg base (k + 1) f fd ps sp := by
  obtain ⟨oc, od, kV, doc, pm, an, cdv, ct, osl, rfl, lk, hcd⟩ := F.ex
  refine ⟨len, ?_⟩
  intro A outer s H args us vs Q E gd room e0 bnd rel want
  have old : ∀ b o, base.get? b = some o → s.heap.get? b = some o := fun b o e => (e0.bs b o e).1
  refine codeAny_call_function room.depth (e0.mod.kin.keeps old _ _ lk) rfl S.co S.gen rfl (PySem.W.codeRec_of (e0.mod.kin.keeps old) hcd) (bnd _ _ _ _ ?_)
  refine wpAny_newFunctionEnv_cells S.kind ?_ ?_
  · rintro ⟨n, v⟩ hy
    cases S.par n (List.of_mem_zip hy).1 with
    | inl q => exact .inl q
    | inr q => exact .inr ⟨q, PySem.W.cellsFrom_some _ _ _ (.inl q)⟩
  · rintro env rfl s1 x
    obtain ⟨t, ht, ht2⟩ := hbody cdv A outer s H vs Q E gd (room.deeper _) want
    refine ⟨(e0.mod.nolimit.keeps old).keeps x.toInCall.keep, codeAny_func ?_⟩
    have I := inv_start (CX := CX0) (P := P) (w := w) (E := E) S room.hd e0 (len _ _ _ _ want) rel x
    refine wpAny_mono (ht.nox.run [] s1 (start N vs) H _ I ht2) ?_ fun _ _ z => z
    rintro (_ | _ | _ | u) s' hs
    · obtain ⟨σ', H', J, q⟩ := hs
      exact ⟨V.non, H', J.os, J.bare, J.base, J.hok, rfl, q⟩
    · obtain ⟨_, _, _, q⟩ := hs
      exact q.elim
    · obtain ⟨_, _, _, q⟩ := hs
      exact q.elim
    · obtain ⟨v, σ', H', J, rv, q⟩ := hs
      exact ⟨v, H', J.os, J.bare, J.base, J.hok, rv, q⟩
end

section
variable {X : Cx} {k : Nat} {f : Addr} {fd : FuncData} {ps : List Str} {sp : Sp} {x : Str} {p pos : Pos} {e : Expr} {es : List Expr} {t : TA}
theorem pe_callG (F : FnG X.prog X.w X.K X.mg X.base k f fd ps sp) (gd : X.A.guards = some []) (hr : Room k X.A) (hg : Gl X x) (hm : X.mg x = some (.ref f)) (hk : PySem.W.keepIn X.K (.ref f) = true) (hb : Binds X.K fd ps [])
    (ha : PA X (e :: es) t) (hdb : (x == ("__debug__" : Str)) = false := by decide) (he : starEach (e :: es) X.env = (false, eval e X.env) :: starEach es X.env := by rfl) (hpl : (backTo pos (starEach es X.env)).any (·.1) = false := by rfl) :
    PE X (.Call (.Name x p) (e :: es) [] pos) (tCall sp [] E0 t) := by
  constructor
  intro pins s σ H Q I h
  refine wpAny_Call_Name_kw (ld_glob I hg hm (PySem.W.callWith_K (h₀ := X.base) I.ok.mod.kin hk (thn (ha.run pos pins s σ H _ I h) ?_) he hpl) hdb)
  rintro us s1 ⟨vs, H1, I1, r, q⟩
  rw [List.append_nil] at q
  have hl : us.length = ps.length := by rw [← r.length]; exact F.len _ _ _ _ q
  have bb := hb s1 us I1.kIn (by rw [List.append_nil]; exact hl)
  rw [List.append_nil] at bb
  refine ⟨I1.kIn, wpAny_call (codeAny_mono (F.run X.A X.stack s1 H1 ⟨us, []⟩ us vs Q E0 gd hr I1.env0 bb r q) ?_)⟩
  rintro (e | fl) s' hq
  · exact hq.elim
  · cases fl with
    | ret u => exact I1.after hq
    | next => exact hq.elim
    | brk => exact hq.elim
    | cont => exact hq.elim
end

/-! ### the law's own call, at the caller's place, where no guard stands -/
theorem callG {P : Program} {w : World} {K : PySem.W.Frag} {mg mb : Str → Option Value} {k : Nat} {fa a : Addr} {fd : FuncData} {x : Str} {sp : Sp} {t : Shared} {vs : List Value} {ns : List Int}
    (KX : K.In t.heap) (hns : t.heap.Ns mainGlobals mg) (hb : t.heap.Ns builtinsNs mb) (hbb : ∀ x : Str, x ≠ "__name__" → mb x = bootBuiltins x) (hlim : t.heap.NoLimit) (hg : t.gens = #[])
    (ha : t.heap.get? a = some { cls := .type "list", data := .seq vs.toArray }) (hi : IntsAre vs ns) (hl : ns.length ≤ sizeLine) (hr : Room k callerA)
    (F : ∀ base : Heap, K.In base → base.Ns mainGlobals mg → FnG P w K mg base k fa fd [x] sp) (hbind : ∀ (s : Shared) (u : Value), BindsTo s fd ⟨[u], []⟩ [(x, u)])
    (H : Hp) (hO : Only H) (hok : HOk P w H t.heap) (hA : ∀ b, H b ≠ none → b = a) (hK : H a ≠ none → K.lookup a = none)
    (hsp : sp [.ref a] H (fun v _ => v = .bl true) fun _ _ _ => False) :
    codeAny (model P w) callerA (.call (.ref fa) ⟨[.ref a], []⟩) (fun r s' => r = .ok (.ret (.bool true)) ∧ PySem.OldK t.heap s'.heap ∧ s'.os = t.os ∧ AllBare s'.gens) t := by
  have free : ∀ {b : Addr} {o : Obj}, t.heap.get? b = some o → (∀ vv : Array Value, ∀ n, o.data ≠ .seq vv n) → H b = none := fun {b o} e d => by
    cases q : H b with
    | none => rfl
    | some u =>
      have e' : b = a := hA b (by rw [q]; exact nofun)
      subst e'
      rw [ha] at e
      cases e
      exact absurd rfl (d _ _)
  have nsK : ∀ {b : Addr} {m : Str → Option Value}, t.heap.Ns b m → (hidT t.heap H).Ns b m := fun ⟨o, es, ep, e, d, r⟩ =>
    ⟨o, es, ep, hidT_get e (free e fun vv n z => by rw [d] at z; cases z), d, r⟩
  have inB : K.In (hidT t.heap H) := fun b o e => by
    refine hidT_get (KX b o e) ?_
    cases q : H b with
    | none => rfl
    | some u =>
      have e' : b = a := hA b (by rw [q]; exact nofun)
      subst e'
      rw [hK (by rw [q]; exact nofun)] at e
      cases e
  have lim2 : (hidT t.heap H).NoLimit := by
    obtain ⟨mc, h1, h2⟩ := hlim
    exact ⟨mc, nsK h1, h2⟩
  have e0 : Env0 P w K mg (hidT t.heap H) callerA [] t H :=
    { frames := rfl, mod := ⟨inB, nsK hns, ⟨mb, nsK hb, hbb⟩, lim2⟩, bs := fun b o e => of_hidT e, bsz := Nat.le_of_eq (hidT_size _ _), funs := trivial, frf := nofun, hok := hok, bare := .of_eq hg }
  refine codeAny_mono ((F _ inB (nsK hns)).run callerA [] t H ⟨[.ref a], []⟩ [.ref a] [.ref a] _ _ rfl hr e0 (hbind t (.ref a)) (.cons rfl .nil) hsp) ?_
  rintro (e | fl) s' h
  · exact h.elim
  · cases fl with
    | next => exact h.elim
    | brk => exact h.elim
    | cont => exact h.elim
    | ret u =>
      obtain ⟨v, H', os, bare, un, hok', r', q⟩ := h
      obtain rfl : v = .bl true := q
      obtain rfl : u = Value.bool true := r'
      refine ⟨rfl, PySem.OldK.of_keep fun b o e => ?_, os, bare⟩
      cases q : H b with
      | none => exact un.keep b o e q nofun nofun
      | some z0 =>
        cases hO b with
        | inl z => rw [q] at z; cases z
        | inr z =>
          obtain ⟨ob, xs, z⟩ := z
          have e1 := (hok b _ z).1
          have e2 := (hok' b _ (un.frzs b ob _ z)).1
          rw [e] at e1
          cases e1
          exact e2
theorem walkG {l : PySem.W.OpenLaw} {n k : Nat} {q : Program} {loose : List Str} {XP : (Str → Option Value) → Heap → Prop} {YP : World → Heap → Prop} {d : DefRec} {K : Params → PySem.W.Frag} {sp : PySem.W.Frag → Sp} {x : Str}
    (hn : l.most = some n) (hn2 : n ≤ sizeLine) (hdf : d.params.defaults = []) (hr : Room k callerA)
    (hY : ∀ (w : World) (h : Heap), YP w h → (K w.params).In h)
    (F : ∀ (w : World) (mg : Str → Option Value) (fa : Addr) (h : Heap), (K w.params).In h → h.Ns mainGlobals mg → mg d.name = some (.ref fa) →
      ∃ fd : FuncData, (∀ (s : Shared) (u : Value), BindsTo s fd ⟨[u], []⟩ [(x, u)]) ∧
        ∀ base : Heap, (K w.params).In base → base.Ns mainGlobals mg → FnG l.prog w (K w.params) mg base k fa fd [x] (sp (K w.params)))
    (hsp : ∀ (K : PySem.W.Frag) (H : Hp) (a : Addr) (ns : List Int), ns.length ≤ n → SqL K H a (ns.map V.int) → sp K [.ref a] H (fun v _ => v = .bl true) fun _ _ _ => False) :
    PySem.W.WalkO q loose XP YP l.row.toRowW d [] (fun f vs => PySem.call f vs) := by
  refine Att.attach_call hn hdf ?_
  intro w s0 t mg mb fa o pm cd doc a vs ns G Y ho hd hcd hmg hobj hints hlen hg
  have KX := hY w _ Y
  obtain ⟨fd, hb, hF⟩ := F w mg fa _ KX G.T.g hmg
  have hl : ns.length ≤ sizeLine := Nat.le_trans hlen hn2
  have rv := vals_ints hints
  have lv := hints.length
  have go := callG KX G.T.g G.T.b G.T.builtins G.T.nolimit hg hobj hints hl hr hF hb
  cases hk : (K w.params).lookup a with
  | some ob =>
    have e := KX a ob hk
    rw [hobj] at e
    cases e
    exact go (fun _ => none) (fun _ => .inl rfl) (fun b u z => nomatch z) (fun b z => absurd rfl z) (fun z => absurd rfl z)
      (hsp _ _ a ns hlen (.inr ⟨_, vs.toArray, _, hk, rfl, rfl, rfl, by rw [List.size_toArray, lv]; exact hl, by simpa using rv⟩))
  | none =>
    have here : upd (fun _ => none) a (.frz { cls := .type "list", data := .seq vs.toArray } (.lst (ns.map V.int))) a = some (.frz { cls := .type "list", data := .seq vs.toArray } (.lst (ns.map V.int))) := upd_same
    have only : ∀ b, b ≠ a → upd (fun _ => none) a (.frz { cls := .type "list", data := .seq vs.toArray } (.lst (ns.map V.int))) b = none := fun b hne => upd_ne hne
    refine go (upd (fun _ => none) a (.frz { cls := .type "list", data := .seq vs.toArray } (.lst (ns.map V.int)))) (fun b => ?_) (fun b u z => ?_) (fun b z => ?_) (fun _ => hk) (hsp _ _ a ns hlen (.inl (.inr ⟨_, here⟩)))
    · by_cases hba : b = a
      · subst hba; exact .inr ⟨_, _, here⟩
      · exact .inl (only b hba)
    · by_cases hba : b = a
      · subst hba
        rw [here] at z
        cases z
        exact ⟨hobj, by rw [List.length_map]; exact hl, vs, _, rv, hobj⟩
      · rw [only b hba] at z
        cases z
    · by_cases hba : b = a
      · exact hba
      · exact absurd (only b hba) z
end RL
namespace RL
open PySem PySem.Spec PyProof.Rows L2

/-! ### heaps: what was tracked stays; tuples stay -/
theorem same_new {H : Hp} {p : Addr} {o : HO} (h : H p = none) : Same H (upd H p o) := fun b x e => by
  rw [upd_ne (ne_of_none e h)]
  exact e
theorem Same.mut {H H' : Hp} {p : Addr} {o : HO} (e : Same H H') (h : H p = none) : Same H (upd H' p o) := fun b x eb => by
  rw [upd_ne (ne_of_none eb h)]
  exact e b x eb
theorem Same.back {H H' : Hp} {p : Addr} (e : Same H H') (h : H' p = none) : H p = none := e.free h
def TupO : HO → Prop
  | .tup _ => True
  | .frz _ (.tup _) => True
  | _ => False
/-- all tuples stay -/
def TS (H H' : Hp) : Prop := ∀ b o, TupO o → H b = some o → H' b = some o
theorem TS.refl (H : Hp) : TS H H := fun _ _ _ h => h
theorem TS.trans {H H1 H2 : Hp} (a : TS H H1) (b : TS H1 H2) : TS H H2 := fun c o t h => b c o t (a c o t h)
theorem Same.ts {H H' : Hp} (e : Same H H') : TS H H' := fun b o _ h => e b o h
theorem TS.lst {H H' : Hp} {a : Addr} {xs ys : List V} (e : TS H H') (h : H a = some (.lst xs)) : TS H (upd H' a (.lst ys)) := fun b o t hb => by
  have ne : b ≠ a := ne_of hb h (fun z => by rw [z] at t; exact t)
  rw [upd_ne ne]
  exact e b o t hb
theorem TS.new {H H' : Hp} {p : Addr} {o : HO} (e : TS H H') (h : H p = none) : TS H (upd H' p o) := fun b x t eb => by
  rw [upd_ne (ne_of_none eb h)]
  exact e b x t eb
theorem TS.sq {K : PySem.W.Frag} {H H' : Hp} {a : Addr} {xs : List V} (e : TS H H') (h : SqT K H a xs) : SqT K H' a xs := by
  rcases h with (h | ⟨o, h⟩) | h
  · exact .inl (.inl (e _ _ trivial h))
  · exact .inl (.inr ⟨o, e _ _ trivial h⟩)
  · exact .inr h
theorem Same.sqT {K : PySem.W.Frag} {H H' : Hp} {a : Addr} {xs : List V} (e : Same H H') (h : SqT K H a xs) : SqT K H' a xs := (Same.ts e).sq h
/-- all but one object stay -/
def But (a : Addr) (H H' : Hp) : Prop := ∀ b o, b ≠ a → H b = some o → H' b = some o
theorem But.refl (a : Addr) (H : Hp) : But a H H := fun _ _ _ h => h
theorem But.trans {a : Addr} {H H1 H2 : Hp} (x : But a H H1) (y : But a H1 H2) : But a H H2 := fun c o n h => y c o n (x c o n h)
theorem Same.but {a : Addr} {H H' : Hp} (e : Same H H') : But a H H' := fun b o _ h => e b o h
theorem But.upd {a : Addr} {H H' : Hp} {o : HO} (e : But a H H') : But a H (L2.upd H' a o) := fun b u n h => by
  rw [upd_ne n]
  exact e b u n h
theorem But.ts {a : Addr} {H H' : Hp} {xs ys : List V} (e : But a H H') (h : H a = some (.lst xs)) (_h' : H' a = some (.lst ys)) : TS H H' := fun b o t hb =>
  e b o (ne_of hb h fun z => by rw [z] at t; exact t) hb
/-- but for one list, all stays -/
theorem But.seq {K : PySem.W.Frag} {a b : Addr} {H H' : Hp} {xs : List V} (e : But a H H') (n : b ≠ a) (h : SqL K H b xs) : SqL K H' b xs := by
  rcases h with (h | ⟨o, h⟩) | h
  · exact .inl (.inl (e _ _ n h))
  · exact .inl (.inr ⟨o, e _ _ n h⟩)
  · exact .inr h
theorem But.new {a p : Addr} {H H' : Hp} {o : HO} (e : But a H H') (h : H p = none) : But a H (L2.upd H' p o) := fun b u n hb => by
  rw [upd_ne (ne_of_none hb h)]
  exact e b u n hb
theorem But.back {a p : Addr} {H H' : Hp} (e : But a H H') (n : p ≠ a) (h : H' p = none) : H p = none := by
  cases q : H p with
  | none => rfl
  | some o => rw [e p o n q] at h; cases h

/-! ### data made of tuples alone -/
mutual
def tupD : PyData → Bool
  | .tuple ds => tupAll ds
  | .list _ => false
  | .dict _ => false
  | _ => true
def tupAll : List PyData → Bool
  | [] => true
  | d :: ds => tupD d && tupAll ds
end
mutual
theorem dp_ts {K : PySem.W.Frag} {H H' : Hp} (e : TS H H') : ∀ (d : PyData) (v : V), tupD d = true → Dp K H v d → Dp K H' v d
  | .none, _, _, h => by cases h; exact .non
  | .bool b, _, _, h => by cases h; exact .bl b
  | .int i, _, _, h => by cases h; exact .int i
  | .str x, _, _, h => by cases h; exact .str x
  | .list _, _, t, _ => by cases t
  | .dict _, _, t, _ => by cases t
  | .tuple ds, _, t, h => by
    cases h with
    | tup hs ha => exact .tup (e.sq hs) (dpAll_ts e ds _ t ha)
theorem dpAll_ts {K : PySem.W.Frag} {H H' : Hp} (e : TS H H') : ∀ (ds : List PyData) (vs : List V), tupAll ds = true → DpAll K H vs ds → DpAll K H' vs ds
  | [], _, _, h => by cases h; exact .nil
  | d :: ds, _, t, h => by
    have t2 : (tupD d && tupAll ds) = true := t
    simp only [Bool.and_eq_true] at t2
    cases h with
    | cons h1 h2 => exact .cons (dp_ts e d _ t2.1 h1) (dpAll_ts e ds _ t2.2 h2)
end
section
variable {K : PySem.W.Frag} {H : Hp}
theorem DpAll.length : ∀ {vs : List V} {ds : List PyData}, DpAll K H vs ds → vs.length = ds.length
  | _, _, .nil => rfl
  | _, _, .cons _ h => by simp [DpAll.length h]
theorem DpAll.get : ∀ {vs : List V} {ds : List PyData} {i : Nat} {v : V}, DpAll K H vs ds → vs[i]? = some v → ∃ d, ds[i]? = some d ∧ Dp K H v d
  | _, _, _, _, .nil, h => by simp at h
  | _, _, 0, _, .cons h1 _, h => by
    have e := Option.some.inj (show some _ = some _ from h)
    subst e
    exact ⟨_, rfl, h1⟩
  | _, _, i + 1, _, .cons _ h2, h => DpAll.get (i := i) h2 (by simpa using h)
theorem DpAll.snoc : ∀ {vs : List V} {ds : List PyData} {v : V} {d : PyData}, DpAll K H vs ds → Dp K H v d → DpAll K H (vs ++ [v]) (ds ++ [d])
  | _, _, _, _, .nil, h => .cons h .nil
  | _, _, _, _, .cons h1 h2, h => .cons h1 (DpAll.snoc h2 h)
end

/-! ### numbers, tuples of numbers, attributes, schemes -/
abbrev vN (n : Nat) : V := V.int (n : Int)
abbrev Att := Nat × List (List Nat)
def eN (n : Nat) : PyData := .int (n : Int)
def eT (ns : List Nat) : PyData := .tuple (ns.map eN)
def eSt (ss : List (List Nat)) : PyData := .tuple (ss.map eT)
def eA (a : Att) : PyData := .tuple [eN a.1, eSt a.2]
def eS (S : List Att) : PyData := .tuple (S.map eA)
theorem tupAll_map {α : Type} {f : α → PyData} (h : ∀ x, tupD (f x) = true) : ∀ xs : List α, tupAll (xs.map f) = true
  | [] => rfl
  | x :: xs => by
    show (tupD (f x) && tupAll (xs.map f)) = true
    rw [h x, tupAll_map h xs]
    rfl
theorem tup_eT (ns : List Nat) : tupD (eT ns) = true := tupAll_map (f := eN) (fun _ => rfl) ns
theorem tup_eSt (ss : List (List Nat)) : tupD (eSt ss) = true := tupAll_map (f := eT) tup_eT ss
theorem tup_eA (a : Att) : tupD (eA a) = true := by
  show (tupD (eN a.1) && (tupD (eSt a.2) && true)) = true
  rw [tup_eSt]
  rfl
theorem tup_eS (S : List Att) : tupD (eS S) = true := tupAll_map (f := eA) tup_eA S
section
variable {K : PySem.W.Frag} {H H' : Hp}
theorem dpN : ∀ {ns : List Nat} {vs : List V}, DpAll K H vs (ns.map eN) → vs = ns.map vN
  | [], _, h => by cases h; rfl
  | n :: ns, _, h => by
    cases h with
    | cons h1 h2 =>
      cases h1
      rw [dpN h2]
      rfl
theorem dpN_mk : ∀ ns : List Nat, DpAll K H (ns.map vN) (ns.map eN)
  | [] => .nil
  | n :: ns => .cons (.int _) (dpN_mk ns)
theorem dpT {ns : List Nat} {v : V} (h : Dp K H v (eT ns)) : ∃ a, v = .ref a ∧ SqT K H a (ns.map vN) := by
  cases h with
  | tup hs ha => exact ⟨_, rfl, by rw [← dpN ha]; exact hs⟩
theorem dpT_mk {ns : List Nat} {a : Addr} (h : SqT K H a (ns.map vN)) : Dp K H (.ref a) (eT ns) := .tup h (dpN_mk ns)
theorem dpSt {ss : List (List Nat)} {v : V} (h : Dp K H v (eSt ss)) : ∃ a xs, v = .ref a ∧ SqT K H a xs ∧ DpAll K H xs (ss.map eT) := by
  cases h with
  | tup hs ha => exact ⟨_, _, rfl, hs, ha⟩
theorem dpA {a : Att} {v : V} (h : Dp K H v (eA a)) : ∃ p q, v = .ref p ∧ SqT K H p [vN a.1, q] ∧ Dp K H q (eSt a.2) := by
  cases h with
  | tup hs ha =>
    cases ha with
    | cons h1 h2 =>
      cases h1
      cases h2 with
      | cons h3 h4 =>
        cases h4
        exact ⟨_, _, rfl, hs, h3⟩
theorem dpS {S : List Att} {v : V} (h : Dp K H v (eS S)) : ∃ a xs, v = .ref a ∧ SqT K H a xs ∧ DpAll K H xs (S.map eA) := by
  cases h with
  | tup hs ha => exact ⟨_, _, rfl, hs, ha⟩
theorem dpT_ts {ns : List Nat} {v : V} (e : TS H H') (h : Dp K H v (eT ns)) : Dp K H' v (eT ns) := dp_ts e _ _ (tup_eT ns) h
theorem dpS_ts {S : List Att} {v : V} (e : TS H H') (h : Dp K H v (eS S)) : Dp K H' v (eS S) := dp_ts e _ _ (tup_eS S) h
theorem dpA_ts {a : Att} {v : V} (e : TS H H') (h : Dp K H v (eA a)) : Dp K H' v (eA a) := dp_ts e _ _ (tup_eA a) h
theorem dpSt_ts {ss : List (List Nat)} {v : V} (e : TS H H') (h : Dp K H v (eSt ss)) : Dp K H' v (eSt ss) := dp_ts e _ _ (tup_eSt ss) h
end

/-! ### what a def hands back, all that was tracked as it was -/
def ret (H : Hp) (v : V) (Q : VK) : Prop := ∀ H', Same H H' → Q v H'
def retL (H : Hp) (xs : List V) (Q : VK) : Prop := ∀ H' p, Same H H' → H p = none → H' p = some (.lst xs) → Q (.ref p) H'
def retD (K : PySem.W.Frag) (H : Hp) (d : PyData) (Q : VK) : Prop := ∀ H' v, Same H H' → Dp K H' v d → Q v H'
theorem ret.mono {H H1 : Hp} {v : V} {Q : VK} (e : Same H H1) (h : ret H v Q) : ret H1 v Q := fun H2 e2 => h H2 (e.trans e2)
theorem retL.mono {H H1 : Hp} {xs : List V} {Q : VK} (e : Same H H1) (h : retL H xs Q) : retL H1 xs Q := fun H2 p e2 n q => h H2 p (e.trans e2) (e.free n) q
theorem retD.mono {K : PySem.W.Frag} {H H1 : Hp} {d : PyData} {Q : VK} (e : Same H H1) (h : retD K H d Q) : retD K H1 d Q := fun H2 v e2 q => h H2 v (e.trans e2) q

/-! ### the reading of a comprehension -/
theorem small {n : Nat} (h : n ≤ 5000) : n < sizeLine := Nat.lt_of_le_of_lt h (by decide)
section
variable {J : It} {n : Nat} {G : Hp → Prop} {Y : Nat → Hp → V → Hp → Prop} {g : TG} {te : TE} {vs : List Nat} {σ : L2.St} {H1 : Hp} {D : Addr} {Qd : Hp → Prop}
theorem lc_gen (w : Walk J n G Y) (hn : n ≤ 5000) (R : Nat → List V → Hp → Prop) (h0 : R 0 [] (upd H1 D (.lst [])))
    (hG : ∀ i acc H, i ≤ n → R i acc H → G H)
    (hs : ∀ i x acc H H' (K2 : V → Hp → Prop), i < n → acc.length = i → H D = some (.lst acc) → R i acc H →
      (∀ y H4, H4 D = some (.lst acc) → R (i + 1) (acc ++ [y]) (upd H4 D (.lst (acc ++ [y]))) → K2 y H4) → Y i H x H' →
      g x (wipe σ vs) H' fun σ2 H2 => wipe σ2 vs = wipe σ vs ∧ te σ2 H2 K2)
    (hd : ∀ acc H, acc.length = n → H D = some (.lst acc) → R n acc H → Qd H) :
    ∃ W : Nat → Nat → Hp → Prop, (∃ m, W 0 m (upd H1 D (.lst []))) ∧ ∀ i m H, W i m H →
      (J.stop i H ∧ Qd H) ∨ (J.go i H ∧ ∃ Nx : Hp → Prop, (∀ H', Nx H' → ∃ m', m' < m ∧ W (i + 1) m' H') ∧ ∀ x H', J.yld i H x H' → g x (wipe σ vs) H' fun σ2 H2 => wipe σ2 vs = wipe σ vs ∧ tYes σ2 H2 fun b H3 =>
        if b = true then te σ2 H3 fun y H4 => ∃ acc, H4 D = some (.lst acc) ∧ acc.length < sizeLine ∧ Nx (upd H4 D (.lst (acc ++ [y]))) else Nx H3) := by
  refine lc_it w (fun i H => ∃ acc, acc.length = i ∧ H D = some (.lst acc) ∧ R i acc H) ⟨[], rfl, upd_same, h0⟩ (fun i H hi ⟨acc, _, _, r⟩ => hG i acc H hi r) (fun i x H H' hi hp y => ?_) fun H ⟨acc, l, e, r⟩ => hd acc H l e r
  obtain ⟨acc, l, e, r⟩ := hp
  exact hs i x acc H H' (fun y H4 => ∃ acc, H4 D = some (.lst acc) ∧ acc.length < sizeLine ∧ ∃ acc', acc'.length = i + 1 ∧ (upd H4 D (.lst (acc ++ [y]))) D = some (.lst acc') ∧ R (i + 1) acc' (upd H4 D (.lst (acc ++ [y])))) hi l e r
    (fun y H4 e4 r4 => ⟨acc, e4, small (by omega), acc ++ [y], by simp [l], upd_same, r4⟩) y
theorem lc_pure (w : Walk J n G Y) (hn : n ≤ 5000) (f : Nat → V) (hD : H1 D = none) (hG : ∀ H, Same H1 H → G H)
    (hs : ∀ i x H H' (K2 : V → Hp → Prop), i < n → Same H1 H → (∀ y H4, y = f i → Same H H4 → K2 y H4) → Y i H x H' →
      g x (wipe σ vs) H' fun σ2 H2 => wipe σ2 vs = wipe σ vs ∧ te σ2 H2 K2)
    (hd : ∀ H, Same H1 H → H D = some (.lst ((List.range n).map f)) → Qd H) :
    ∃ W : Nat → Nat → Hp → Prop, (∃ m, W 0 m (upd H1 D (.lst []))) ∧ ∀ i m H, W i m H →
      (J.stop i H ∧ Qd H) ∨ (J.go i H ∧ ∃ Nx : Hp → Prop, (∀ H', Nx H' → ∃ m', m' < m ∧ W (i + 1) m' H') ∧ ∀ x H', J.yld i H x H' → g x (wipe σ vs) H' fun σ2 H2 => wipe σ2 vs = wipe σ vs ∧ tYes σ2 H2 fun b H3 =>
        if b = true then te σ2 H3 fun y H4 => ∃ acc, H4 D = some (.lst acc) ∧ acc.length < sizeLine ∧ Nx (upd H4 D (.lst (acc ++ [y]))) else Nx H3) := by
  refine lc_gen w hn (fun i acc H => Same H1 H ∧ acc = (List.range i).map f) ⟨same_new hD, rfl⟩ (fun i acc H _ r => hG H r.1) (fun i x acc H H' K2 hi l e r k y => ?_) fun acc H l e r => hd H r.1 (by rw [← r.2]; exact e)
  refine hs i x H H' K2 hi r.1 (fun y H4 ey e4 => k y H4 (e4 _ _ e) ⟨Same.mut (r.1.trans e4) hD, ?_⟩) y
  rw [List.range_succ, List.map_append, r.2, ey]
  rfl
end
end RL
namespace RL
open PySem
/-! ### steps, attributes, schemes, rollups: the mathematics -/
theorem sorted_ext : ∀ (xs ys : List Int), xs.Pairwise (· < ·) → ys.Pairwise (· < ·) → (∀ k, k ∈ xs ↔ k ∈ ys) → xs = ys
  | [], [], _, _, _ => rfl
  | [], y :: ys, _, _, h => by have := (h y).mpr List.mem_cons_self; cases this
  | x :: xs, [], _, _, h => by have := (h x).mp List.mem_cons_self; cases this
  | x :: xs, y :: ys, hx, hy, h => by
    rw [List.pairwise_cons] at hx hy
    have e : x = y := by
      have h1 := (h x).mp List.mem_cons_self
      have h2 := (h y).mpr List.mem_cons_self
      rcases List.mem_cons.mp h1 with e | m1
      · exact e
      · rcases List.mem_cons.mp h2 with e | m2
        · exact e.symm
        · have a := hy.1 x m1
          have b := hx.1 y m2
          omega
    subst e
    have : xs = ys := sorted_ext xs ys hx.2 hy.2 fun k => by
      constructor
      · intro hk
        have := (h k).mp (List.mem_cons_of_mem _ hk)
        rcases List.mem_cons.mp this with e | m
        · have := hx.1 k hk; omega
        · exact m
      · intro hk
        have := (h k).mpr (List.mem_cons_of_mem _ hk)
        rcases List.mem_cons.mp this with e | m
        · have := hy.1 k hk; omega
        · exact m
    rw [this]
theorem range_sorted (m : Nat) : ((List.range m).map fun (i : Nat) => (i : Int)).Pairwise (· < ·) := by
  rw [List.pairwise_map]
  exact List.pairwise_lt_range.imp fun h => by omega
/-- the greatest of the numbers, one more -/
def top1 (s : List Nat) : Nat := s.foldl max 0 + 1
def StepOk (below : Nat) (s : List Nat) : Prop := s.length = below ∧ ∃ m, 0 < m ∧ m < below ∧ ∀ g, g ∈ s ↔ g < m
theorem foldl_max_le : ∀ (s : List Nat) (a : Nat), a ≤ s.foldl max a ∧ (∀ g ∈ s, g ≤ s.foldl max a) ∧ (s.foldl max a = a ∨ s.foldl max a ∈ s)
  | [], a => ⟨Nat.le_refl _, by simp, .inl rfl⟩
  | x :: s, a => by
    obtain ⟨h1, h2, h3⟩ := foldl_max_le s (max a x)
    refine ⟨by rw [List.foldl_cons]; omega, fun g hg => ?_, ?_⟩
    · rw [List.foldl_cons]
      rcases List.mem_cons.mp hg with e | m
      · omega
      · exact h2 g m
    · rw [List.foldl_cons]
      rcases h3 with e | m
      · by_cases hax : a ≤ x
        · rw [e, Nat.max_eq_right hax]; exact .inr List.mem_cons_self
        · rw [e]; left; omega
      · exact .inr (List.mem_cons_of_mem _ m)
theorem top1_of {s : List Nat} {m : Nat} (h0 : 0 < m) (h : ∀ g, g ∈ s ↔ g < m) : top1 s = m := by
  obtain ⟨h1, h2, h3⟩ := foldl_max_le s 0
  unfold top1
  have a := h2 (m - 1) ((h _).mpr (by omega))
  rcases h3 with e | e
  · omega
  · have := (h _).mp e; omega
def StepsOk : Nat → List (List Nat) → Prop
  | _, [] => True
  | b, s :: r => StepOk b s ∧ StepsOk (top1 s) r
def AttOk (a : Att) : Prop := 1 ≤ a.1 ∧ a.1 ≤ 6 ∧ a.2.length ≤ 3 ∧ StepsOk a.1 a.2
def prodN (ns : List Nat) : Nat := ns.foldl (· * ·) 1
def SchOk (S : List Att) : Prop := 1 ≤ S.length ∧ S.length ≤ 3 ∧ (∀ a ∈ S, AttOk a) ∧ prodN (S.map (·.1)) ≤ 60
/-- a rollup of the scheme -/
def RollOk (S : List Att) (r : List Nat) : Prop := r.length = S.length ∧ ∀ (i : Nat) (a : Att) (l : Nat), S[i]? = some a → r[i]? = some l → l < a.2.length + 1
theorem foldl_max_int : ∀ (s : List Nat) (a : Nat), (s.map fun (n : Nat) => (n : Int)).foldl max (a : Int) = ((s.foldl max a : Nat) : Int)
  | [], _ => rfl
  | x :: s, a => by
    rw [List.map_cons, List.foldl_cons, List.foldl_cons]
    have e : max (a : Int) (x : Int) = ((max a x : Nat) : Int) := by omega
    rw [e]
    exact foldl_max_int s (max a x)
theorem listD_ok (ns : List Int) : SeqAt.shaped (.list (ns.map PyData.int)) = true ∧ PyData.eqv (.list (ns.map PyData.int)) (.list (ns.map PyData.int)) = true := by
  have h1 : ∀ ns : List Int, PyData.canLayAll0 (ns.map PyData.int) = true := by
    intro ns
    induction ns with
    | nil => rfl
    | cons n r ih => show (true && PyData.canLayAll0 (r.map PyData.int)) = true; rw [ih]; rfl
  have h2 : PyData.canLay0 (.list (ns.map PyData.int)) = true := h1 ns
  refine ⟨?_, SeqAt.eqv_refl _ h2⟩
  unfold SeqAt.shaped
  rw [h2]
  have h3 : PyData.depth (.list (ns.map PyData.int)) ≤ 64 := by
    show PyData.depthAll (ns.map PyData.int) + 1 ≤ 64
    rw [depth_ints]
    decide
  rw [decide_eq_true h3]
  rfl
theorem dpI_mk {K : PySem.W.Frag} {H : L2.Hp} : ∀ ns : List Int, L2.DpAll K H (ns.map L2.V.int) (ns.map PyData.int)
  | [] => .nil
  | n :: ns => .cons (.int n) (dpI_mk ns)
end RL
namespace RL
open PySem PySem.Spec PyProof.Rows L2

/-! ### zip of several tuples of one length -/
theorem forIn_zipIdx {β : Type} {M : Model} {A : Around} {E : Value → Shared → Prop} (body : Value × Nat → β → Sem (ForInStep β)) (b0 : β) (Iv : Nat → Shared → Prop) (Q : β → Shared → Prop) :
    ∀ (xs : List Value) (k : Nat) (s : Shared), Iv k s → (∀ j x s, xs[j]? = some x → Iv (k + j) s → wpAny M A (body (x, k + j) b0) (fun r s' => r = .yield b0 ∧ Iv (k + j + 1) s') E s) →
      (∀ s', Iv (k + xs.length) s' → Q b0 s') → wpAny M A (forIn (xs.zipIdx k) b0 body) Q E s
  | [], k, s, h0, _, hd => by
    simp only [List.zipIdx_nil, List.forIn_nil]
    exact wpAny_pure (hd s (by simpa using h0))
  | x :: xs, k, s, h0, hs, hd => by
    simp only [List.zipIdx_cons, List.forIn_cons]
    refine wpAny_bind (wpAny_mono (hs 0 x s rfl (by simpa using h0)) (fun r s' ⟨e, h1⟩ => ?_) fun _ _ z => z)
    subst e
    refine forIn_zipIdx body b0 Iv Q xs (k + 1) s' (by simpa using h1) (fun j y s2 hj h2 => ?_) fun s2 h2 => hd s2 ?_
    · have e1 : k + 1 + j = k + (j + 1) := by omega
      rw [e1] at h2 ⊢
      exact hs (j + 1) y s2 (by simpa using hj) h2
    · rw [List.length_cons]
      have e1 : k + (xs.length + 1) = k + 1 + xs.length := by omega
      rw [e1]
      exact h2

abbrev tupN (h : Heap) (T : Addr) (vs : List Value) : Prop := h.get? T = some { cls := .type "tuple", data := .seq vs.toArray }
structure ZA (z TI TO : Addr) (its src : List Addr) : Prop where
  TIz : TI ≠ z
  TOz : TO ≠ z
  TITO : TI ≠ TO
  iz : ∀ t ∈ its, t ≠ z
  iTI : ∀ t ∈ its, t ≠ TI
  iTO : ∀ t ∈ its, t ≠ TO
  nd : its.Nodup
  sz : ∀ l ∈ src, l ≠ z
  sTO : ∀ l ∈ src, l ≠ TO
  si : ∀ l ∈ src, ∀ t ∈ its, l ≠ t
  len : its.length = src.length
def ZSt (z TI TO : Addr) (its src : List Addr) (i : Nat) (h : Heap) : Prop :=
  IsZip h z TI TO .none ∧ tupN h TI (its.map Value.ref) ∧ (∃ cur : List Value, cur.length = its.length ∧ tupN h TO cur) ∧ ∀ (k : Nat) (t l : Addr), its[k]? = some t → src[k]? = some l → h.IsTupleIter t l i

section
variable {prog : Program} {w : World} {A : Around} {E : Value → Shared → Prop} {s : Shared} {z TI TO : Addr} {its src : List Addr} {i : Nat}
theorem zipN_next {Q : Value → Shared → Prop} {vs : List Value} (D : ZA z TI TO its src) (st : ZSt z TI TO its src i s.heap) (h0 : 0 < its.length) (h9 : its.length ≤ 100) (lv : vs.length = its.length)
    (hsrc : ∀ (k : Nat) (l : Addr) (v : Value), src[k]? = some l → vs[k]? = some v → ∃ arr : Array Value, s.heap.IsTuple l arr ∧ arr[i]? = some v)
    (hQ : ∀ h', IsZip h' z TI TO (rawInt s.heap.objs.size) → tupN h' TI (its.map Value.ref) → tupN h' TO vs → (∀ (k : Nat) (t l : Addr), its[k]? = some t → src[k]? = some l → h'.IsTupleIter t l (i + 1)) →
      tupN h' s.heap.objs.size vs → (∀ c o, c ≠ z → c ≠ TO → c ∉ its → s.heap.get? c = some o → h'.get? c = some o) → Q (.ref s.heap.objs.size) { s with heap := h' }) :
    wpAny (model prog w) A (Builtin.«zip.__next__» ⟨[.ref z], []⟩) (fun fin s' => ∃ v, fin = .done (.ret v) ∧ Q v s') E s := by
  obtain ⟨hz, hTI, ⟨cur, lc, hTO⟩, hit⟩ := st
  obtain ⟨hp, g, d, tk, os⟩ := s
  show wpAny _ _ (field (.ref z) 2 >>= _) _ _ _
  refine wpAny_bind (wpAny_field hz rfl (x := .bool false) rfl ?_)
  show wpAny _ _ (field (.ref z) 3 >>= _) _ _ _
  refine wpAny_bind (wpAny_field hz rfl (x := .ref TI) rfl ?_)
  refine wpAny_bind (wpAny_seqItems hTI rfl ?_)
  have ne : ((its.map Value.ref).toArray.isEmpty) = false := by
    cases its with
    | nil => simp at h0
    | cons t r => rfl
  simp only [ne]
  show wpAny _ _ (Builtin.SmallTypes.ownedTupleIsFree (.ref z) >>= _) _ _ _
  refine wpAny_bind ?_
  unfold Builtin.SmallTypes.ownedTupleIsFree
  refine wpAny_bind (wpAny_field hz rfl (x := .none) rfl (wpAny_pure ?_))
  simp only [if_true]
  refine wpAny_bind (wpAny_rule ?_)
  refine wpAny_bind (wpAny_field hz rfl (x := .ref TO) rfl ?_)
  refine wpAny_bind (wpAny_setField_rec hz (by simp) fun g0 hz0 hs0 => ?_)
  replace hz0 : IsZip g0 z TI TO .ellipsis := hz0
  replace hs0 : Heap.SameBut z hp g0 := hs0
  refine wpAny_bind (forIn_zipIdx _ _ (fun k s' => ∃ h' : Heap, s' = ⟨h', g, d, tk, os⟩ ∧ IsZip h' z TI TO .ellipsis ∧ tupN h' TO (vs.take k ++ cur.drop k) ∧ h'.objs.size = hp.objs.size ∧
      (∀ c o, c ≠ z → c ≠ TO → c ∉ its → hp.get? c = some o → h'.get? c = some o) ∧
      ∀ (j : Nat) (t l : Addr), its[j]? = some t → src[j]? = some l → h'.IsTupleIter t l (if j < k then i + 1 else i)) _ _ 0 _ ?_ ?_ ?_)
  · refine ⟨g0, rfl, hz0, hs0.extBut _ _ D.TOz (by simpa using hTO), hs0.1, fun c o c1 _ _ e => hs0.extBut _ _ c1 e, fun j t l hj hl => ?_⟩
    rw [if_neg (Nat.not_lt_zero j)]
    exact (hit j t l hj hl).extBut hs0.extBut (D.iz t (List.mem_of_getElem? hj))
  · rintro k x s1 hx ⟨h1, rfl, z1, to1, sz1, kp1, it1⟩
    rw [Nat.zero_add] at to1 it1 ⊢
    have hx2 : (its.map Value.ref)[k]? = some x := by simpa using hx
    rw [List.getElem?_map] at hx2
    obtain ⟨t, ht, rfl⟩ := Option.map_eq_some_iff.mp hx2
    have hk : k < its.length := (List.getElem?_eq_some_iff.mp ht).1
    have hks : k < src.length := by rw [← D.len]; exact hk
    have hkv : k < vs.length := by omega
    have hkc : k < cur.length := by omega
    have gl : src[k]? = some src[k] := List.getElem?_eq_getElem hks
    have gv : vs[k]? = some vs[k] := List.getElem?_eq_getElem hkv
    have mt : t ∈ its := List.mem_of_getElem? ht
    have ml : src[k] ∈ src := List.getElem_mem hks
    obtain ⟨arr, ha, hai⟩ := hsrc k _ _ gl gv
    have ha1 : h1.IsTuple src[k] arr := ha.at fun o e => kp1 _ o (D.sz _ ml) (D.sTO _ ml) (fun hm => D.si _ ml _ hm rfl) e
    have i1 := it1 k t _ ht gl
    rw [if_neg (Nat.lt_irrefl k)] at i1
    refine wpAny_bind (wpAny_onRaise ?_)
    show wpAny _ _ (Builtin.SmallTypes.nextOf (.ref t) >>= _) _ _ ⟨h1, g, d, tk, os⟩
    refine wpAny_bind (wpAny_nextOf_tuple_item i1 ha1 hai fun h2 i2 s2 => wpAny_pure ?_)
    replace s2 : Heap.SameBut t h1 h2 := s2
    have to2 : tupN h2 TO (vs.take k ++ cur.drop k) := s2.extBut _ _ (D.iTO t mt).symm to1
    refine wpAny_bind (wpAny_seqItems (s := ⟨h2, g, d, tk, os⟩) to2 rfl ?_)
    have lcat : (vs.take k ++ cur.drop k).length = its.length := by rw [List.length_append, List.length_take, List.length_drop]; omega
    have zz : (vs.take k ++ cur.drop k).toArray.size ≤ sizeLine := by rw [List.size_toArray, lcat]; exact Nat.le_trans h9 (by decide)
    refine wpAny_bind (wpAny_updateSeq (s := ⟨h2, g, d, tk, os⟩) to2 rfl ?_ zz (by rw [Array.size_setIfInBounds]; omega))
    have s3 : Heap.SameBut TO h2 (h2.update TO (Obj.mapSeq fun x => x.setIfInBounds k vs[k])) := Heap.SameBut.update ..
    refine wpAny_bind (wpAny_letGo (wpAny_pure ⟨rfl, _, rfl, ?_, ?_, ?_, ?_, ?_⟩))
    · exact s3.extBut _ _ D.TOz.symm (s2.extBut _ _ (D.iz t mt).symm z1)
    · show (h2.update TO (Obj.mapSeq fun x => x.setIfInBounds k vs[k])).get? TO = _
      rw [Heap.get?_update_self _ to2 rfl]
      have e1 : (vs.take k ++ cur.drop k).set k vs[k] = vs.take (k + 1) ++ cur.drop (k + 1) := by
        rw [List.set_append_right _ _ (by rw [List.length_take]; omega), List.length_take, Nat.min_eq_left (by omega), Nat.sub_self, List.drop_eq_getElem_cons hkc, List.set_cons_zero, List.take_add_one, gv, Option.toList_some, List.append_assoc]
        rfl
      have e2 : (vs.take k ++ cur.drop k).toArray.setIfInBounds k vs[k] = (vs.take (k + 1) ++ cur.drop (k + 1)).toArray := by rw [List.setIfInBounds_toArray, e1]
      have e3 : ((vs.take (k + 1) ++ cur.drop (k + 1)).toArray.size == (vs.take k ++ cur.drop k).toArray.size) = true := by
        rw [beq_iff_eq, List.size_toArray, List.size_toArray, lcat, List.length_append, List.length_take, List.length_drop]
        omega
      simp only [Obj.mapSeq, e2, e3, if_true]
    · exact s3.1.trans (s2.1.trans sz1)
    · intro c o c1 c2 c3 e
      exact s3.extBut _ _ c2 (s2.extBut _ _ (fun q => c3 (q ▸ mt)) (kp1 c o c1 c2 c3 e))
    · intro j t' l hj hl
      have mt' : t' ∈ its := List.mem_of_getElem? hj
      by_cases hjk : j = k
      · subst hjk
        rw [ht] at hj
        rw [gl] at hl
        cases hj
        cases hl
        rw [if_pos (Nat.lt_succ_self j)]
        exact i2.at fun o e => s3.extBut _ _ (D.iTO t mt) e
      · have i3 := it1 j t' l hj hl
        have e3 : (if j < k then i + 1 else i) = (if j < k + 1 then i + 1 else i) := by
          by_cases hlt : j < k
          · rw [if_pos hlt, if_pos (by omega)]
          · rw [if_neg hlt, if_neg (by omega)]
        rw [e3] at i3
        have tne : t' ≠ t := fun q => by
          subst q
          have hj' := (List.getElem?_eq_some_iff.mp hj)
          have ht' := (List.getElem?_eq_some_iff.mp ht)
          obtain ⟨b1, q1⟩ := hj'
          obtain ⟨b2, q2⟩ := ht'
          exact hjk ((List.getElem_inj D.nd).mp (q1.trans q2.symm))
        exact i3.at fun o e => s3.extBut _ _ (D.iTO t' mt') (s2.extBut _ _ tne e)
  · rintro s1 ⟨h1, rfl, z1, to1, sz1, kp1, it1⟩
    rw [Nat.zero_add] at to1 it1
    have el : ((its.map Value.ref).toArray.toList).length = its.length := by simp
    rw [el] at to1 it1
    rw [← lv, List.take_length, lv, ← lc, List.drop_length, List.append_nil] at to1
    refine wpAny_bind (wpAny_seqItems (s := ⟨h1, g, d, tk, os⟩) to1 rfl ?_)
    refine wpAny_bind (wpAny_newTuple ?_ (by rw [List.toList_toArray, lv]; exact Nat.le_trans h9 (by decide)))
    show wpAny _ _ (Builtin.SmallTypes.ownedTupleHandOut (.ref z) (.ref h1.objs.size) >>= _) _ _ ⟨h1.push { cls := .type "tuple", data := .seq vs.toArray }, g, d, tk, os⟩
    refine wpAny_bind ?_
    unfold Builtin.SmallTypes.ownedTupleHandOut
    have zlt : z < h1.objs.size := Heap.lt_size z1
    have z6 : IsZip (h1.push { cls := .type "tuple", data := .seq vs.toArray }) z TI TO .ellipsis := Heap.get?_push_of_some _ z1
    refine wpAny_bind (wpAny_setField_rec z6 (by simp) fun h7 z7 s7 => ?_)
    replace z7 : IsZip h7 z TI TO (rawInt h1.objs.size) := z7
    refine wpAny_setField_rec z7 (by simp) fun h8 z8 s8 => ?_
    replace z8 : IsZip h8 z TI TO (rawInt h1.objs.size) := z8
    replace s7 : Heap.SameBut z (h1.push { cls := .type "tuple", data := .seq vs.toArray }) h7 := s7
    replace s8 : Heap.SameBut z h7 h8 := s8
    have up : ∀ c o, c ≠ z → h1.get? c = some o → h8.get? c = some o := fun c o c1 e => s8.extBut _ _ c1 (s7.extBut _ _ c1 (Heap.get?_push_of_some _ e))
    have nu : tupN h8 h1.objs.size vs := s8.extBut _ _ (Nat.ne_of_gt zlt) (s7.extBut _ _ (Nat.ne_of_gt zlt) (Heap.get?_push_size _ rfl))
    rw [sz1] at z8 nu
    refine wpAny_pure ⟨_, rfl, ?_⟩
    show Q (.ref h1.objs.size) ⟨h8, g, d, tk, os⟩
    rw [sz1]
    refine hQ h8 z8 (up _ _ D.TIz (kp1 _ _ D.TIz D.TITO (fun hm => D.iTI _ hm rfl) hTI)) (up _ _ D.TOz to1) (fun k t l hk hl => ?_) nu fun c o c1 c2 c3 e => up c o c1 (kp1 c o c1 c2 c3 e)
    have := it1 k t l hk hl
    rw [if_pos (List.getElem?_eq_some_iff.mp hk).1] at this
    exact this.at fun o e => up _ o (D.iz t (List.mem_of_getElem? hk)) e
/-- no item left: the first one says so -/
theorem zipN_stop {Q : Fin → Shared → Prop} (hh : A.handled = none) (D : ZA z TI TO its src) (st : ZSt z TI TO its src i s.heap) (h0 : 0 < its.length)
    {l0 : Addr} {arr : Array Value} (hl : src[0]? = some l0) (ha : s.heap.IsTuple l0 arr) (hn : arr[i]? = none)
    (hE : ∀ h' e, (∀ c o, c ≠ z → c ≠ TO → c ∉ its → s.heap.get? c = some o → h'.get? c = some o) → (∃ o, h'.get? e = some o ∧ o.cls = .type "StopIteration") → E (.ref e) { s with heap := h' }) :
    wpAny (model prog w) A (Builtin.«zip.__next__» ⟨[.ref z], []⟩) Q E s := by
  obtain ⟨hz, hTI, ⟨cur, lc, hTO⟩, hit⟩ := st
  obtain ⟨hp, g, d, tk, os⟩ := s
  cases its with
  | nil => simp at h0
  | cons t r =>
    have mt : t ∈ t :: r := List.mem_cons_self
    have ml : l0 ∈ src := List.mem_of_getElem? hl
    show wpAny _ _ (field (.ref z) 2 >>= _) _ _ _
    refine wpAny_bind (wpAny_field hz rfl (x := .bool false) rfl ?_)
    show wpAny _ _ (field (.ref z) 3 >>= _) _ _ _
    refine wpAny_bind (wpAny_field hz rfl (x := .ref TI) rfl ?_)
    refine wpAny_bind (wpAny_seqItems hTI rfl ?_)
    have ne : (((t :: r).map Value.ref).toArray.isEmpty) = false := rfl
    simp only [ne]
    show wpAny _ _ (Builtin.SmallTypes.ownedTupleIsFree (.ref z) >>= _) _ _ _
    refine wpAny_bind ?_
    unfold Builtin.SmallTypes.ownedTupleIsFree
    refine wpAny_bind (wpAny_field hz rfl (x := .none) rfl (wpAny_pure ?_))
    simp only [if_true]
    refine wpAny_bind (wpAny_rule ?_)
    refine wpAny_bind (wpAny_field hz rfl (x := .ref TO) rfl ?_)
    refine wpAny_bind (wpAny_setField_rec hz (by simp) fun g0 hz0 hs0 => ?_)
    replace hz0 : IsZip g0 z TI TO .ellipsis := hz0
    replace hs0 : Heap.SameBut z hp g0 := hs0
    refine wpAny_bind ?_
    simp only [List.map_cons, List.zipIdx_cons, List.forIn_cons]
    refine wpAny_bind (wpAny_bind (wpAny_onRaise ?_))
    show wpAny _ _ (Builtin.SmallTypes.nextOf (.ref t) >>= _) _ _ ⟨g0, g, d, tk, os⟩
    refine wpAny_bind (wpAny_nextOf_tuple_end hh ((hit 0 t l0 rfl hl).extBut hs0.extBut (D.iz t mt)) (ha.extBut hs0.extBut (D.sz l0 ml)) hn fun h2 e s2 he => ?_)
    replace s2 : Heap.ExtBut t g0 h2 := s2
    obtain ⟨oe, hoe, hce⟩ := he
    replace hoe : h2.get? e = some oe := hoe
    have z2 : IsZip h2 z TI TO .ellipsis := s2 _ _ (D.iz t mt).symm hz0
    have ez : e ≠ z := fun x => by
      subst x
      rw [z2] at hoe
      cases hoe
      simp at hce
    refine wpAny_setField_rec (s := ⟨h2, g, d, tk, os⟩) z2 (by simp) fun h3 _ s3 => ?_
    replace s3 : Heap.SameBut z h2 h3 := s3
    exact hE h3 e (fun c o c1 c2 c3 x => s3.extBut _ _ c1 (s2 _ _ (fun q => c3 (q ▸ mt)) (hs0.extBut _ _ c1 x))) ⟨oe, s3.extBut _ _ ez hoe, hce⟩

theorem pyNext_zipN {Q : Option Value → Shared → Prop} {vs : List Value} (D : ZA z TI TO its src) (st : ZSt z TI TO its src i s.heap) (h0 : 0 < its.length) (h9 : its.length ≤ 100) (lv : vs.length = its.length)
    (hsrc : ∀ (k : Nat) (l : Addr) (v : Value), src[k]? = some l → vs[k]? = some v → ∃ arr : Array Value, s.heap.IsTuple l arr ∧ arr[i]? = some v)
    (hQ : ∀ h', IsZip h' z TI TO (rawInt s.heap.objs.size) → tupN h' TI (its.map Value.ref) → tupN h' TO vs → (∀ (k : Nat) (t l : Addr), its[k]? = some t → src[k]? = some l → h'.IsTupleIter t l (i + 1)) →
      tupN h' s.heap.objs.size vs → (∀ c o, c ≠ z → c ≠ TO → c ∉ its → s.heap.get? c = some o → h'.get? c = some o) → Q (some (.ref s.heap.objs.size)) { s with heap := h' }) :
    wpAny (model prog w) A (pyNext (.ref z)) Q E s := by
  have hT : s.TypeIs (.ref z) "zip" := ⟨_, st.1, rfl⟩
  unfold pyNext
  refine wpAny_bind (wpAny_attempt (wpAny_callSpecial?_slot (name := Str.ofString "__next__") hT F.slot_zip_next (wpAny_call_entry F.slot_zip_next hT F.entry_zip_next ?_ (F.args_zip_next_1 _))))
  exact zipN_next D st h0 h9 lv hsrc fun h' a1 a2 a3 a4 a5 a6 => wpAny_pure (hQ h' a1 a2 a3 a4 a5 a6)
theorem pyNext_zipN_end {Q : Option Value → Shared → Prop} (hh : A.handled = none) (D : ZA z TI TO its src) (st : ZSt z TI TO its src i s.heap) (h0 : 0 < its.length)
    {l0 : Addr} {arr : Array Value} (hl : src[0]? = some l0) (ha : s.heap.IsTuple l0 arr) (hn : arr[i]? = none)
    (hQ : ∀ h', (∀ c o, c ≠ z → c ≠ TO → c ∉ its → s.heap.get? c = some o → h'.get? c = some o) → Q none { s with heap := h' }) : wpAny (model prog w) A (pyNext (.ref z)) Q E s := by
  have hT : s.TypeIs (.ref z) "zip" := ⟨_, st.1, rfl⟩
  unfold pyNext
  refine wpAny_bind (wpAny_attempt (wpAny_callSpecial?_slot (name := Str.ofString "__next__") hT F.slot_zip_next (wpAny_call_entry F.slot_zip_next hT F.entry_zip_next ?_ (F.args_zip_next_1 _))))
  refine zipN_stop (by exact hh) D st h0 hl ha hn fun h' e hk ⟨o, ho, hc⟩ => ?_
  exact wpAny_bind (wpAny_isInstance (T := "StopIteration") (b := true) ⟨o, ho, hc⟩ isSubtype_stop (wpAny_pure (hQ _ hk)))
end
/-! ### zip of four tuples begins -/
theorem tc_zip4 (a b c d : Value) : checkTypeCall "zip" ⟨[a, b, c, d], []⟩ = pure () := by kernel_rfl
theorem nc_zip4 (a b c d : Value) : checkBuiltinCall "zip.__new__" ⟨[.type "zip", a, b, c, d], []⟩ = pure () := by kernel_rfl
theorem oi_zip4 (o a b c d : Value) : argsOk "object.__init__" ⟨[o, a, b, c, d], []⟩ := by unfold argsOk; kernel_rfl
abbrev itO (l : Addr) : Obj := { cls := .type "tuple_iterator", data := .fields #[.ref l, .int 0 0] }
abbrev z4a (h : Heap) (l1 l2 l3 l4 : Addr) : Heap := (((h.push (itO l1)).push (itO l2)).push (itO l3)).push (itO l4)
abbrev z4b (h : Heap) (l1 l2 l3 l4 : Addr) : Heap := (z4a h l1 l2 l3 l4).push { cls := .type "tuple", data := .seq #[.ref h.objs.size, .ref (h.push (itO l1)).objs.size, .ref ((h.push (itO l1)).push (itO l2)).objs.size, .ref (((h.push (itO l1)).push (itO l2)).push (itO l3)).objs.size] }
abbrev z4c (h : Heap) (l1 l2 l3 l4 : Addr) : Heap := (z4b h l1 l2 l3 l4).push { cls := .type "tuple", data := .seq #[.none, .none, .none, .none] }
abbrev z4d (h : Heap) (l1 l2 l3 l4 : Addr) : Heap := (z4c h l1 l2 l3 l4).push { cls := .type "zip", data := .fields #[.none, .bool false, .bool false, .ref (z4a h l1 l2 l3 l4).objs.size, .ref (z4b h l1 l2 l3 l4).objs.size] }
theorem meets_zip4 (l1 l2 l3 l4 : Addr) (b1 b2 b3 b4 : Array Value) :
    Meets (Builtin.«zip.__new__» ⟨[.type "zip", .ref l1, .ref l2, .ref l3, .ref l4], []⟩) (fun _ R s => (s.heap.IsTuple l1 b1 ∧ s.heap.IsTuple l2 b2 ∧ s.heap.IsTuple l3 b3 ∧ s.heap.IsTuple l4 b4) ∧
      R (.ok (.ret (.ref (z4c s.heap l1 l2 l3 l4).objs.size))) { s with heap := z4d s.heap l1 l2 l3 l4 }) :=
  .of_wp fun prog w A R s h => by
    obtain ⟨hp, g, d, tk, os⟩ := s
    obtain ⟨⟨h1, h2, h3, h4⟩, h⟩ := h
    have hsub := sub_zip
    have q1 : Heap.IsTuple (Shared.heap ⟨hp, g, d, tk, os⟩) l1 b1 := h1
    have q2 : Heap.IsTuple (Shared.heap ⟨hp.push (itO l1), g, d, tk, os⟩) l2 b2 := Heap.IsTuple.push h2 _
    have q3 : Heap.IsTuple (Shared.heap ⟨(hp.push (itO l1)).push (itO l2), g, d, tk, os⟩) l3 b3 := Heap.IsTuple.push (Heap.IsTuple.push h3 _) _
    have q4 : Heap.IsTuple (Shared.heap ⟨((hp.push (itO l1)).push (itO l2)).push (itO l3), g, d, tk, os⟩) l4 b4 := Heap.IsTuple.push (Heap.IsTuple.push (Heap.IsTuple.push h4 _) _) _
    wp_walk using wpAny_pyIter_tuple q1, wpAny_pyIter_tuple q2, wpAny_pyIter_tuple q3, wpAny_pyIter_tuple q4
    exact ⟨_, rfl, h⟩
section
variable {prog : Program} {w : World} {A : Around} {E : Value → Shared → Prop} {s : Shared}
theorem call_zip4 {l1 l2 l3 l4 : Addr} {b1 b2 b3 b4 : Array Value} {Q : Value → Shared → Prop} (h1 : s.heap.IsTuple l1 b1) (h2 : s.heap.IsTuple l2 b2) (h3 : s.heap.IsTuple l3 b3) (h4 : s.heap.IsTuple l4 b4)
    (h : ∀ h', ZSt (s.heap.objs.size + 6) (s.heap.objs.size + 4) (s.heap.objs.size + 5) [s.heap.objs.size, s.heap.objs.size + 1, s.heap.objs.size + 2, s.heap.objs.size + 3] [l1, l2, l3, l4] 0 h' →
      (∀ c o, s.heap.get? c = some o → h'.get? c = some o) → Q (.ref (s.heap.objs.size + 6)) { s with heap := h' }) :
    wpAny (model prog w) A (call (.type "zip") [.ref l1, .ref l2, .ref l3, .ref l4]) Q E s := by
  refine callType_new F.called_zip (by decide) (tc_zip4 _ _ _ _) (nc_zip4 _ _ _ _) (fun obj => oi_zip4 obj _ _ _ _) F.entry_zip_new (meets_zip4 l1 l2 l3 l4 b1 b2 b3 b4) ⟨⟨h1, h2, h3, h4⟩, ?_⟩
  have n1 : (s.heap.push (itO l1)).objs.size = s.heap.objs.size + 1 := Heap.size_push ..
  have n2 : ((s.heap.push (itO l1)).push (itO l2)).objs.size = s.heap.objs.size + 2 := by rw [Heap.size_push, n1]
  have n3 : (((s.heap.push (itO l1)).push (itO l2)).push (itO l3)).objs.size = s.heap.objs.size + 3 := by rw [Heap.size_push, n2]
  have n4 : (z4a s.heap l1 l2 l3 l4).objs.size = s.heap.objs.size + 4 := by rw [Heap.size_push, n3]
  have n5 : (z4b s.heap l1 l2 l3 l4).objs.size = s.heap.objs.size + 5 := by rw [Heap.size_push, n4]
  have n6 : (z4c s.heap l1 l2 l3 l4).objs.size = s.heap.objs.size + 6 := by rw [Heap.size_push, n5]
  have up1 : ∀ {hh : Heap} {o : Obj} {c : Addr} {x : Obj}, hh.get? c = some x → (hh.push o).get? c = some x := fun e => Heap.get?_push_of_some _ e
  have g6 : (z4d s.heap l1 l2 l3 l4).get? (z4c s.heap l1 l2 l3 l4).objs.size = some { cls := .type "zip", data := .fields #[.none, .bool false, .bool false, .ref (z4a s.heap l1 l2 l3 l4).objs.size, .ref (z4b s.heap l1 l2 l3 l4).objs.size] } := Heap.get?_push_size _ rfl
  have g5 : (z4d s.heap l1 l2 l3 l4).get? (z4b s.heap l1 l2 l3 l4).objs.size = some { cls := .type "tuple", data := .seq #[.none, .none, .none, .none] } := up1 (Heap.get?_push_size _ rfl)
  have g4 : (z4d s.heap l1 l2 l3 l4).get? (z4a s.heap l1 l2 l3 l4).objs.size = some { cls := .type "tuple", data := .seq #[.ref s.heap.objs.size, .ref (s.heap.push (itO l1)).objs.size, .ref ((s.heap.push (itO l1)).push (itO l2)).objs.size, .ref (((s.heap.push (itO l1)).push (itO l2)).push (itO l3)).objs.size] } := up1 (up1 (Heap.get?_push_size _ rfl))
  have g3 : (z4d s.heap l1 l2 l3 l4).get? (((s.heap.push (itO l1)).push (itO l2)).push (itO l3)).objs.size = some (itO l4) := up1 (up1 (up1 (Heap.get?_push_size _ rfl)))
  have g2 : (z4d s.heap l1 l2 l3 l4).get? ((s.heap.push (itO l1)).push (itO l2)).objs.size = some (itO l3) := up1 (up1 (up1 (up1 (Heap.get?_push_size _ rfl))))
  have g1 : (z4d s.heap l1 l2 l3 l4).get? (s.heap.push (itO l1)).objs.size = some (itO l2) := up1 (up1 (up1 (up1 (up1 (Heap.get?_push_size _ rfl)))))
  have g0 : (z4d s.heap l1 l2 l3 l4).get? s.heap.objs.size = some (itO l1) := up1 (up1 (up1 (up1 (up1 (up1 (Heap.get?_push_size _ rfl))))))
  rw [n6, n5, n4] at g6
  rw [n5] at g5
  rw [n4, n3, n2, n1] at g4
  rw [n3] at g3
  rw [n2] at g2
  rw [n1] at g1
  show _ ∧ _
  rw [n6]
  refine ⟨⟨_, g6, rfl⟩, h _ ⟨g6, g4, ⟨[.none, .none, .none, .none], rfl, g5⟩, fun k t l hk hl => ?_⟩ fun c o e => up1 (up1 (up1 (up1 (up1 (up1 (up1 e))))))⟩
  match k, hk, hl with
  | 0, hk, hl => cases hk; cases hl; exact ⟨_, g0, rfl, rfl⟩
  | 1, hk, hl => cases hk; cases hl; exact ⟨_, g1, rfl, rfl⟩
  | 2, hk, hl => cases hk; cases hl; exact ⟨_, g2, rfl, rfl⟩
  | 3, hk, hl => cases hk; cases hl; exact ⟨_, g3, rfl, rfl⟩
  | k + 4, hk, hl => simp at hk
end
theorem nne {a b : Nat} (h : a < b ∨ b < a) : a ≠ b := by omega
theorem apart4 {N l1 l2 l3 l4 : Nat} (h1 : l1 < N) (h2 : l2 < N) (h3 : l3 < N) (h4 : l4 < N) : ZA (N + 6) (N + 4) (N + 5) [N, N + 1, N + 2, N + 3] [l1, l2, l3, l4] := by
  have four : ∀ {P : Nat → Prop} {a b c d : Nat}, P a → P b → P c → P d → ∀ t ∈ [a, b, c, d], P t := fun {P a b c d} p1 p2 p3 p4 t ht => by
    simp only [List.mem_cons, List.not_mem_nil, or_false] at ht
    rcases ht with rfl | rfl | rfl | rfl <;> assumption
  refine ⟨nne (by omega), nne (by omega), nne (by omega), ?_, ?_, ?_, ?_, ?_, ?_, ?_, rfl⟩
  · exact four (P := fun t => t ≠ N + 6) (nne (by omega)) (nne (by omega)) (nne (by omega)) (nne (by omega))
  · exact four (P := fun t => t ≠ N + 4) (nne (by omega)) (nne (by omega)) (nne (by omega)) (nne (by omega))
  · exact four (P := fun t => t ≠ N + 5) (nne (by omega)) (nne (by omega)) (nne (by omega)) (nne (by omega))
  · have : ([N, N + 1, N + 2, N + 3] : List Nat).Nodup := by
      simp only [List.nodup_cons, List.mem_cons, List.not_mem_nil, or_false, not_or, List.nodup_nil, and_true, not_false_iff]
      exact ⟨⟨by omega, by omega, by omega⟩, ⟨by omega, by omega⟩, by omega⟩
    exact this
  · exact four (P := fun t => t ≠ N + 6) (nne (by omega)) (nne (by omega)) (nne (by omega)) (nne (by omega))
  · exact four (P := fun t => t ≠ N + 5) (nne (by omega)) (nne (by omega)) (nne (by omega)) (nne (by omega))
  · have one : ∀ l : Nat, l < N → ∀ t ∈ [N, N + 1, N + 2, N + 3], l ≠ t := fun l hl => four (P := fun t => l ≠ t) (nne (by omega)) (nne (by omega)) (nne (by omega)) (nne (by omega))
    exact four (P := fun l => ∀ t ∈ [N, N + 1, N + 2, N + 3], l ≠ t) (one l1 h1) (one l2 h2) (one l3 h3) (one l4 h4)

/-! ### over the layer -/
def ItzN (K : PySem.W.Frag) (src : List Addr) : It :=
  ⟨fun i H => ∃ xss : List (List V), xss.length = src.length ∧ ∀ (k : Nat) (l : Addr) (xs : List V), src[k]? = some l → xss[k]? = some xs → SqT K H l xs ∧ i < xs.length,
    fun i H v H' => ∃ (T : Addr) (ys : List V), v = .ref T ∧ H T = none ∧ H' = upd H T (.tup ys) ∧ ys.length = src.length ∧ ∀ (k : Nat) (l : Addr) (xs : List V), src[k]? = some l → SqT K H l xs → xs[i]? = ys[k]?,
    fun i H => ∃ (l0 : Addr) (xs : List V), src[0]? = some l0 ∧ SqT K H l0 xs ∧ i = xs.length⟩
theorem itemsN {X : Cx} {pins : List (Addr × Obj)} {σ : L2.St} {H : Hp} {s : Shared} {i : Nat} (I : Inv X pins σ H s) : ∀ (src : List Addr) (xss : List (List V)), xss.length = src.length →
    (∀ (k : Nat) (l : Addr) (xs : List V), src[k]? = some l → xss[k]? = some xs → SqT X.K H l xs ∧ i < xs.length) →
    ∃ (ys : List V) (vs : List Value), ys.length = src.length ∧ Vals ys vs ∧ (∀ (k : Nat) (l : Addr) (v : Value), src[k]? = some l → vs[k]? = some v → ∃ arr : Array Value, s.heap.IsTuple l arr ∧ arr[i]? = some v) ∧
      ∀ (k : Nat) (l : Addr) (xs : List V), src[k]? = some l → xss[k]? = some xs → xs[i]? = ys[k]?
  | [], [], _, _ => ⟨[], [], rfl, .nil, fun k l v hk => by simp at hk, fun k l xs hk => by simp at hk⟩
  | [], _ :: _, h, _ => by simp at h
  | _ :: _, [], h, _ => by simp at h
  | l0 :: src, x0 :: xss, hl, h => by
    obtain ⟨ys, vs, e1, e2, e3, e4⟩ := itemsN I src xss (by simpa using hl) fun k l xs hk hx => h (k + 1) l xs (by simpa using hk) (by simpa using hx)
    obtain ⟨q, hi⟩ := h 0 l0 x0 rfl rfl
    obtain ⟨its, rv, p, _⟩ := I.tuple q
    have gx : x0[i]? = some x0[i] := List.getElem?_eq_getElem hi
    obtain ⟨u, hu, ru⟩ := rv.get gx
    refine ⟨x0[i] :: ys, u :: vs, by simp [e1], .cons ru e2, fun k l v hk hv => ?_, fun k l xs hk hx => ?_⟩
    · cases k with
      | zero => cases hk; cases hv; exact ⟨_, p, by simpa using hu⟩
      | succ k => exact e3 k l v (by simpa using hk) (by simpa using hv)
    · cases k with
      | zero => cases hk; cases hx; exact gx
      | succ k => exact e4 k l xs (by simpa using hk) (by simpa using hx)
theorem turn_zipN {P : Program} {w : World} {K : PySem.W.Frag} {elts : List Expr} {kk : Nat} {tpos : Pos} {z TI TO : Addr} {its src : List Addr} (D : ZA z TI TO its src) (h0 : 0 < its.length) (h9 : its.length ≤ 100) :
    Turn P w K (.Tuple elts kk tpos) (ItzN K src) (z :: TI :: TO :: its) z (ZSt z TI TO its src) where
  mem := List.mem_cons_self
  obj := fun i h st c hc => by
    obtain ⟨hz, hTI, ⟨cur, lc, hTO⟩, hit⟩ := st
    rcases List.mem_cons.mp hc with rfl | hc
    · exact ⟨_, hz, fun _ q => nomatch q⟩
    rcases List.mem_cons.mp hc with rfl | hc
    · exact ⟨_, hTI, fun _ q => nomatch q⟩
    rcases List.mem_cons.mp hc with rfl | hc
    · exact ⟨_, hTO, fun _ q => nomatch q⟩
    obtain ⟨k, hk⟩ := List.mem_iff_getElem?.mp hc
    have hlt : k < src.length := by rw [← D.len]; exact (List.getElem?_eq_some_iff.mp hk).1
    obtain ⟨o, e, _, d⟩ := hit k c _ hk (List.getElem?_eq_getElem hlt)
    exact ⟨o, e, fun _ q => by rw [d] at q; cases q⟩
  keep := fun i h h' st k => by
    obtain ⟨hz, hTI, ⟨cur, lc, hTO⟩, hit⟩ := st
    refine ⟨k z (by simp) _ hz, k TI (by simp) _ hTI, ⟨cur, lc, k TO (by simp) _ hTO⟩, fun j t l hj hl => ?_⟩
    have mt : t ∈ z :: TI :: TO :: its := by simp [List.mem_of_getElem? hj]
    exact (hit j t l hj hl).at (k t mt)
  item := by
    intro X hP hw hK hc i pins s σ H E I hf st hg
    subst hP hw hK
    obtain ⟨xss, lx, hx⟩ := hg
    obtain ⟨ys, vs, l1, rv, hs, hy⟩ := itemsN I src xss lx hx
    have lv : vs.length = its.length := by rw [← rv.length, l1, D.len]
    have hzl : z < s.heap.objs.size := Heap.lt_size st.1
    obtain ⟨hz, hTI, ⟨cur, lc, hTO⟩, hit⟩ := id st
    refine pyNext_zipN D st h0 h9 lv hs fun h' z' TI' TO' it' hT hk => ?_
    refine ⟨_, rfl, wpAny_letOwnedTupleGo_zip (s := { s with heap := h' }) z' fun h'' z'' sb => ?_⟩
    replace sb : Heap.SameBut z h' h'' := sb
    have hT2 : h''.get? s.heap.objs.size = some { cls := .type "tuple", data := .seq vs.toArray } := sb.extBut _ _ (Nat.ne_of_gt hzl) hT
    have new : ObjOk X.prog X.w (upd H s.heap.objs.size (.tup ys)) h'' s.heap.objs.size (.tup ys) :=
      ⟨by rw [l1, ← D.len]; exact Nat.le_trans h9 (by decide), vs, rv, ⟨_, hT2, rfl, _, rfl⟩⟩
    have far : ∀ c o, c ∉ z :: TI :: TO :: its → s.heap.get? c = some o → h''.get? c = some o := fun c o hb q => by
      simp only [List.mem_cons, not_or] at hb
      exact sb.extBut _ _ hb.1 (hk c o hb.1 hb.2.2.1 hb.2.2.2 q)
    have I1 := I.turnedNew (t' := s.toks) (ch := z :: TI :: TO :: its) far hf (Nat.le_refl _) new
    refine ⟨.ref s.heap.objs.size, _, I1, rfl, ⟨_, ys, rfl, I.hok.fresh (Nat.le_refl _), rfl, l1, fun k l xs hk hq => ?_⟩, ⟨z'', sb.extBut _ _ D.TIz TI', ⟨vs, lv, sb.extBut _ _ D.TOz TO'⟩, fun k t l hk hl => ?_⟩, fun c hcm => ?_⟩
    · have hkl : k < xss.length := by rw [lx]; exact (List.getElem?_eq_some_iff.mp hk).1
      have gx : xss[k]? = some xss[k] := List.getElem?_eq_getElem hkl
      rw [I.tuple_inj hq (hx k l _ hk gx).1]
      exact hy k l _ hk gx
    · exact (it' k t l hk hl).at fun o e => sb.extBut _ _ (D.iz t (List.mem_of_getElem? hk)) e
    · have hlt : c < s.heap.objs.size := by
        rcases List.mem_cons.mp hcm with rfl | hc1
        · exact hzl
        rcases List.mem_cons.mp hc1 with rfl | hc1
        · exact Heap.lt_size hTI
        rcases List.mem_cons.mp hc1 with rfl | hc1
        · exact Heap.lt_size hTO
        obtain ⟨k, hk⟩ := List.mem_iff_getElem?.mp hc1
        have hks : k < src.length := by rw [← D.len]; exact (List.getElem?_eq_some_iff.mp hk).1
        obtain ⟨o, e, _⟩ := hit k c _ hk (List.getElem?_eq_getElem hks)
        exact Heap.lt_size e
      rw [upd_ne (Nat.ne_of_lt hlt)]
      exact (hf c hcm).1
  done := by
    intro X hP hw hK hc i pins s σ H E I hf st hg
    subst hP hw hK
    obtain ⟨l0, xs, hl, q, hi⟩ := hg
    obtain ⟨its2, rv, p, _⟩ := I.tuple q
    have lx := rv.length
    refine pyNext_zipN_end (I.ok.hd hc) D st h0 hl p (by simp; omega) fun h' hk => ⟨rfl, I.turnedL (t' := s.toks) (ch := z :: TI :: TO :: its) (fun c o hb q => ?_) hf⟩
    simp only [List.mem_cons, not_or] at hb
    exact hk c o hb.1 hb.2.2.1 hb.2.2.2 q
  self := fun A i s Q E st h => wpAny_pyIter_zip st.1 h
def iZip4 (K : PySem.W.Frag) (ta : TA) : TI := fun σ H R => ta σ H fun vs H1 => ∃ a b c d x1 x2 x3 x4, vs = [.ref a, .ref b, .ref c, .ref d] ∧ SqT K H1 a x1 ∧ SqT K H1 b x2 ∧ SqT K H1 c x3 ∧ SqT K H1 d x4 ∧ R (ItzN K [a, b, c, d]) H1
theorem pi_zip4 {X : Cx} {e1 e2 e3 e4 : Expr} {ta : TA} {p pos tpos : Pos} {elts : List Expr} {kk : Nat} (hg : Gl X "zip") (hm : X.mg "zip" = none) (ha : PA X [e1, e2, e3, e4] ta)
    (hs : starEach [e1, e2, e3, e4] X.env = (false, eval e1 X.env) :: starEach [e2, e3, e4] X.env := by rfl) (hpl : (backTo pos (starEach [e2, e3, e4] X.env)).any (·.1) = false := by rfl) :
    PI X (.Tuple elts kk tpos) (.Call (.Name "zip" p) [e1, e2, e3, e4] [] pos) (iZip4 X.K ta) := by
  refine ⟨fun pins s σ H R I h => Call_ (ld_blt I hg hm PyProof.Rows.boot_zip (PyProof.Rows.callWith_type1 (thn (ha.run pos pins s σ H _ I h) ?_) hs hpl))⟩
  intro us s1 ⟨vs, H1, I1, r1, a, b, c, d, x1, x2, x3, x4, ex, q1, q2, q3, q4, q⟩
  subst ex
  cases r1 with
  | cons r rr =>
    cases r
    cases rr with
    | cons r rr =>
      cases r
      cases rr with
      | cons r rr =>
        cases r
        cases rr with
        | cons r rr =>
          cases r
          cases rr
          obtain ⟨_, _, p1, _⟩ := I1.tuple q1
          obtain ⟨_, _, p2, _⟩ := I1.tuple q2
          obtain ⟨_, _, p3, _⟩ := I1.tuple q3
          obtain ⟨_, _, p4, _⟩ := I1.tuple q4
          obtain ⟨_, o1, _⟩ := id p1
          obtain ⟨_, o2, _⟩ := id p2
          obtain ⟨_, o3, _⟩ := id p3
          obtain ⟨_, o4, _⟩ := id p4
          refine call_zip4 p1 p2 p3 p4 fun h' st hk => wpAny_pyIter_zip st.1 ?_
          refine ⟨_, _, _, _, H1, rfl, I1.kept (t' := s1.toks) hk, turn_zipN (apart4 (Heap.lt_size o1) (Heap.lt_size o2) (Heap.lt_size o3) (Heap.lt_size o4)) (by simp) (by simp), st, fun c hcm => ?_, q⟩
          have hle : s1.heap.objs.size ≤ c := by
            simp only [List.mem_cons, List.not_mem_nil, or_false] at hcm
            rcases hcm with rfl | rfl | rfl | rfl | rfl | rfl | rfl
            · exact Nat.le_add_right _ _
            · exact Nat.le_add_right _ _
            · exact Nat.le_add_right _ _
            · exact Nat.le_refl _
            · exact Nat.le_add_right _ _
            · exact Nat.le_add_right _ _
            · exact Nat.le_add_right _ _
          exact I1.fpOk hle (I1.hok.fresh hle)
theorem walk_zip4 {K : PySem.W.Frag} {a b c d : Addr} {x1 x2 x3 x4 : List V} (l2 : x2.length = x1.length) (l3 : x3.length = x1.length) (l4 : x4.length = x1.length) :
    Walk (ItzN K [a, b, c, d]) x1.length (fun H => SqT K H a x1 ∧ SqT K H b x2 ∧ SqT K H c x3 ∧ SqT K H d x4)
      (fun i H v H' => ∃ T y1 y2 y3 y4, v = .ref T ∧ H T = none ∧ H' = upd H T (.tup [y1, y2, y3, y4]) ∧ x1[i]? = some y1 ∧ x2[i]? = some y2 ∧ x3[i]? = some y3 ∧ x4[i]? = some y4) := by
  refine ⟨fun i H hi ⟨q1, q2, q3, q4⟩ => ⟨[x1, x2, x3, x4], rfl, fun k l xs hk hx => ?_⟩, fun H ⟨q1, _⟩ => ⟨a, x1, rfl, q1, rfl⟩, fun i H v H' hi ⟨q1, q2, q3, q4⟩ y => ?_⟩
  · match k, hk, hx with
    | 0, hk, hx => cases hk; cases hx; exact ⟨q1, hi⟩
    | 1, hk, hx => cases hk; cases hx; exact ⟨q2, by omega⟩
    | 2, hk, hx => cases hk; cases hx; exact ⟨q3, by omega⟩
    | 3, hk, hx => cases hk; cases hx; exact ⟨q4, by omega⟩
    | k + 4, hk, hx => simp at hk
  · obtain ⟨T, ys, e1, e2, e3, ly, hy⟩ := y
    have y1 := hy 0 a x1 rfl q1
    have y2 := hy 1 b x2 rfl q2
    have y3 := hy 2 c x3 rfl q3
    have y4 := hy 3 d x4 rfl q4
    match ys, ly with
    | [v1, v2, v3, v4], _ => exact ⟨T, v1, v2, v3, v4, e1, e2, e3, y1, y2, y3, y4⟩
end RL
namespace RL
open PySem PySem.Spec PyProof.Rows L2
/-! ### a def as it stands behind the top; the built-ins' names that the top has not bound -/
structure Df (K : PySem.W.Frag) (mg : Str → Option Value) (x : Str) (st : Stmt) : Prop where
  ex : ∃ f fd, Fun K x x st f fd ∧ mg x = some (.ref f)
theorem Df.cal {P : Program} {w : World} {K : PySem.W.Frag} {mg : Str → Option Value} {base : Heap} {x : Str} {st : Stmt} {N ps : List Str} {k : Nat} {sp : Sp} (D : Df K mg x st) (S : FnScope N ps (defScope st))
    (hb : ∀ (kV doc pm : Value) (an : Option Addr) (cdv ct : Value) (us : List Value), us.length = ps.length → bindArgs (PySem.W.fnOf x x (defArgs st) (defBody st) (defScope st) .none kV doc pm an cdv ct) ⟨us, []⟩ = pure (ps.zip us))
    (len : ∀ vs H Q E, sp vs H Q E → vs.length = ps.length)
    (hbody : ∀ (f : Addr) (cdv : Value) (A : Around) (outer : List Env) (s : Shared) (H : Hp) (vs : List V) (Q : VK) (E : XK), Room k (A.deeper (envOfC x (defScope st) s.heap.objs.size f cdv)) → sp vs H Q E →
      ∃ t, PSs (cxOf CX0 P w K mg base N x (defScope st) f cdv A outer s H E).nox (defBody st) t ∧ t { nx := fun _ H' => Q .non H', rt := Q } (start N vs) H) : C8.Cal P w K mg base (k + 1) x sp [] := by
  obtain ⟨f, fd, F, g⟩ := D.ex
  exact ⟨⟨f, fd, ps, [], F.ok S len (hbody f), g, F.kp, F.binds hb, .nil⟩⟩
structure Zs (mg : Str → Option Value) : Prop where
  z_isinstance : mg "isinstance" = none
  z_int : mg "int" = none
  z_bool : mg "bool" = none
  z_tuple : mg "tuple" = none
  z_list : mg "list" = none
  z_set : mg "set" = none
  z_len : mg "len" = none
  z_all : mg "all" = none
  z_zip : mg "zip" = none
  z_sorted : mg "sorted" = none
  z_range : mg "range" = none
  z_max : mg "max" = none
  z_min : mg "min" = none
  z_sum : mg "sum" = none
  z_repr : mg "repr" = none
  z_any : mg "any" = none
  z_enumerate : mg "enumerate" = none
  z_str : mg "str" = none
theorem bT {c : Prop} [Decidable c] (h : c) : V.bl (decide c) = V.bl true := by rw [decide_eq_true h]
theorem bF {c : Prop} [Decidable c] (h : ¬ c) : V.bl (decide c) = V.bl false := by rw [decide_eq_false h]
theorem qT {c : Prop} [Decidable c] {Q : VK} {H : Hp} (h : c) (q : Q (.bl true) H) : Q (.bl (decide c)) H := by rw [decide_eq_true h]; exact q
theorem qF {c : Prop} [Decidable c] {Q : VK} {H : Hp} (h : ¬ c) (q : Q (.bl false) H) : Q (.bl (decide c)) H := by rw [decide_eq_false h]; exact q
theorem get_map {α β : Type} {f : α → β} {xs : List α} {i : Nat} {y : β} (h : (xs.map f)[i]? = some y) : ∃ x, xs[i]? = some x ∧ y = f x := by
  rw [List.getElem?_map] at h
  obtain ⟨x, hx, e⟩ := Option.map_eq_some_iff.mp h
  exact ⟨x, hx, e.symm⟩
theorem range_getD {α : Type} (xs : List α) (d : α) : (List.range xs.length).map (fun i => xs.getD i d) = xs := by
  refine List.ext_getElem? fun i => ?_
  rw [List.getElem?_map]
  by_cases h : i < xs.length
  · rw [List.getElem?_range h]
    show some (xs.getD i d) = xs[i]?
    rw [List.getD_eq_getElem?_getD, List.getElem?_eq_getElem h]
    rfl
  · rw [List.getElem?_eq_none (by simpa using h), List.getElem?_eq_none (by omega)]
    rfl
theorem getD_of {α : Type} {xs : List α} {i : Nat} {x d : α} (h : xs[i]? = some x) : xs.getD i d = x := by
  rw [List.getD_eq_getElem?_getD, h]
  rfl
/-! ### rules whose reading names the written part, for a comprehension's block -/
section
variable {X : Cx} {K : PySem.W.Frag}
def rLen (K : PySem.W.Frag) : List V → Hp → VK → Prop := fun xs H Q => ∃ p ys, xs = [.ref p] ∧ (SqL K H p ys ∨ SqT K H p ys) ∧ Q (.int ys.length) H
theorem call_lenK (e : X.K = K) : CallR X (.builtin "len") (rLen K) := by subst e; exact call_len_seq
theorem ixK {r : PySem.W.Frag → R2} (e : X.K = K) (h : IxR X (r X.K)) : IxR X (r K) := by subst e; exact h
theorem opK {f : Value → Value → Sem Value} {r : PySem.W.Frag → R2} (e : X.K = K) (h : OpR X f (r X.K)) : OpR X f (r K) := by subst e; exact h
theorem callK {f : Value} {r : PySem.W.Frag → List V → Hp → VK → Prop} (e : X.K = K) (h : CallR X f (r X.K)) : CallR X f (r K) := by subst e; exact h
end
theorem isi_tup {K : PySem.W.Frag} {H : Hp} {a : Addr} {xs : List V} (h : SqT K H a xs) : ∃ t, TyX K H (.ref a) t ∧ PySem.W.kitOne K t (.type "tuple") = some true := by
  rcases h with (h | ⟨o, h⟩) | ⟨o, its, n, h, hc, _⟩
  · exact ⟨_, .base (.tup h), kit_ty (by decide +kernel)⟩
  · exact ⟨_, .fTuple h, kit_ty (by decide +kernel)⟩
  · exact ⟨_, .kTuple h hc, kit_ty (by decide +kernel)⟩
end RL
namespace RL
open PySem PySem.Spec PyProof.Rows L2
/-! ### the pen: a list of three numbers, from which the law draws; n bounds the third -/
def Pen (H : Hp) (a : Addr) (n : Nat) : Prop := ∃ (p q : Int) (c : Nat), H a = some (.lst [.int p, .int q, vN c]) ∧ 0 ≤ p ∧ 0 ≤ q ∧ q < 1000000007 ∧ c ≤ n
theorem Pen.mono {H : Hp} {a : Addr} {n m : Nat} (h : Pen H a n) (l : n ≤ m) : Pen H a m := by
  obtain ⟨p, q, c, e, h1, h2, h3, h4⟩ := h
  exact ⟨p, q, c, e, h1, h2, h3, by omega⟩
theorem Pen.same {H H' : Hp} {a : Addr} {n : Nat} (h : Pen H a n) (s : Same H H') : Pen H' a n := by
  obtain ⟨p, q, c, e, h1⟩ := h
  exact ⟨p, q, c, s _ _ e, h1⟩
theorem Pen.at {H H' : Hp} {a : Addr} {n : Nat} (h : Pen H a n) (s : ∀ o, H a = some o → H' a = some o) : Pen H' a n := by
  obtain ⟨p, q, c, e, h1⟩ := h
  exact ⟨p, q, c, s _ e, h1⟩
theorem Pen.ts {H H' : Hp} {a : Addr} {n m : Nat} (h : Pen H a n) (b : But a H H') : TS H H' := by
  obtain ⟨p, q, c, e, _⟩ := h
  intro d o t hd
  exact b d o (ne_of hd e fun z => by rw [z] at t; exact t) hd
/-- a new object that is not the pen's -/
theorem Pen.ne {H : Hp} {a p : Addr} {n : Nat} (h : Pen H a n) (hp : H p = none) : p ≠ a := by
  obtain ⟨_, _, _, e, _⟩ := h
  exact (ne_of_none e hp).symm
theorem Pen.upd {H : Hp} {a p : Addr} {n : Nat} {o : HO} (h : Pen H a n) (ne : p ≠ a) : Pen (L2.upd H p o) a n := h.at fun o e => by rw [upd_ne ne.symm]; exact e
theorem But.upd2 {a p : Addr} {H H' : Hp} {o : HO} (e : But a H H') (h : H p = none) : But a H (L2.upd H' p o) := But.new e h
theorem perm_mem {α : Type} {xs ys : List α} (h : xs.Perm ys) (x : α) : x ∈ xs ↔ x ∈ ys := h.mem_iff
/-- steps that lead from b groups to g -/
def StepsTo : Nat → List (List Nat) → Nat → Prop
  | b, [], g => b = g
  | b, s :: r, g => StepOk b s ∧ StepsTo (top1 s) r g
theorem StepsTo.ok : ∀ {ss : List (List Nat)} {b g : Nat}, StepsTo b ss g → StepsOk b ss
  | [], _, _, _ => trivial
  | _ :: _, _, _, h => ⟨h.1, StepsTo.ok h.2⟩
theorem StepsTo.snoc : ∀ {ss : List (List Nat)} {b g : Nat} {s : List Nat}, StepsTo b ss g → StepOk g s → StepsTo b (ss ++ [s]) (top1 s)
  | [], b, g, s, h, hs => by
    have e : b = g := h
    subst e
    exact ⟨hs, rfl⟩
  | _ :: _, _, _, _, h, hs => ⟨h.1, StepsTo.snoc h.2 hs⟩
/-- what a mixed list of the first numbers and some below is -/
theorem mixed_step {g f : Nat} {more s : List Nat} (hf : 0 < f) (hg : f < g) (hl : more.length = g - f) (hm : ∀ k ∈ more, k < f) (hp : s.Perm (List.range f ++ more)) : StepOk g s ∧ top1 s = f := by
  have mem : ∀ x, x ∈ s ↔ x < f := fun x => by
    rw [perm_mem hp, List.mem_append, List.mem_range]
    constructor
    · rintro (h | h)
      · exact h
      · exact hm x h
    · exact .inl
  refine ⟨⟨?_, f, hf, hg, mem⟩, top1_of hf mem⟩
  rw [hp.length_eq, List.length_append, List.length_range, hl]
  omega
theorem erase_perm {xs : List Nat} {d x : Nat} (h : xs[d]? = some x) : (x :: xs.eraseIdx d).Perm xs := by
  induction xs generalizing d with
  | nil => simp at h
  | cons y r ih =>
    cases d with
    | zero =>
      have e : y = x := Option.some.inj h
      subst e
      exact List.Perm.refl _
    | succ d =>
      have := ih (d := d) (by simpa using h)
      exact (List.Perm.swap y x _).trans (this.cons y)
theorem ixN_nat {n d : Nat} (h : d < n) : ixN n (d : Int) = some d := by
  unfold ixN
  rw [if_pos (by omega), if_pos (by omega)]
  simp
end RL
namespace RL
open PySem PySem.Spec PyProof.Rows L2
/-! ### how long the text of data is -/
mutual
def wt : PyData → Nat
  | .none => 4
  | .bool _ => 5
  | .int i => i.natAbs.log2 + 2
  | .str _ => 0
  | .list ds => wtAll ds + 3
  | .tuple ds => wtAll ds + 3
  | .dict _ => 0
def wtAll : List PyData → Nat
  | [] => 0
  | d :: ds => wt d + 2 + wtAll ds
end
mutual
def plainD : PyData → Bool
  | .none => true
  | .bool _ => true
  | .int i => decide (i.natAbs.log2 < 1920)
  | .str _ => false
  | .list ds => plainAll ds
  | .tuple ds => plainAll ds
  | .dict _ => false
def plainAll : List PyData → Bool
  | [] => true
  | d :: ds => plainD d && plainAll ds
end
theorem int_len (i : Int) : (Str.ofString (toString i)).length ≤ i.natAbs.log2 + 2 := by
  have h := int_text_length_le (a := i) (k := i.natAbs.log2 + 1) (Nat.succ_pos _) (Nat.lt_succ_self _)
  have e : (Str.ofString (toString i)).length = (toString i).length := PySem.ofString_length _
  omega
theorem plain_cons {d : PyData} {ds : List PyData} (h : plainAll (d :: ds) = true) : plainD d = true ∧ plainAll ds = true := by
  have : (plainD d && plainAll ds) = true := h
  simpa using this
mutual
theorem shown_le : ∀ d : PyData, plainD d = true → d.shown.length ≤ wt d
  | .none, _ => by simp only [PyData.shown]; decide
  | .bool b, _ => by cases b <;> (simp only [PyData.shown]; decide)
  | .int i, _ => by simp only [PyData.shown]; exact int_len i
  | .str _, h => by cases h
  | .list ds, h => by
    simp only [PyData.shown]
    have h1 := listText_len_le (PyData.shownAll ds)
    have h2 := shownAll_le ds h
    show _ ≤ wtAll ds + 3
    omega
  | .tuple ds, h => by
    simp only [PyData.shown]
    have h1 := tupleText_len_le (PyData.shownAll ds)
    have h2 := shownAll_le ds h
    show _ ≤ wtAll ds + 3
    omega
  | .dict _, h => by cases h
theorem shownAll_le : ∀ ds : List PyData, plainAll ds = true → ((PyData.shownAll ds).map (·.length)).sum + 2 * (PyData.shownAll ds).length ≤ wtAll ds
  | [], _ => by simp only [PyData.shownAll]; decide
  | d :: ds, h => by
    obtain ⟨h1, h2⟩ := plain_cons h
    have a := shown_le d h1
    have b := shownAll_le ds h2
    simp only [PyData.shownAll, List.map_cons, List.sum_cons, List.length_cons]
    show _ ≤ wt d + 2 + wtAll ds
    omega
end
mutual
theorem showable_of : ∀ d : PyData, plainD d = true → d.showable = true ∧ d.hasDict = false ∧ d.canLay0 = true
  | .none, _ => ⟨rfl, rfl, rfl⟩
  | .bool _, _ => ⟨rfl, rfl, rfl⟩
  | .int _, h => ⟨h, rfl, rfl⟩
  | .str _, h => by cases h
  | .list ds, h => showableAll_of ds h
  | .tuple ds, h => showableAll_of ds h
  | .dict _, h => by cases h
theorem showableAll_of : ∀ ds : List PyData, plainAll ds = true → PyData.showableAll ds = true ∧ PyData.hasDictAll ds = false ∧ PyData.canLayAll0 ds = true
  | [], _ => ⟨rfl, rfl, rfl⟩
  | d :: ds, h => by
    obtain ⟨h1, h2⟩ := plain_cons h
    obtain ⟨a1, a2, a3⟩ := showable_of d h1
    obtain ⟨b1, b2, b3⟩ := showableAll_of ds h2
    refine ⟨?_, ?_, ?_⟩
    · show (d.showable && PyData.showableAll ds) = true
      rw [a1, b1]; rfl
    · show (d.hasDict || PyData.hasDictAll ds) = false
      rw [a2, b2]; rfl
    · show (d.canLay0 && PyData.canLayAll0 ds) = true
      rw [a3, b3]; rfl
end
/-! tuples of small numbers -/
theorem log2_lt {n : Nat} (h : n < 2 ^ 30) : n.log2 < 30 := by
  by_cases h0 : n = 0
  · subst h0; decide
  · exact (Nat.log2_lt h0).mpr h
theorem plain_eT : ∀ {ns : List Nat}, (∀ n ∈ ns, n < 2 ^ 30) → plainAll (ns.map eN) = true ∧ wtAll (ns.map eN) ≤ 34 * ns.length
  | [], _ => ⟨rfl, by decide⟩
  | n :: ns, h => by
    obtain ⟨a, b⟩ := plain_eT fun m hm => h m (List.mem_cons_of_mem _ hm)
    have hn := log2_lt (h n List.mem_cons_self)
    have e : ((n : Int)).natAbs = n := by omega
    refine ⟨?_, ?_⟩
    · show (decide (((n : Int)).natAbs.log2 < 1920) && plainAll (ns.map eN)) = true
      rw [a, e, decide_eq_true (by omega)]
      rfl
    · show ((n : Int)).natAbs.log2 + 2 + 2 + wtAll (ns.map eN) ≤ _
      rw [e, List.length_cons]
      omega
theorem depth_eT (ns : List Nat) : (eT ns).depth = 1 := by
  show PyData.depthAll (ns.map eN) + 1 = 1
  have : ∀ ns : List Nat, PyData.depthAll (ns.map eN) = 0 := by
    intro ns
    induction ns with
    | nil => rfl
    | cons n r ih => show max 0 (PyData.depthAll (r.map eN)) = 0; rw [ih]; rfl
  rw [this]
/-- all that the texts' rule asks of data -/
structure Fits (d : PyData) : Prop where
  disp : isDisplay d = true
  sh : d.showable = true
  nd : d.hasDict = false
  dp : d.depth ≤ 50
  sz : d.shown.length ≤ sizeLine
theorem Fits.of {d : PyData} (h1 : isDisplay d = true) (h2 : plainD d = true) (h3 : d.depth ≤ 50) (h4 : wt d ≤ 1000000) : Fits d :=
  ⟨h1, (showable_of d h2).1, (showable_of d h2).2.1, h3, Nat.le_trans (shown_le d h2) (Nat.le_trans h4 (by decide))⟩
end RL
namespace RL
open PySem PySem.Spec PyProof.Rows L2
/-! ### groups of a level, the group above, the rows of groups by values -/
def gcount (a : Att) : Nat → Nat
  | 0 => a.1
  | l + 1 => top1 (a.2.getD l [])
def stepAt (a : Att) (l g : Nat) : Nat := (a.2.getD l []).getD g 0
/-- n steps up from level l -/
def upN (a : Att) : Nat → Nat → Nat → Nat
  | _, g, 0 => g
  | l, g, n + 1 => upN a (l + 1) (stepAt a l g) n
def gAbove (a : Att) (l g h : Nat) : Nat := upN a l g (h - l)
theorem upN_add (a : Att) : ∀ (n m l g : Nat), upN a l g (n + m) = upN a (l + n) (upN a l g n) m
  | 0, m, l, g => by rw [Nat.zero_add]; rfl
  | n + 1, m, l, g => by
    have e : n + 1 + m = (n + m) + 1 := by omega
    rw [e]
    show upN a (l + 1) (stepAt a l g) (n + m) = upN a (l + (n + 1)) (upN a (l + 1) (stepAt a l g) n) m
    rw [upN_add a n m (l + 1)]
    have e2 : l + 1 + n = l + (n + 1) := by omega
    rw [e2]
theorem upN_succ (a : Att) (n l g : Nat) : upN a l g (n + 1) = stepAt a (l + n) (upN a l g n) := by rw [upN_add a n 1 l g]; rfl
theorem gAbove_self (a : Att) (l g : Nat) : gAbove a l g l = g := by unfold gAbove; rw [Nat.sub_self]; rfl
theorem gAbove_succ {a : Att} {l g h : Nat} (hl : l ≤ h) : gAbove a l g (h + 1) = stepAt a h (gAbove a l g h) := by
  unfold gAbove
  have e : h + 1 - l = (h - l) + 1 := by omega
  rw [e, upN_succ]
  have e2 : l + (h - l) = h := by omega
  rw [e2]
theorem gAbove_trans {a : Att} {l m h g : Nat} (h1 : l ≤ m) (h2 : m ≤ h) : gAbove a m (gAbove a l g m) h = gAbove a l g h := by
  unfold gAbove
  have e : h - l = (m - l) + (h - m) := by omega
  rw [e, upN_add]
  have e2 : l + (m - l) = m := by omega
  rw [e2]
theorem stepsOk_at : ∀ {ss : List (List Nat)} {b : Nat}, StepsOk b ss → ∀ (l : Nat) (st : List Nat), ss[l]? = some st → StepOk (gcount (b, ss) l) st
  | [], _, _, _, _, h => by simp at h
  | s :: r, b, ok, 0, st, h => by
    have e : s = st := Option.some.inj h
    subst e
    exact ok.1
  | s :: r, b, ok, l + 1, st, h => by
    have := stepsOk_at ok.2 l st (by simpa using h)
    cases l with
    | zero => exact this
    | succ l => exact this
theorem step_ok {a : Att} (ok : AttOk a) {l : Nat} (hl : l < a.2.length) : StepOk (gcount a l) (a.2.getD l []) ∧ a.2[l]? = some (a.2.getD l []) := by
  have e : a.2[l]? = some (a.2.getD l []) := by
    rw [List.getD_eq_getElem?_getD, List.getElem?_eq_getElem hl]
    rfl
  exact ⟨stepsOk_at ok.2.2.2 l _ e, e⟩
theorem gcount_succ {a : Att} (ok : AttOk a) {l : Nat} (hl : l < a.2.length) : 0 < gcount a (l + 1) ∧ gcount a (l + 1) < gcount a l ∧ ∀ g, g ∈ a.2.getD l [] ↔ g < gcount a (l + 1) := by
  obtain ⟨⟨h1, m, m0, mb, hm⟩, _⟩ := step_ok ok hl
  have e : gcount a (l + 1) = m := top1_of m0 hm
  rw [e]
  exact ⟨m0, mb, hm⟩
theorem gcount_pos {a : Att} (ok : AttOk a) : ∀ {l : Nat}, l ≤ a.2.length → 0 < gcount a l ∧ gcount a l ≤ 6
  | 0, _ => ⟨ok.1, ok.2.1⟩
  | l + 1, h => by
    obtain ⟨h1, h2, _⟩ := gcount_succ ok (show l < a.2.length from h)
    have := gcount_pos ok (l := l) (by omega)
    omega
theorem stepAt_lt {a : Att} (ok : AttOk a) {l g : Nat} (hl : l < a.2.length) (hg : g < gcount a l) : stepAt a l g < gcount a (l + 1) := by
  obtain ⟨_, _, hm⟩ := gcount_succ ok hl
  obtain ⟨⟨h1, _⟩, _⟩ := step_ok ok hl
  unfold stepAt
  have hlt : g < (a.2.getD l []).length := by rw [h1]; exact hg
  rw [List.getD_eq_getElem?_getD, List.getElem?_eq_getElem hlt]
  exact (hm _).mp (List.getElem_mem hlt)
theorem gAbove_lt {a : Att} (ok : AttOk a) {l g : Nat} (hg : g < gcount a l) : ∀ {h : Nat}, l ≤ h → h ≤ a.2.length → gAbove a l g h < gcount a h
  | 0, hl, _ => by
    have : l = 0 := by omega
    subst this
    rw [gAbove_self]
    exact hg
  | h + 1, hl, hh => by
    by_cases e : l = h + 1
    · subst e
      rw [gAbove_self]
      exact hg
    · rw [gAbove_succ (by omega)]
      exact stepAt_lt ok hh (gAbove_lt ok hg (by omega) (by omega))
/-- the groups of all values at a level -/
def rowAt (a : Att) (l : Nat) : List Nat := (List.range a.1).map fun v => gAbove a 0 v l
def rowsN (a : Att) : List (List Nat) := (List.range (a.2.length + 1)).map (rowAt a)
theorem rowAt_zero (a : Att) : rowAt a 0 = List.range a.1 := by
  unfold rowAt
  have : (fun v => gAbove a 0 v 0) = id := funext fun v => gAbove_self a 0 v
  rw [this, List.map_id]
theorem rowAt_succ (a : Att) (l : Nat) : rowAt a (l + 1) = (rowAt a l).map (stepAt a l) := by
  unfold rowAt
  rw [List.map_map]
  exact List.map_congr_left fun v _ => gAbove_succ (Nat.zero_le _)
theorem mem_rowAt {a : Att} (ok : AttOk a) : ∀ {l : Nat}, l ≤ a.2.length → ∀ x, x ∈ rowAt a l ↔ x < gcount a l
  | 0, _, x => by rw [rowAt_zero]; exact List.mem_range
  | l + 1, h, x => by
    have ih := mem_rowAt ok (l := l) (by omega)
    obtain ⟨_, _, hm⟩ := gcount_succ ok (show l < a.2.length from h)
    obtain ⟨⟨h1, _⟩, _⟩ := step_ok ok (show l < a.2.length from h)
    rw [rowAt_succ, List.mem_map]
    constructor
    · rintro ⟨g, hg, rfl⟩
      exact stepAt_lt ok h ((ih g).mp hg)
    · intro hx
      have := (hm x).mpr hx
      obtain ⟨g, hg⟩ := List.mem_iff_getElem?.mp this
      have hlt : g < (a.2.getD l []).length := (List.getElem?_eq_some_iff.mp hg).1
      refine ⟨g, (ih g).mpr (by rw [← h1]; exact hlt), ?_⟩
      unfold stepAt
      rw [List.getD_eq_getElem?_getD, hg]
      rfl
theorem rowAt_len (a : Att) (l : Nat) : (rowAt a l).length = a.1 := by unfold rowAt; rw [List.length_map, List.length_range]
theorem top1_row {a : Att} (ok : AttOk a) {l : Nat} (h : l ≤ a.2.length) : top1 (rowAt a l) = gcount a l := top1_of (gcount_pos ok h).1 (mem_rowAt ok h)
theorem rowsN_get {a : Att} {l : Nat} (h : l ≤ a.2.length) : (rowsN a)[l]? = some (rowAt a l) := by
  unfold rowsN
  rw [List.getElem?_map, List.getElem?_range (by omega)]
  rfl
theorem row_above {a : Att} {l h j g : Nat} (hl : l ≤ h) (hj : (rowAt a l)[j]? = some g) : (rowAt a h)[j]? = some (gAbove a l g h) := by
  unfold rowAt at hj ⊢
  rw [List.getElem?_map] at hj ⊢
  obtain ⟨v, hv, e⟩ := Option.map_eq_some_iff.mp hj
  rw [hv, Option.map_some, ← e, gAbove_trans (Nat.zero_le _) hl]
/-! ### all tuples below some numbers -/
def tuplesN (ns : List Nat) : List (List Nat) := ns.foldl (fun acc m => acc.flatMap fun r => (List.range m).map fun x => r ++ [x]) [[]]
theorem tuplesN_snoc (ns : List Nat) (m : Nat) : tuplesN (ns ++ [m]) = (tuplesN ns).flatMap fun r => (List.range m).map fun x => r ++ [x] := by unfold tuplesN; rw [List.foldl_append]; rfl
theorem flat_len (xs : List (List Nat)) (m : Nat) : (xs.flatMap fun r => (List.range m).map fun x => r ++ [x]).length = xs.length * m := by
  induction xs with
  | nil => simp
  | cons r t ih => rw [List.flatMap_cons, List.length_append, ih, List.length_map, List.length_range, List.length_cons, Nat.succ_mul]; omega
theorem snocInd {P : List Nat → Prop} (h0 : P []) (h1 : ∀ xs x, P xs → P (xs ++ [x])) (xs : List Nat) : P xs := by
  have : ∀ ys : List Nat, P ys.reverse := by
    intro ys
    induction ys with
    | nil => exact h0
    | cons y t ih => rw [List.reverse_cons]; exact h1 _ _ ih
  have h := this xs.reverse
  rwa [List.reverse_reverse] at h
theorem prodN_snoc2 {ns : List Nat} {m : Nat} : prodN (ns ++ [m]) = prodN ns * m := by unfold prodN; rw [List.foldl_append]; rfl
theorem tuplesN_len (ns : List Nat) : (tuplesN ns).length = prodN ns := by
  refine snocInd (P := fun ns => (tuplesN ns).length = prodN ns) rfl (fun ns m ih => ?_) ns
  rw [tuplesN_snoc, flat_len, ih, prodN_snoc2]
theorem mem_tuplesN (ns : List Nat) : ∀ c : List Nat, c ∈ tuplesN ns ↔ c.length = ns.length ∧ ∀ (i x m : Nat), c[i]? = some x → ns[i]? = some m → x < m := by
  refine snocInd (P := fun ns => ∀ c : List Nat, c ∈ tuplesN ns ↔ c.length = ns.length ∧ ∀ (i x m : Nat), c[i]? = some x → ns[i]? = some m → x < m) ?_ (fun ns m ih => ?_) ns
  · intro c
    show c ∈ [[]] ↔ _
    rw [List.mem_singleton]
    constructor
    · rintro rfl
      exact ⟨rfl, fun i x m h => by simp at h⟩
    · rintro ⟨h, _⟩
      exact List.eq_nil_of_length_eq_zero h
  · intro c
    rw [tuplesN_snoc, List.mem_flatMap]
    constructor
    · rintro ⟨r, hr, hc⟩
      obtain ⟨x, hx, rfl⟩ := List.mem_map.mp hc
      obtain ⟨lr, hlt⟩ := (ih r).mp hr
      refine ⟨by simp [lr], fun i y k hi hk => ?_⟩
      by_cases h : i < r.length
      · rw [List.getElem?_append_left h] at hi
        rw [List.getElem?_append_left (by omega)] at hk
        exact hlt i y k hi hk
      · have hi0 : i < (r ++ [x]).length := (List.getElem?_eq_some_iff.mp hi).1
        rw [List.length_append] at hi0
        have e : i = r.length := by simp at hi0; omega
        subst e
        rw [List.getElem?_append_right (Nat.le_refl _), Nat.sub_self] at hi
        rw [List.getElem?_append_right (by omega)] at hk
        have e0 : r.length - ns.length = 0 := by omega
        rw [e0] at hk
        have e1 : x = y := Option.some.inj hi
        have e2 : m = k := Option.some.inj hk
        rw [← e1, ← e2]
        exact List.mem_range.mp hx
    · rintro ⟨hl, hlt⟩
      rw [List.length_append, List.length_singleton] at hl
      have hne : c ≠ [] := fun e => by rw [e] at hl; simp at hl
      refine ⟨c.dropLast, (ih _).mpr ⟨by rw [List.length_dropLast]; omega, fun i x k hi hk => ?_⟩, List.mem_map.mpr ⟨c.getLast hne, List.mem_range.mpr ?_, List.dropLast_concat_getLast hne⟩⟩
      · have hi0 : i < c.dropLast.length := (List.getElem?_eq_some_iff.mp hi).1
        rw [List.length_dropLast] at hi0
        refine hlt i x k ?_ (by rw [List.getElem?_append_left (by omega)]; exact hk)
        rw [List.getElem?_dropLast, if_pos (by omega)] at hi
        exact hi
      · refine hlt (c.length - 1) _ m ?_ ?_
        · rw [← List.getLast?_eq_getElem?, List.getLast?_eq_some_getLast hne]
        · rw [List.getElem?_append_right (by omega)]
          have e0 : c.length - 1 - ns.length = 0 := by omega
          rw [e0]
          rfl
/-- the counts of groups of a rollup -/
def counts (S : List Att) (r : List Nat) : List Nat := (List.range S.length).map fun i => gcount (S.getD i (0, [])) (r.getD i 0)
def CellOk (S : List Att) (r c : List Nat) : Prop := c.length = S.length ∧ ∀ (i g m : Nat), c[i]? = some g → (counts S r)[i]? = some m → g < m
theorem counts_len (S : List Att) (r : List Nat) : (counts S r).length = S.length := by unfold counts; rw [List.length_map, List.length_range]
theorem counts_get {S : List Att} {r : List Nat} {i : Nat} {a : Att} {l : Nat} (h1 : S[i]? = some a) (h2 : r[i]? = some l) : (counts S r)[i]? = some (gcount a l) := by
  have hi : i < S.length := (List.getElem?_eq_some_iff.mp h1).1
  unfold counts
  rw [List.getElem?_map, List.getElem?_range hi]
  show some (gcount (S.getD i (0, [])) (r.getD i 0)) = _
  rw [getD_of h1, getD_of h2]
end RL
namespace RL
open PySem PySem.Spec PyProof.Rows L2
/-! ### a list of lists of numbers -/
def LL (H : Hp) (R : Addr) (rs : List (List Nat)) : Prop := ∃ ps : List Addr, H R = some (.lst (ps.map V.ref)) ∧ ps.length = rs.length ∧ ∀ (k : Nat) (p : Addr) (row : List Nat), ps[k]? = some p → rs[k]? = some row → H p = some (.lst (row.map vN))
theorem LL.same {H H' : Hp} {R : Addr} {rs : List (List Nat)} (h : LL H R rs) (e : Same H H') : LL H' R rs := by
  obtain ⟨ps, h1, h2, h3⟩ := h
  exact ⟨ps, e _ _ h1, h2, fun k p row hk hr => e _ _ (h3 k p row hk hr)⟩
theorem LL.get {H : Hp} {R : Addr} {rs : List (List Nat)} {k : Nat} {row : List Nat} (h : LL H R rs) (hk : rs[k]? = some row) : ∃ (ps : List Addr) (p : Addr), H R = some (.lst (ps.map V.ref)) ∧ ps.length = rs.length ∧ (ps.map V.ref)[k]? = some (.ref p) ∧ H p = some (.lst (row.map vN)) := by
  obtain ⟨ps, h1, h2, h3⟩ := h
  have hlt : k < ps.length := by rw [h2]; exact (List.getElem?_eq_some_iff.mp hk).1
  have g : ps[k]? = some ps[k] := List.getElem?_eq_getElem hlt
  exact ⟨ps, ps[k], h1, h2, by rw [List.getElem?_map, g]; rfl, h3 k _ row g hk⟩
theorem row_ne {H : Hp} {p D : Addr} {row : List Nat} {ps : List Addr} (h1 : H p = some (.lst (row.map vN))) (h2 : H D = some (.lst (ps.map V.ref))) (hr : row ≠ []) : p ≠ D := by
  intro e
  subst e
  rw [h1] at h2
  have e := Option.some.inj h2
  cases row with
  | nil => exact hr rfl
  | cons x r =>
    cases ps with
    | nil => cases e
    | cons q t => cases e
theorem pre_take {α : Type} (xs : List α) {i : Nat} {x : α} (h : xs[i]? = some x) : xs.take (i + 1) = xs.take i ++ [x] := by rw [List.take_add_one, h, Option.toList_some]
theorem prod_take_le : ∀ {ns : List Nat}, (∀ n ∈ ns, 1 ≤ n) → ∀ i, prodN (ns.take i) ≤ prodN ns := by
  intro ns
  refine snocInd (P := fun ns => (∀ n ∈ ns, 1 ≤ n) → ∀ i, prodN (ns.take i) ≤ prodN ns) (fun _ i => by simp) (fun ns m ih h i => ?_) ns
  have h1 := ih fun n hn => h n (List.mem_append_left _ hn)
  have hm : 1 ≤ m := h m (by simp)
  rw [prodN_snoc2]
  by_cases hi : i ≤ ns.length
  · rw [List.take_append_of_le_length hi]
    exact Nat.le_trans (h1 i) (Nat.le_mul_of_pos_right _ hm)
  · rw [List.take_of_length_le (by simp; omega), prodN_snoc2]
    exact Nat.le_refl _
theorem plain_flat {rs : List (List Nat)} (j : Nat) (m : Nat) {r : List Nat} (h : rs[j]? = some r) : ((rs.take (j + 1)).flatMap fun r => (List.range m).map fun x => r ++ [x]) = ((rs.take j).flatMap fun r => (List.range m).map fun x => r ++ [x]) ++ (List.range m).map fun x => r ++ [x] := by
  rw [pre_take rs h, List.flatMap_append]
  simp
theorem DpAll.app {K : PySem.W.Frag} {H : Hp} : ∀ {vs us : List V} {ds es : List PyData}, DpAll K H vs ds → DpAll K H us es → DpAll K H (vs ++ us) (ds ++ es)
  | _, _, _, _, .nil, h => h
  | _, _, _, _, .cons h1 h2, h => .cons h1 (DpAll.app h2 h)
theorem tupAll_eT (rs : List (List Nat)) : tupAll (rs.map eT) = true := tupAll_map (f := eT) tup_eT rs
/-! ### tuples of numbers that stand as such in the heap -/
def TR (H : Hp) : List V → List (List Nat) → Prop
  | [], [] => True
  | v :: vs, c :: cs => (∃ b, v = V.ref b ∧ H b = some (.tup (c.map vN))) ∧ TR H vs cs
  | _, _ => False
theorem TR.ts {H H' : Hp} (e : TS H H') : ∀ {vs : List V} {cs : List (List Nat)}, TR H vs cs → TR H' vs cs
  | [], [], _ => trivial
  | _ :: _, _ :: _, ⟨⟨b, e1, e2⟩, h⟩ => ⟨⟨b, e1, e _ _ trivial e2⟩, TR.ts e h⟩
theorem TR.app {H : Hp} : ∀ {vs us : List V} {cs ds : List (List Nat)}, TR H vs cs → TR H us ds → TR H (vs ++ us) (cs ++ ds)
  | [], _, [], _, _, h => h
  | _ :: _, _, _ :: _, _, ⟨h1, h2⟩, h => ⟨h1, TR.app h2 h⟩
theorem TR.one {H : Hp} {b : Addr} {c : List Nat} (h : H b = some (.tup (c.map vN))) : TR H [.ref b] [c] := ⟨⟨b, rfl, h⟩, trivial⟩
theorem TR.get {H : Hp} : ∀ {vs : List V} {cs : List (List Nat)} {i : Nat} {v : V}, TR H vs cs → vs[i]? = some v → ∃ c b, cs[i]? = some c ∧ v = .ref b ∧ H b = some (.tup (c.map vN))
  | [], [], _, _, _, h => by simp at h
  | _ :: _, c :: _, 0, _, ⟨⟨b, e1, e2⟩, _⟩, h => ⟨c, b, rfl, (Option.some.inj h).symm.trans e1, e2⟩
  | _ :: vs, _ :: cs, i + 1, v, ⟨_, h2⟩, h => by
    obtain ⟨c, b, q⟩ := TR.get (i := i) h2 (by simpa using h)
    exact ⟨c, b, by simpa using q.1, q.2⟩
end RL
namespace RL
open PySem PySem.Spec PyProof.Rows L2
/-! ### schemes, rollups, cells as texts -/
theorem wtAll_map {α : Type} {f : α → PyData} {B : Nat} : ∀ {xs : List α}, (∀ x ∈ xs, plainD (f x) = true ∧ wt (f x) ≤ B) → plainAll (xs.map f) = true ∧ wtAll (xs.map f) ≤ (B + 2) * xs.length
  | [], _ => ⟨rfl, by simp [wtAll]⟩
  | x :: xs, h => by
    obtain ⟨a, b⟩ := wtAll_map fun y hy => h y (List.mem_cons_of_mem _ hy)
    obtain ⟨c, d⟩ := h x List.mem_cons_self
    refine ⟨?_, ?_⟩
    · show (plainD (f x) && plainAll (xs.map f)) = true
      rw [a, c]; rfl
    · show wt (f x) + 2 + wtAll (xs.map f) ≤ _
      rw [List.length_cons, Nat.mul_succ]
      omega
theorem depthAll_map {α : Type} {f : α → PyData} {B : Nat} : ∀ {xs : List α}, (∀ x ∈ xs, (f x).depth ≤ B) → PyData.depthAll (xs.map f) ≤ B
  | [], _ => Nat.zero_le _
  | x :: xs, h => by
    have a := depthAll_map fun y hy => h y (List.mem_cons_of_mem _ hy)
    have b := h x List.mem_cons_self
    show max (f x).depth (PyData.depthAll (xs.map f)) ≤ B
    omega
theorem wt_eT {ns : List Nat} (h : ∀ n ∈ ns, n < 2 ^ 30) : plainD (eT ns) = true ∧ wt (eT ns) ≤ 34 * ns.length + 3 := by
  obtain ⟨a, b⟩ := plain_eT h
  exact ⟨a, by show wtAll (ns.map eN) + 3 ≤ _; omega⟩
theorem step_small {a : Att} (ok : AttOk a) {st : List Nat} (h : st ∈ a.2) : st.length ≤ 6 ∧ ∀ n ∈ st, n < 6 := by
  obtain ⟨l, hl⟩ := List.mem_iff_getElem?.mp h
  have hlt : l < a.2.length := (List.getElem?_eq_some_iff.mp hl).1
  obtain ⟨⟨h1, m, m0, mb, hm⟩, g⟩ := step_ok ok hlt
  rw [g] at hl
  have e : a.2.getD l [] = st := Option.some.inj hl
  rw [e] at h1 hm
  have := gcount_pos ok (Nat.le_of_lt hlt)
  exact ⟨by omega, fun n hn => by have := (hm n).mp hn; omega⟩
theorem wt_eA {a : Att} (ok : AttOk a) : plainD (eA a) = true ∧ wt (eA a) ≤ 1000 ∧ (eA a).depth ≤ 3 := by
  have hst : ∀ st ∈ a.2, plainD (eT st) = true ∧ wt (eT st) ≤ 210 := fun st hs => by
    obtain ⟨h1, h2⟩ := step_small ok hs
    obtain ⟨p, q⟩ := wt_eT (ns := st) fun n hn => by have := h2 n hn; omega
    exact ⟨p, by omega⟩
  obtain ⟨p1, q1⟩ := wtAll_map hst
  have d1 := depthAll_map (f := eT) (B := 1) (xs := a.2) fun st _ => by rw [depth_eT]; exact Nat.le_refl _
  have h3 := ok.2.2.1
  have l1 : ((a.1 : Int)).natAbs.log2 < 30 := by
    have e : ((a.1 : Int)).natAbs = a.1 := by omega
    rw [e]
    exact log2_lt (by have := ok.2.1; omega)
  refine ⟨?_, ?_, ?_⟩
  · show (decide (((a.1 : Int)).natAbs.log2 < 1920) && (plainAll (a.2.map eT) && true)) = true
    rw [p1, decide_eq_true (by omega)]
    rfl
  · show (((a.1 : Int)).natAbs.log2 + 2) + 2 + ((wtAll (a.2.map eT) + 3) + 2 + 0) + 3 ≤ 1000
    have : (210 + 2) * a.2.length ≤ 636 := by omega
    omega
  · show max 0 (max (PyData.depthAll (a.2.map eT) + 1) 0) + 1 ≤ 3
    omega
theorem wt_eS {S : List Att} (ok : SchOk S) : plainD (eS S) = true ∧ wt (eS S) ≤ 4000 ∧ (eS S).depth ≤ 4 := by
  obtain ⟨p1, q1⟩ := wtAll_map (f := eA) (B := 1000) (xs := S) fun a ha => ⟨(wt_eA (ok.2.2.1 a ha)).1, (wt_eA (ok.2.2.1 a ha)).2.1⟩
  have d1 := depthAll_map (f := eA) (B := 3) (xs := S) fun a ha => (wt_eA (ok.2.2.1 a ha)).2.2
  have l3 := ok.2.1
  refine ⟨p1, ?_, ?_⟩
  · show wtAll (S.map eA) + 3 ≤ 4000
    have : (1000 + 2) * S.length ≤ 3006 := by omega
    omega
  · show PyData.depthAll (S.map eA) + 1 ≤ 4
    omega
theorem roll_le {S : List Att} {r : List Nat} (hS : SchOk S) (h : RollOk S r) : ∀ n ∈ r, n ≤ 3 := by
  intro n hn
  obtain ⟨i, hi⟩ := List.mem_iff_getElem?.mp hn
  have hlt : i < r.length := (List.getElem?_eq_some_iff.mp hi).1
  have hs : i < S.length := by rw [← h.1]; exact hlt
  have := h.2 i S[i] n (List.getElem?_eq_getElem hs) hi
  have a3 := (hS.2.2.1 S[i] (List.getElem_mem hs)).2.2.1
  omega
theorem first_ix : ∀ {row : List Nat} {g : Nat}, g ∈ row → ∃ j, row[j]? = some g ∧ ∀ (m x : Nat), m < j → row[m]? = some x → x ≠ g
  | [], _, h => by cases h
  | y :: r, g, h => by
    by_cases e : y = g
    · subst e
      exact ⟨0, rfl, fun m x hm => by omega⟩
    · rcases List.mem_cons.mp h with e' | h'
      · exact absurd e'.symm e
      · obtain ⟨j, hj, hb⟩ := first_ix h'
        refine ⟨j + 1, by simpa using hj, fun m x hm hx => ?_⟩
        cases m with
        | zero =>
          have : y = x := Option.some.inj hx
          rw [← this]
          exact e
        | succ m => exact hb m x (by omega) (by simpa using hx)
end RL
namespace RL
open PySem PySem.Spec PyProof.Rows L2

/-! ### zip of a list and a tuple -/
def ItzLT (K : PySem.W.Frag) (a b : Addr) : It :=
  ⟨fun i H => ∃ (xs ys : List V) (x y : V), SqL K H a xs ∧ SqT K H b ys ∧ xs[i]? = some x ∧ ys[i]? = some y,
    fun i H v H' => ∃ T x y, v = .ref T ∧ H T = none ∧ H' = upd H T (.tup [x, y]) ∧ (∀ xs, SqL K H a xs → xs[i]? = some x) ∧ ∀ ys, SqT K H b ys → ys[i]? = some y,
    fun i H => ∃ xs ys : List V, SqL K H a xs ∧ SqT K H b ys ∧ i ≤ xs.length ∧ i ≤ ys.length ∧ (i = xs.length ∨ i = ys.length)⟩
theorem turn_zipLT {P : Program} {w : World} {K : PySem.W.Frag} {elts : List Expr} {kk : Nat} {tpos : Pos} {a b z TI TO i1 i2 : Addr} (D : ZipApart z TI TO i1 i2 a b) :
    Turn P w K (.Tuple elts kk tpos) (ItzLT K a b) [z, TI, TO, i1, i2] z
      (fun i h => IsZip h z TI TO .none ∧ IsPair h TI (.ref i1) (.ref i2) ∧ (∃ x y, IsPair h TO x y) ∧ h.IsListIter i1 a i ∧ h.IsTupleIter i2 b i) where
  mem := List.mem_cons_self
  obj := fun i h st c hc => by
    obtain ⟨hz, hTI, ⟨x, y, hTO⟩, ⟨o1, e1, _, d1⟩, ⟨o2, e2, _, d2⟩⟩ := st
    simp only [List.mem_cons, List.not_mem_nil, or_false] at hc
    rcases hc with rfl | rfl | rfl | rfl | rfl
    · exact ⟨_, hz, fun _ q => nomatch q⟩
    · exact ⟨_, hTI, fun _ q => nomatch q⟩
    · exact ⟨_, hTO, fun _ q => nomatch q⟩
    · exact ⟨o1, e1, fun _ q => by rw [d1] at q; cases q⟩
    · exact ⟨o2, e2, fun _ q => by rw [d2] at q; cases q⟩
  keep := fun i h h' st k => by
    obtain ⟨hz, hTI, ⟨x, y, hTO⟩, h1, h2⟩ := st
    have m1 : i1 ∈ [z, TI, TO, i1, i2] := by simp
    have m2 : i2 ∈ [z, TI, TO, i1, i2] := by simp
    exact ⟨k z (by simp) _ hz, k TI (by simp) _ hTI, ⟨x, y, k TO (by simp) _ hTO⟩, h1.at (k i1 m1), h2.at (k i2 m2)⟩
  item := by
    intro X hP hw hK hc i pins s σ H E I hf st hg
    subst hP hw hK
    obtain ⟨hz, hTI, ⟨x0, y0, hTO⟩, h1, h2⟩ := st
    obtain ⟨xs, ys, x, y, qx, qy, gx, gy⟩ := hg
    obtain ⟨its, rv, p, _⟩ := I.list qx
    obtain ⟨its2, rv2, p2, _⟩ := I.tuple qy
    have lx := rv.length
    have ly := rv2.length
    obtain ⟨bx, _⟩ := List.getElem?_eq_some_iff.mp gx
    obtain ⟨byy, _⟩ := List.getElem?_eq_some_iff.mp gy
    have hzl : z < s.heap.objs.size := Heap.lt_size hz
    have hh : X.A.in1.handled = none := I.ok.hd hc
    refine wpAny_pyNext_zipD2_item (sepM D) (Draws.list hh i1 a D.l1i1 its.toArray) (Draws.tuple hh i2 b D.l2i2 its2.toArray) hz hTI hTO ⟨h1, p.isList⟩ ⟨h2, p2⟩ (by simp; omega) (by simp; omega) fun u u2 h' tk g1 g2 z' TO' s1 s2 hT hsz hk => ?_
    obtain ⟨w1, hw1, ru⟩ := rv.get gx
    obtain ⟨w2, hw2, ru2⟩ := rv2.get gy
    have e1 : w1 = u := by
      have g1' : its[i]? = some u := by simpa using g1
      exact Option.some.inj (hw1.symm.trans g1')
    have e2 : w2 = u2 := by
      have g2' : its2[i]? = some u2 := by simpa using g2
      exact Option.some.inj (hw2.symm.trans g2')
    subst e1 e2
    refine ⟨_, rfl, wpAny_letOwnedTupleGo_zip (s := { s with heap := h', toks := tk }) z' fun h'' z'' sb => ?_⟩
    have hT2 : h''.get? s.heap.objs.size = some { cls := .type "tuple", data := .seq #[w1, w2] } := (sb.2 _ (Nat.ne_of_gt hzl)).trans hT
    have new : ObjOk X.prog X.w (upd H s.heap.objs.size (.tup [x, y])) h'' s.heap.objs.size (.tup [x, y]) :=
      ⟨by show 2 ≤ sizeLine; decide, [w1, w2], .cons ru (.cons ru2 .nil), ⟨_, hT2, rfl, _, rfl⟩⟩
    have far : ∀ c o, c ∉ [z, TI, TO, i1, i2] → s.heap.get? c = some o → h''.get? c = some o := fun c o hb q => by
      simp only [List.mem_cons, List.not_mem_nil, or_false, not_or] at hb
      exact (sb.2 c hb.1).trans (hk c o hb.1 hb.2.2.1 hb.2.2.2.1 hb.2.2.2.2 q)
    have I1 := I.turnedNew (t' := tk) (ch := [z, TI, TO, i1, i2]) far hf (Nat.le_refl _) new
    refine ⟨.ref s.heap.objs.size, _, I1, rfl, ⟨_, x, y, rfl, I.hok.fresh (Nat.le_refl _), rfl, fun l hl => by rw [I.list_inj hl qx]; exact gx, fun l hl => by rw [I.tuple_inj hl qy]; exact gy⟩, ⟨z'', ?_, ⟨w1, w2, ?_⟩, ?_, ?_⟩, fun c hcm => ?_⟩
    · exact (sb.2 _ D.TIz).trans (hk _ _ D.TIz D.TITO D.TIi1 D.TIi2 hTI)
    · exact (sb.2 _ D.TOz).trans TO'
    · exact s1.1.at fun o q => (sb.2 _ D.i1z).trans q
    · exact s2.1.at fun o q => (sb.2 _ D.i2z).trans q
    · have hlt : c < s.heap.objs.size := by
        simp only [List.mem_cons, List.not_mem_nil, or_false] at hcm
        rcases hcm with rfl | rfl | rfl | rfl | rfl
        · exact hzl
        · exact Heap.lt_size hTI
        · exact Heap.lt_size hTO
        · obtain ⟨_, e, _⟩ := h1; exact Heap.lt_size e
        · obtain ⟨_, e, _⟩ := h2; exact Heap.lt_size e
      rw [upd_ne (Nat.ne_of_lt hlt)]
      exact (hf c hcm).1
  done := by
    intro X hP hw hK hc i pins s σ H E I hf st hg
    subst hP hw hK
    obtain ⟨hz, hTI, ⟨x0, y0, hTO⟩, h1, h2⟩ := st
    obtain ⟨xs, ys, qx, qy, le1, le2, hend⟩ := hg
    obtain ⟨its, rv, p, _⟩ := I.list qx
    obtain ⟨its2, rv2, p2, _⟩ := I.tuple qy
    have lx := rv.length
    have ly := rv2.length
    have hh : X.A.in1.handled = none := I.ok.hd hc
    refine wpAny_pyNext_zipD2_end (sepM D) (Draws.list hh i1 a D.l1i1 its.toArray) (Draws.tuple hh i2 b D.l2i2 its2.toArray) hz hTI hTO ⟨h1, p.isList⟩ ⟨h2, p2⟩ (by simp; omega) (by simp; omega) (by simp; omega) fun h' tk hk => ?_
    refine ⟨rfl, I.turnedL (t' := tk) (ch := [z, TI, TO, i1, i2]) (fun c o hb q => ?_) hf⟩
    simp only [List.mem_cons, List.not_mem_nil, or_false, not_or] at hb
    exact hk c o hb.1 hb.2.2.1 hb.2.2.2.1 hb.2.2.2.2 q
  self := fun A i s Q E st h => wpAny_pyIter_zip st.1 h

def iZipLT (K : PySem.W.Frag) (ta : TA) : TI := fun σ H R => ta σ H fun vs H1 => ∃ a b xs ys, vs = [.ref a, .ref b] ∧ SqL K H1 a xs ∧ SqT K H1 b ys ∧ R (ItzLT K a b) H1
theorem pi_zipLT {X : Cx} {e e2 : Expr} {ta : TA} {p pos tpos : Pos} {elts : List Expr} {kk : Nat} (hg : Gl X "zip") (hm : X.mg "zip" = none) (ha : PA X [e, e2] ta)
    (hs : starEach [e, e2] X.env = (false, eval e X.env) :: starEach [e2] X.env := by rfl) (hpl : (backTo pos (starEach [e2] X.env)).any (·.1) = false := by rfl) :
    PI X (.Tuple elts kk tpos) (.Call (.Name "zip" p) [e, e2] [] pos) (iZipLT X.K ta) := by
  refine ⟨fun pins s σ H R I h => Call_ (ld_blt I hg hm PyProof.Rows.boot_zip (PyProof.Rows.callWith_type1 (thn (ha.run pos pins s σ H _ I h) ?_) hs hpl))⟩
  intro us s1 ⟨vs, H1, I1, r1, a, b, xs, ys, ex, qx, qy, q⟩
  subst ex
  cases r1 with
  | cons ra rr =>
    cases rr with
    | cons rb rr =>
      cases rr
      cases ra
      cases rb
      obtain ⟨its, rv, p1, _⟩ := I1.list qx
      obtain ⟨its2, rv2, p2, _⟩ := I1.tuple qy
      obtain ⟨o1, ho1, _⟩ := id p2
      refine zip_begins2 (begins_list a its.toArray) (begins_tuple b its2.toArray) p1.isList p2 fun h' hz hTI hTO h1 h2 hsz hk => wpAny_pyIter_zip hz ?_
      have D := PySem.W.ktu_apart s1.heap.objs.size a b p1.lt (Heap.lt_size ho1)
      refine ⟨s1.heap.objs.size + 4, [s1.heap.objs.size + 4, s1.heap.objs.size + 2, s1.heap.objs.size + 3, s1.heap.objs.size, s1.heap.objs.size + 1], _, _, H1, rfl, I1.kept (t' := s1.toks) hk, turn_zipLT D, ⟨hz, hTI, ⟨_, _, hTO⟩, ⟨_, h1, rfl, rfl⟩, ⟨_, h2, rfl, rfl⟩⟩, fun c hcm => ?_, q⟩
      have hle : s1.heap.objs.size ≤ c := by
        simp only [List.mem_cons, List.not_mem_nil, or_false] at hcm
        rcases hcm with rfl | rfl | rfl | rfl | rfl
        · exact Nat.le_add_right _ _
        · exact Nat.le_add_right _ _
        · exact Nat.le_add_right _ _
        · exact Nat.le_refl _
        · exact Nat.le_add_right _ _
      exact I1.fpOk hle (I1.hok.fresh hle)
section
variable {K : PySem.W.Frag} {a b : Addr} {xs ys : List V}
theorem walk_zipLT (hl : xs.length = ys.length) : Walk (ItzLT K a b) xs.length (fun H => SqL K H a xs ∧ SqT K H b ys) (YPair (fun i => xs[i]?) (fun i => ys[i]?)) := by
  refine ⟨fun i _ hi q => ?_, fun _ q => ⟨xs, ys, q.1, q.2, Nat.le_refl _, by omega, .inl rfl⟩, fun i H v H' _ q y => ?_⟩
  · have h2 : i < ys.length := by omega
    exact ⟨xs, ys, xs[i], ys[i], q.1, q.2, by simp [hi], by simp [h2]⟩
  · obtain ⟨T, x, z, h1, h2, h3, h4, h5⟩ := y
    exact ⟨T, x, z, h1, h2, h3, h4 xs q.1, h5 ys q.2⟩
end
/-! ### a walk with any turn -/
theorem walk_any {J : It} {n : Nat} {G : Hp → Prop} {Y : Nat → Hp → V → Hp → Prop} (w : Walk J n G Y) {H0 : Hp} {Qd : Hp → Prop} {body : V → Hp → (Hp → Prop) → Prop} (Pv : Nat → Hp → Prop) (h0 : Pv 0 H0) (hG : ∀ i H, i ≤ n → Pv i H → G H)
    (hs : ∀ i x H H', i < n → Pv i H → Y i H x H' → body x H' (Pv (i + 1))) (hd : ∀ H, Pv n H → Qd H) :
    ∃ W : Nat → Nat → Hp → Prop, (∃ m, W 0 m H0) ∧ ∀ i m H, W i m H → (J.stop i H ∧ Qd H) ∨ (J.go i H ∧ ∃ Nx : Hp → Prop, (∀ H', Nx H' → ∃ m', m' < m ∧ W (i + 1) m' H') ∧ ∀ x H', J.yld i H x H' → body x H' Nx) := by
  refine ⟨fun i m H => m = n - i ∧ i ≤ n ∧ Pv i H, ⟨n, by simp, Nat.zero_le _, h0⟩, ?_⟩
  rintro i m H ⟨rfl, hi, p⟩
  have q := hG i H hi p
  by_cases hlt : i < n
  · exact .inr ⟨w.goes i H hlt q, Pv (i + 1), fun H' p' => ⟨n - (i + 1), by omega, rfl, hlt, p'⟩, fun x H' y => hs i x H H' hlt p (w.yields i H x H' hlt q y)⟩
  · have e : i = n := by omega
    subst e
    exact .inl ⟨w.stops H q, hd H p⟩
theorem pa_starK {X : Cx} {K : PySem.W.Frag} {e : Expr} {es : List Expr} {te : TE} {t : TA} {p : Pos} (hK : X.K = K) (he : PE X e te) (hr : PA X es t) (hs : starEach (.Starred e p :: es) X.env = (true, eval e X.env) :: starEach es X.env := by rfl) : PA X (.Starred e p :: es) (StX.tStar K te t) := by
  subst hK
  exact StX.pa_star he hr hs
theorem piK {X : Cx} {K : PySem.W.Frag} {tg it : Expr} {r : PySem.W.Frag → TI} (e : X.K = K) (h : PI X tg it (r X.K)) : PI X tg it (r K) := by subst e; exact h
theorem pi_zipLTK {X : Cx} {K : PySem.W.Frag} (hK : X.K = K) {e e2 : Expr} {ta : TA} {p pos tpos : Pos} {elts : List Expr} {kk : Nat} (hg : Gl X "zip") (hm : X.mg "zip" = none) (ha : PA X [e, e2] ta)
    (hs : starEach [e, e2] X.env = (false, eval e X.env) :: starEach [e2] X.env := by rfl) (hpl : (backTo pos (starEach [e2] X.env)).any (·.1) = false := by rfl) :
    PI X (.Tuple elts kk tpos) (.Call (.Name "zip" p) [e, e2] [] pos) (iZipLT K ta) := by subst hK; exact pi_zipLT hg hm ha hs hpl
/-! ### tuples of whole numbers -/
def eI (xs : List Int) : PyData := .tuple (xs.map .int)
theorem tup_eI (xs : List Int) : tupD (eI xs) = true := tupAll_map (f := PyData.int) (fun _ => rfl) xs
theorem dpI0 {K : PySem.W.Frag} {H : Hp} : ∀ {xs : List Int} {vs : List V}, DpAll K H vs (xs.map .int) → vs = xs.map V.int
  | [], _, h => by cases h; rfl
  | x :: xs, _, h => by
    cases h with
    | cons h1 h2 =>
      cases h1
      rw [dpI0 h2]
      rfl
theorem dpI_all {K : PySem.W.Frag} {H : Hp} : ∀ (xs : List Int), DpAll K H (xs.map V.int) (xs.map .int)
  | [] => .nil
  | x :: xs => .cons (.int x) (dpI_all xs)
theorem dpI {K : PySem.W.Frag} {H : Hp} {xs : List Int} {v : V} (h : Dp K H v (eI xs)) : ∃ a, v = .ref a ∧ SqT K H a (xs.map V.int) := by
  cases h with
  | tup hs ha => exact ⟨_, rfl, by rw [← dpI0 ha]; exact hs⟩
theorem dpI_mkT {K : PySem.W.Frag} {H : Hp} {xs : List Int} {a : Addr} (h : SqT K H a (xs.map V.int)) : Dp K H (.ref a) (eI xs) := .tup h (dpI_all xs)
theorem dpI_ts {K : PySem.W.Frag} {H H' : Hp} {xs : List Int} {v : V} (e : TS H H') (h : Dp K H v (eI xs)) : Dp K H' v (eI xs) := dp_ts e _ _ (tup_eI xs) h
/-! ### tuples compared -/
theorem eqv_eT : ∀ (a b : List Nat), PyData.eqvAll (a.map eN) (b.map eN) = decide (a = b)
  | [], [] => rfl
  | [], _ :: _ => rfl
  | _ :: _, [] => rfl
  | x :: a, y :: b => by
    show (((x : Nat) : Int) == ((y : Nat) : Int) && PyData.eqvAll (a.map eN) (b.map eN)) = _
    rw [eqv_eT a b]
    by_cases h : x = y
    · subst h
      by_cases h2 : a = b
      · subst h2
        simp
      · simp [h2]
    · have h0 : ¬ ((x : Int) = (y : Int)) := by omega
      simp [h, h0]
theorem eT_eqv (a b : List Nat) : PyData.eqv (eT a) (eT b) = decide (a = b) := eqv_eT a b
theorem sh_eT (ns : List Nat) : SeqAt.shaped (eT ns) = true := by
  have h1 : ∀ ns : List Nat, PyData.canLayAll0 (ns.map eN) = true := by
    intro ns
    induction ns with
    | nil => rfl
    | cons n r ih => show (true && PyData.canLayAll0 (r.map eN)) = true; rw [ih]; rfl
  have h2 : PyData.canLay0 (eT ns) = true := h1 ns
  unfold SeqAt.shaped
  rw [h2, decide_eq_true (by rw [depth_eT]; decide)]
  rfl
/-! ### amounts added up by places -/
def addUp (ps : List (List Nat)) (xs : List Int) (c : List Nat) : Nat → Int
  | 0 => 0
  | k + 1 => addUp ps xs c k + if ps.getD k [] = c then xs.getD k 0 else 0
theorem addUp_le {ps : List (List Nat)} {xs : List Int} {c : List Nat} {B : Nat} (h : ∀ x ∈ xs, x.natAbs ≤ B) : ∀ k, (addUp ps xs c k).natAbs ≤ B * k
  | 0 => by show (0 : Int).natAbs ≤ B * 0; simp
  | k + 1 => by
    have ih := addUp_le h (ps := ps) (c := c) k
    have hx : (xs.getD k 0).natAbs ≤ B := by
      rw [List.getD_eq_getElem?_getD]
      cases e : xs[k]? with
      | none => simp
      | some x => exact h x (List.mem_of_getElem? e)
    show (addUp ps xs c k + if ps.getD k [] = c then xs.getD k 0 else 0).natAbs ≤ B * (k + 1)
    rw [Nat.mul_succ]
    split <;> omega
theorem plain_eI {B : Nat} (hB : B < 2 ^ 30) : ∀ {xs : List Int}, (∀ x ∈ xs, x.natAbs ≤ B) → plainAll (xs.map .int) = true ∧ wtAll (xs.map .int) ≤ 34 * xs.length
  | [], _ => ⟨rfl, by decide⟩
  | x :: xs, h => by
    obtain ⟨a, b⟩ := plain_eI hB fun m hm => h m (List.mem_cons_of_mem _ hm)
    have h0 := h x List.mem_cons_self
    have hn : x.natAbs.log2 < 30 := log2_lt (by omega)
    refine ⟨?_, ?_⟩
    · show (decide (x.natAbs.log2 < 1920) && plainAll (xs.map .int)) = true
      rw [a, decide_eq_true (by omega)]
      rfl
    · show x.natAbs.log2 + 2 + 2 + wtAll (xs.map .int) ≤ _
      rw [List.length_cons]
      omega
theorem wt_eI {B : Nat} (hB : B < 2 ^ 30) {xs : List Int} (h : ∀ x ∈ xs, x.natAbs ≤ B) : plainD (eI xs) = true ∧ wt (eI xs) ≤ 34 * xs.length + 3 := by
  obtain ⟨a, b⟩ := plain_eI hB h
  exact ⟨a, by show wtAll (xs.map .int) + 3 ≤ _; omega⟩
theorem depth_eI (xs : List Int) : (eI xs).depth = 1 := by
  show PyData.depthAll (xs.map .int) + 1 = 1
  have : ∀ xs : List Int, PyData.depthAll (xs.map .int) = 0 := by
    intro xs
    induction xs with
    | nil => rfl
    | cons n r ih => show max 0 (PyData.depthAll (r.map .int)) = 0; rw [ih]; rfl
  rw [this]
theorem fitsTwoI {B : Nat} (hB : B < 2 ^ 30) {xs : List Int} (lx : xs.length ≤ 1000) (h : ∀ x ∈ xs, x.natAbs ≤ B) : Fits (.list [eI xs, eI xs]) := by
  obtain ⟨p2, q2⟩ := wt_eI hB h
  refine .of rfl ?_ ?_ ?_
  · show (plainD (eI xs) && (plainD (eI xs) && true)) = true
    rw [p2]
    rfl
  · show max (eI xs).depth (max (eI xs).depth 0) + 1 ≤ 50
    rw [depth_eI]
    decide
  · show wt (eI xs) + 2 + (wt (eI xs) + 2 + 0) + 3 ≤ 1000000
    omega
end RL
namespace RL
open PySem PySem.Spec PyProof.Rows L2
theorem tuple_mul1 (l : Addr) (items : Array Value) (n : Nat) (dd : Option Addr) (sl : Array (Option Value)) (u : Tok) :
    Meets (Builtin.«tuple.__mul__» ⟨[.ref l, .int 1 u], []⟩) (fun _ R s => s.heap.get? l = some { cls := .type "tuple", dict := dd, data := .seq items n, slots := sl } ∧ R (.ok (.ret (Value.ref l))) s) :=
  .of_wp fun prog w A R s h => by
    obtain ⟨hp, g, d, tk, os⟩ := s
    obtain ⟨hl, h⟩ := h
    have f1 := AutoSeq1.idx_int
    have c1 : (items.isEmpty || (1 : Int) == 1) = true := by cases items.isEmpty <;> rfl
    wp_walk using wpAny_loadPart' hl
    repeat (first
      | (refine wpAny_ite_false (decide_eq_false (by decide)) ?_; wp_walk using wpAny_loadPart' hl)
      | (refine wpAny_ite_true (decide_eq_true c1) ?_; wp_walk using wpAny_loadPart' hl))
    exact ⟨_, rfl, h⟩
/-- (z,) * k: at 1 it is the tuple itself -/
def rRepC (K : PySem.W.Frag) : R2 := fun x y H Q => ∃ (l : Addr) (z : V) (k : Nat), x = .ref l ∧ y = vN k ∧ SqT K H l [z] ∧ 1 ≤ k ∧ k ≤ 1000 ∧ ∀ (p : Addr) (H' : Hp), Same H H' → SqT K H' p (List.replicate k z) → Q (.ref p) H'
theorem op_repC {X : Cx} : OpR X (binaryOp .Mult) (rRepC X.K) := by
  intro pins s σ H x y v u Q I rx ry h
  obtain ⟨l, z, k, rfl, rfl, hT, h1, h2, q⟩ := h
  by_cases e : k = 1
  · subst e
    cases rx
    obtain ⟨t, rfl⟩ := ry
    obtain ⟨its, r, ⟨⟨cls, dd, data, sl⟩, ho, hc, n, hd⟩, hs⟩ := I.tuple hT
    simp only at hc hd
    subst hc hd
    refine wpAny_binaryOp_repeat_ref (T := "tuple") (U := "int") (by decide) ⟨_, ho, rfl⟩ (fun s' => typeIs_int s' _ t) noFill_tuple_mul F.fills_int_mul F.slot_int_rmul repeat_tuple F.slot_int_index.lookup
      (call_meets F.slot_int_rmul (typeIs_int s _ t) F.entry_int_rmul (F.args_int_rmul_2 _ _) (int_rmul_tuple _ t l its.toArray n dd sl)
        ⟨ho, rfl, ⟨_, ho, rfl⟩, call_meets F.slot_tuple_mul ⟨_, ho, rfl⟩ F.entry_tuple_mul (F.args_tuple_mul_2 _ _) (tuple_mul1 l its.toArray n dd sl t) ⟨ho, ?_⟩⟩)
    exact ⟨.ref l, H, I, rfl, q l H (Same.refl H) hT⟩
  · refine op_repT pins s σ H _ _ v u Q I rx ry ⟨l, (k : Int), [z], rfl, rfl, hT, by simp, by omega, by omega, by simp, fun p np => q p _ (same_new np) (SqT.of ?_)⟩
    rw [upd_same]
    have : ∀ m : Nat, (List.replicate m [z]).flatten = List.replicate m z := by
      intro m
      induction m with
      | zero => rfl
      | succ m ih => rw [List.replicate_succ, List.flatten_cons, ih]; rfl
    rw [this]
    have e2 : ((k : Nat) : Int).toNat = k := by omega
    rw [e2]
end RL
namespace RL
open PySem PySem.Spec PyProof.Rows L2
/-! ### dicts whose keys are tuples of numbers -/
def keyT (c : List Nat) : List Key := c.map fun (n : Nat) => (Sum.inl (n : Int) : Key)
theorem keyT_kV (c : List Nat) : (keyT c).map kV = c.map vN := by
  unfold keyT
  rw [List.map_map]
  rfl
theorem keyT_inj : ∀ {a b : List Nat}, keyT a = keyT b → a = b
  | [], [], _ => rfl
  | [], _ :: _, h => by cases h
  | _ :: _, [], h => by cases h
  | x :: a, y :: b, h => by
    have h1 : (Sum.inl (x : Int) : Key) :: keyT a = Sum.inl (y : Int) :: keyT b := h
    injection h1 with h2 h3
    have h4 : (x : Int) = (y : Int) := Sum.inl.inj h2
    rw [keyT_inj h3]
    have : x = y := by omega
    rw [this]
theorem getT {H : Hp} {d b : Addr} {kvs : List (List Key × V)} {c : List Nat} {v : V} (h : H d = some (.dT kvs)) (hb : H b = some (.tup (c.map vN))) (e : valV kvs (keyT c) = some v) : DGet H d (.ref b) (some v) := by
  rw [← e]
  exact DGet.t h (by rw [keyT_kV]; exact hb)
theorem putT {H : Hp} {d b : Addr} {kvs : List (List Key × V)} {c : List Nat} {v : V} (h : H d = some (.dT kvs)) (hb : H b = some (.tup (c.map vN))) (hl : kvs.length < sizeLine) : DPut H d (.ref b) v (upd H d (.dT (putK kvs (keyT c) v))) := DPut.t h (by rw [keyT_kV]; exact hb) hl
theorem TS.dct {H H' : Hp} {a : Addr} {xs ys : List (List Key × V)} (e : TS H H') (h : H a = some (.dT xs)) : TS H (upd H' a (.dT ys)) := fun b o t hb => by
  have ne : b ≠ a := ne_of hb h (fun z => by rw [z] at t; exact t)
  rw [upd_ne ne]
  exact e b o t hb
theorem But.tsD {a : Addr} {H H' : Hp} {xs : List (List Key × V)} (e : But a H H') (h : H a = some (.dT xs)) : TS H H' := fun b o t hb => e b o (ne_of hb h fun z => by rw [z] at t; exact t) hb
theorem lst_ne {H : Hp} {a b : Addr} {xs : List V} {ys : List (List Key × V)} (h1 : H a = some (.lst xs)) (h2 : H b = some (.dT ys)) : a ≠ b := fun e => by
  rw [e, h2] at h1
  cases h1
theorem But.same {d : Addr} {H H1 H2 : Hp} (b : But d H1 H2) (e : Same H H1) (n : H d = none) : Same H H2 := fun x o hx => b x o (ne_of_none hx n) (e x o hx)
theorem LL.but {H H' : Hp} {d R : Addr} {rs : List (List Nat)} {kvs : List (List Key × V)} (h : LL H R rs) (b : But d H H') (hd : H d = some (.dT kvs)) : LL H' R rs := by
  obtain ⟨ps, h1, h2, h3⟩ := h
  exact ⟨ps, b _ _ (lst_ne h1 hd) h1, h2, fun k p row hk hr => b _ _ (lst_ne (h3 k p row hk hr) hd) (h3 k p row hk hr)⟩
end RL
namespace RL
open PySem PySem.Spec PyProof.Rows L2
/-! ### the text -/
def topS (i : Nat) : Stmt := PySem.Challenge.pw_rolluplevels_k03_order_of_rollups.main.body.getD i (.Pass ⟨0, 0, 0, 0⟩)
abbrev s_is_integer : Stmt := topS 5
abbrev N_is_integer : List Str := ["thing"]
theorem sc_is_integer : FnScope N_is_integer ["thing"] (defScope s_is_integer) := ⟨rfl, rfl, rfl, by decide +kernel, rfl, by decide +kernel, by decide +kernel⟩
abbrev s_is_number_below : Stmt := topS 6
abbrev N_is_number_below : List Str := ["thing", "limit"]
theorem sc_is_number_below : FnScope N_is_number_below ["thing", "limit"] (defScope s_is_number_below) := ⟨rfl, rfl, rfl, by decide +kernel, rfl, by decide +kernel, by decide +kernel⟩
abbrev s_are_integers : Stmt := topS 7
abbrev N_are_integers : List Str := ["thing", "many", "part"]
theorem sc_are_integers : FnScope N_are_integers ["thing", "many"] (defScope s_are_integers) := ⟨rfl, rfl, rfl, by decide +kernel, rfl, by decide +kernel, by decide +kernel⟩
abbrev s_are_numbers_below : Stmt := topS 8
abbrev N_are_numbers_below : List Str := ["thing", "limits", "part", "limit"]
theorem sc_are_numbers_below : FnScope N_are_numbers_below ["thing", "limits"] (defScope s_are_numbers_below) := ⟨rfl, rfl, rfl, by decide +kernel, rfl, by decide +kernel, by decide +kernel⟩
abbrev s_is_step : Stmt := topS 14
abbrev N_is_step : List Str := ["thing", "below", "groups"]
theorem sc_is_step : FnScope N_is_step ["thing", "below"] (defScope s_is_step) := ⟨rfl, rfl, rfl, by decide +kernel, rfl, by decide +kernel, by decide +kernel⟩
abbrev s_are_steps : Stmt := topS 15
abbrev N_are_steps : List Str := ["thing", "many", "below", "step"]
theorem sc_are_steps : FnScope N_are_steps ["thing", "many"] (defScope s_are_steps) := ⟨rfl, rfl, rfl, by decide +kernel, rfl, by decide +kernel, by decide +kernel⟩
abbrev s_is_attribute : Stmt := topS 16
abbrev N_is_attribute : List Str := ["thing", "many", "steps"]
theorem sc_is_attribute : FnScope N_is_attribute ["thing"] (defScope s_is_attribute) := ⟨rfl, rfl, rfl, by decide +kernel, rfl, by decide +kernel, by decide +kernel⟩
abbrev s_multiplied : Stmt := topS 17
abbrev N_multiplied : List Str := ["counts", "product", "many"]
theorem sc_multiplied : FnScope N_multiplied ["counts"] (defScope s_multiplied) := ⟨rfl, rfl, rfl, by decide +kernel, rfl, by decide +kernel, by decide +kernel⟩
abbrev s_level_counts : Stmt := topS 18
abbrev N_level_counts : List Str := ["scheme", "many", "steps"]
theorem sc_level_counts : FnScope N_level_counts ["scheme"] (defScope s_level_counts) := ⟨rfl, rfl, rfl, by decide +kernel, rfl, by decide +kernel, by decide +kernel⟩
abbrev s_has_levels_up_to : Stmt := topS 19
abbrev N_has_levels_up_to : List Str := ["one", "other", "level", "higher"]
theorem sc_has_levels_up_to : FnScope N_has_levels_up_to ["one", "other"] (defScope s_has_levels_up_to) := ⟨rfl, rfl, rfl, by decide +kernel, rfl, by decide +kernel, by decide +kernel⟩
abbrev s_greater_levels : Stmt := topS 20
abbrev N_greater_levels : List Str := ["one", "other", "level", "further"]
theorem sc_greater_levels : FnScope N_greater_levels ["one", "other"] (defScope s_greater_levels) := ⟨rfl, rfl, rfl, by decide +kernel, rfl, by decide +kernel, by decide +kernel⟩
abbrev s_is_rollup : Stmt := topS 21
abbrev N_is_rollup : List Str := ["scheme", "thing"]
theorem sc_is_rollup : FnScope N_is_rollup ["scheme", "thing"] (defScope s_is_rollup) := ⟨rfl, rfl, rfl, by decide +kernel, rfl, by decide +kernel, by decide +kernel⟩
abbrev s_check_scheme : Stmt := topS 22
abbrev N_check_scheme : List Str := ["scheme"]
theorem sc_check_scheme : FnScope N_check_scheme ["scheme"] (defScope s_check_scheme) := ⟨rfl, rfl, rfl, by decide +kernel, rfl, by decide +kernel, by decide +kernel⟩
abbrev s_check_rollup : Stmt := topS 23
abbrev N_check_rollup : List Str := ["scheme", "rollup"]
theorem sc_check_rollup : FnScope N_check_rollup ["scheme", "rollup"] (defScope s_check_rollup) := ⟨rfl, rfl, rfl, by decide +kernel, rfl, by decide +kernel, by decide +kernel⟩
abbrev s_check_rollup_of : Stmt := topS 24
abbrev N_check_rollup_of : List Str := ["scheme", "rollup"]
theorem sc_check_rollup_of : FnScope N_check_rollup_of ["scheme", "rollup"] (defScope s_check_rollup_of) := ⟨rfl, rfl, rfl, by decide +kernel, rfl, by decide +kernel, by decide +kernel⟩
abbrev s_check_two_rollups_of : Stmt := topS 25
abbrev N_check_two_rollups_of : List Str := ["scheme", "one", "other"]
theorem sc_check_two_rollups_of : FnScope N_check_two_rollups_of ["scheme", "one", "other"] (defScope s_check_two_rollups_of) := ⟨rfl, rfl, rfl, by decide +kernel, rfl, by decide +kernel, by decide +kernel⟩
abbrev s_is_scheme : Stmt := topS 26
abbrev N_is_scheme : List Str := ["thing", "part", "many", "steps"]
theorem sc_is_scheme : FnScope N_is_scheme ["thing"] (defScope s_is_scheme) := ⟨rfl, rfl, rfl, by decide +kernel, rfl, by decide +kernel, by decide +kernel⟩
abbrev s_is_fine : Stmt := topS 27
abbrev N_is_fine : List Str := ["scheme", "one", "other"]
theorem sc_is_fine : FnScope N_is_fine ["scheme", "one", "other"] (defScope s_is_fine) := ⟨rfl, rfl, rfl, by decide +kernel, rfl, by decide +kernel, by decide +kernel⟩
abbrev s_finer : Stmt := topS 28
abbrev N_finer : List Str := ["scheme", "one", "other", "level", "further"]
theorem sc_finer : FnScope N_finer ["scheme", "one", "other"] (defScope s_finer) := ⟨rfl, rfl, rfl, by decide +kernel, rfl, by decide +kernel, by decide +kernel⟩
abbrev s_coarser : Stmt := topS 29
abbrev N_coarser : List Str := ["scheme", "one", "other"]
theorem sc_coarser : FnScope N_coarser ["scheme", "one", "other"] (defScope s_coarser) := ⟨rfl, rfl, rfl, by decide +kernel, rfl, by decide +kernel, by decide +kernel⟩
abbrev s__law_cell_at : Stmt := topS 31
abbrev N__law_cell_at : List Str := ["_law_script", "_law_k"]
theorem sc__law_cell_at : FnScope N__law_cell_at ["_law_script", "_law_k"] (defScope s__law_cell_at) := ⟨rfl, rfl, rfl, by decide +kernel, rfl, by decide +kernel, by decide +kernel⟩
abbrev s__law_pen : Stmt := topS 32
abbrev N__law_pen : List Str := ["_law_cell"]
theorem sc__law_pen : FnScope N__law_pen ["_law_cell"] (defScope s__law_pen) := ⟨rfl, rfl, rfl, by decide +kernel, rfl, by decide +kernel, by decide +kernel⟩
abbrev s__law_draw : Stmt := topS 33
abbrev N__law_draw : List Str := ["_law_pen_here", "_law_many", "_law_digit", "_law_stir"]
theorem sc__law_draw : FnScope N__law_draw ["_law_pen_here", "_law_many"] (defScope s__law_draw) := ⟨rfl, rfl, rfl, by decide +kernel, rfl, by decide +kernel, by decide +kernel⟩
abbrev s__law_pick : Stmt := topS 34
abbrev N__law_pick : List Str := ["_law_pen_here", "_law_things"]
theorem sc__law_pick : FnScope N__law_pick ["_law_pen_here", "_law_things"] (defScope s__law_pick) := ⟨rfl, rfl, rfl, by decide +kernel, rfl, by decide +kernel, by decide +kernel⟩
abbrev s__law_same : Stmt := topS 35
abbrev N__law_same : List Str := ["_law_actual", "_law_due"]
theorem sc__law_same : FnScope N__law_same ["_law_actual", "_law_due"] (defScope s__law_same) := ⟨rfl, rfl, rfl, by decide +kernel, rfl, by decide +kernel, by decide +kernel⟩
abbrev s__law_mixed : Stmt := topS 36
abbrev N__law_mixed : List Str := ["_law_pen_here", "_law_things", "_law_left", "_law_found"]
theorem sc__law_mixed : FnScope N__law_mixed ["_law_pen_here", "_law_things"] (defScope s__law_mixed) := ⟨rfl, rfl, rfl, by decide +kernel, rfl, by decide +kernel, by decide +kernel⟩
abbrev s__law_attribute : Stmt := topS 37
abbrev N__law_attribute : List Str := ["_law_pen_here", "_law_most", "_law_many", "_law_groups", "_law_steps", "_law_turn", "_law_fewer", "_law_more", "_law_place"]
theorem sc__law_attribute : FnScope N__law_attribute ["_law_pen_here", "_law_most"] (defScope s__law_attribute) := ⟨rfl, rfl, rfl, by decide +kernel, rfl, by decide +kernel, by decide +kernel⟩
abbrev s__law_scheme : Stmt := topS 38
abbrev N__law_scheme : List Str := ["_law_pen_here", "_law_mosts", "_law_most"]
theorem sc__law_scheme : FnScope N__law_scheme ["_law_pen_here"] (defScope s__law_scheme) := ⟨rfl, rfl, rfl, by decide +kernel, rfl, by decide +kernel, by decide +kernel⟩
abbrev s__law_rollup : Stmt := topS 39
abbrev N__law_rollup : List Str := ["_law_pen_here", "_law_scheme_here", "_law_attribute_here"]
theorem sc__law_rollup : FnScope N__law_rollup ["_law_pen_here", "_law_scheme_here"] (defScope s__law_rollup) := ⟨rfl, rfl, rfl, by decide +kernel, rfl, by decide +kernel, by decide +kernel⟩
abbrev s__law_is_fine : Stmt := topS 40
abbrev N__law_is_fine : List Str := ["_law_one", "_law_other", "_law_level", "_law_its"]
theorem sc__law_is_fine : FnScope N__law_is_fine ["_law_one", "_law_other"] (defScope s__law_is_fine) := ⟨rfl, rfl, rfl, by decide +kernel, rfl, by decide +kernel, by decide +kernel⟩
abbrev s_law : Stmt := topS 41
abbrev N_law : List Str := ["_law_script", "_law_k", "_law_pen_here", "_law_lap", "_law_scheme_here", "_law_turn", "_law_one", "_law_other", "_law_low", "_law_high", "_law_due", "_law_again", "_law_told", "_law_level", "_law_its"]
theorem sc_law : FnScope N_law ["_law_script"] (defScope s_law) := ⟨rfl, rfl, rfl, by decide +kernel, rfl, by decide +kernel, by decide +kernel⟩
section
variable {P : Program} {w : World} {K : PySem.W.Frag} {mg : Str → Option Value} {base : Heap}
/-! ### is_integer -/
def sp_is_integer : Sp := fun vs H Q _ => ∃ i, vs = [.int i] ∧ ret H (.bl true) Q
theorem ok_is_integer (D : Df K mg "is_integer" s_is_integer) (Z : Zs mg) : C8.Cal P w K mg base 1 "is_integer" sp_is_integer [] := by
  refine D.cal sc_is_integer (fun _ _ _ _ _ _ us hl => match us, hl with | [_], _ => rfl) (fun vs H Q E ⟨i, e, _⟩ => by rw [e]; rfl) (fun f cdv A outer s H vs Q E hr h => ?_)
  obtain ⟨i, rfl, q⟩ := h
  refine ⟨_, (pss_one (ps_ret (pe_and (pe_callB call_isi (by rfl) Z.z_isinstance (by decide +kernel) (pa_cons (pv 0) (pa_cons (pe_bltn (v := .ty "int") (by rfl) Z.z_int (by decide +kernel) rfl) pa_nil))) (pe_one (pe_not (pe_callB call_isi (by rfl) Z.z_isinstance (by decide +kernel) (pa_cons (pv 0) (pa_cons (pe_bltn (v := .ty "bool") (by rfl) Z.z_bool (by decide +kernel) rfl) pa_nil)))))))), ?_⟩
  refine ⟨.int i, rfl, _, _, _, _, true, rfl, .ty "int", .base (.int i), kit_ty (by decide +kernel), true, rfl, iteT ?_⟩
  exact ⟨.int i, rfl, _, _, _, _, false, rfl, .ty "bool", .base (.int i), kit_ty (by decide +kernel), false, rfl, q H (Same.refl H)⟩
/-! ### is_number_below -/
def sp_is_number_below : Sp := fun vs H Q _ => ∃ i n, vs = [.int i, .int n] ∧ 0 ≤ i ∧ i < n ∧ ret H (.bl true) Q
theorem ok_is_number_below (D : Df K mg "is_number_below" s_is_number_below) (C_is_integer : C8.Cal P w K mg base 1 "is_integer" sp_is_integer []) : C8.Cal P w K mg base 2 "is_number_below" sp_is_number_below [] := by
  refine D.cal sc_is_number_below (fun _ _ _ _ _ _ us hl => match us, hl with | [_, _], _ => rfl) (fun vs H Q E ⟨i, n, e, _⟩ => by rw [e]; rfl) (fun f cdv A outer s H vs Q E hr h => ?_)
  obtain ⟨i, n, rfl, h0, h1, q⟩ := h
  refine ⟨_, (pss_one (ps_ret (pe_and (C8.pe_c C_is_integer hr (by decide) (by rfl) (pa_cons (pv 0) pa_nil)) (pe_one (pe_chain op_le op_lt pe_int (pv 0) (pv 1)))))), ?_⟩
  refine ⟨.int i, rfl, i, rfl, fun H1 e1 => ⟨true, rfl, iteT ?_⟩⟩
  exact ⟨.int i, rfl, _, _, rfl, rfl, true, bT h0, iteT ⟨.int n, rfl, i, n, rfl, rfl, qT h1 (q H1 e1)⟩⟩
/-! ### are_integers -/
def sp_are_integers (K : PySem.W.Frag) : Sp := fun vs H Q _ => ∃ (a : Addr) (ns : List Int), vs = [.ref a, .int (ns.length : Nat)] ∧ SqT K H a (ns.map V.int) ∧ ns.length ≤ 1000 ∧ ret H (.bl true) Q
theorem ok_are_integers (D : Df K mg "are_integers" s_are_integers) (Z : Zs mg) (C_is_integer : C8.Cal P w K mg base 1 "is_integer" sp_is_integer []) : C8.Cal P w K mg base 2 "are_integers" (sp_are_integers K) [] := by
  refine D.cal sc_are_integers (fun _ _ _ _ _ _ us hl => match us, hl with | [_, _], _ => rfl) (fun vs H Q E ⟨a, ns, e, _⟩ => by rw [e]; rfl) (fun f cdv A outer s H vs Q E hr h => ?_)
  obtain ⟨a, ns, rfl, hS, hl, q⟩ := h
  refine ⟨_, (pss_one (ps_ret (pe_and (pe_callB call_isi (by rfl) Z.z_isinstance (by decide +kernel) (pa_cons (pv 0) (pa_cons (pe_bltn (v := .ty "tuple") (by rfl) Z.z_tuple (by decide +kernel) rfl) pa_nil))) (pe_and (pe_cmpR op_eq (pe_callB call_len_seq (by rfl) Z.z_len PySem.boot_len (pa_cons (pv 0) pa_nil)) (pv 1) (nomark _)) (pe_one (pe_callB (cr_all rfl) (by rfl) Z.z_all (by decide +kernel) (pa_cons (pe_lc (own := [("part", 2)]) rfl sc_are_integers.nd (pi_tup (pv 0)) (blkOk_by (own := [("part", 2)]) (N := N_are_integers) (sc := defScope s_are_integers) (by decide +kernel)) (fun _ _ _ _ _ => (pg_name (i := 2) sc_are_integers.nd rfl (.inl rfl))) (fun _ _ _ _ _ => pts_nil) (fun _ _ _ _ _ => (C8.pe_c C_is_integer hr (by decide) (by rfl) (pa_cons (pv 2) pa_nil)))) pa_nil))))))), ?_⟩
  obtain ⟨t, ty, kt⟩ := isi_tup hS
  refine ⟨.ref a, rfl, _, _, _, _, true, rfl, .ty "tuple", ty, kt, true, rfl, iteT ?_⟩
  refine ⟨.ref a, rfl, a, ns.map V.int, rfl, .inr hS, .int ns.length, rfl, rfl, true, bT (by rw [List.length_map]), iteT ?_⟩
  refine ⟨.ref a, rfl, a, rfl, ⟨_, hS⟩, fun D hD => ?_⟩
  refine lc_pure (walk_tup (xs := ns.map V.int)) (by rw [List.length_map]; omega) (fun _ => .bl true) hD (fun H' e => Same.sqT e hS) (fun i x H' H2 K2 hi e k y => ?_) (fun H' e eD => ?_)
  · obtain ⟨rfl, hx⟩ := y
    rw [List.getElem?_map] at hx
    obtain ⟨n, _, rfl⟩ := Option.map_eq_some_iff.mp hx
    exact ⟨rfl, .int n, rfl, n, rfl, fun H3 e3 => k _ H3 rfl e3⟩
  · refine ⟨D, List.replicate ns.length true, rfl, SqL.of ?_, ?_⟩
    · rw [eD, List.length_map, List.map_const', List.length_range, List.map_replicate]
    · have e1 : (List.replicate ns.length true).all id = true := by simp
      rw [e1]
      exact q H' e
end
end RL
namespace RL
open PySem PySem.Spec PyProof.Rows L2
section
variable {P : Program} {w : World} {K : PySem.W.Frag} {mg : Str → Option Value} {base : Heap}
/-! ### are_numbers_below -/
def sp_are_numbers_below (K : PySem.W.Frag) : Sp := fun vs H Q _ => ∃ (a b : Addr) (ns ms : List Nat), vs = [.ref a, .ref b] ∧ SqT K H a (ns.map vN) ∧ SqL K H b (ms.map vN) ∧ ns.length = ms.length ∧ ns.length ≤ 1000 ∧
  (∀ (i n m : Nat), ns[i]? = some n → ms[i]? = some m → n < m) ∧ ret H (.bl true) Q
theorem ok_are_numbers_below (D : Df K mg "are_numbers_below" s_are_numbers_below) (Z : Zs mg) (C_is_number_below : C8.Cal P w K mg base 2 "is_number_below" sp_is_number_below []) : C8.Cal P w K mg base 3 "are_numbers_below" (sp_are_numbers_below K) [] := by
  refine D.cal sc_are_numbers_below (fun _ _ _ _ _ _ us hl => match us, hl with | [_, _], _ => rfl) (fun vs H Q E ⟨a, b, ns, ms, e, _⟩ => by rw [e]; rfl) (fun f cdv A outer s H vs Q E hr h => ?_)
  obtain ⟨a, b, ns, ms, rfl, hS, hL, hl, hz, hlt, q⟩ := h
  refine ⟨_, (pss_cons (ps_if (PW.pt (pw_or (pt_not (pt_val (pe_callB call_isi (by rfl) Z.z_isinstance (by decide +kernel) (pa_cons (pv 0) (pa_cons (pe_bltn (v := .ty "tuple") (by rfl) Z.z_tuple (by decide +kernel) rfl) pa_nil))))) (pw_or1 (pt_cmpR op_ne (pe_callB call_len_seq (by rfl) Z.z_len PySem.boot_len (pa_cons (pv 0) pa_nil)) (pe_callB call_len_seq (by rfl) Z.z_len PySem.boot_len (pa_cons (pv 1) pa_nil)) (nomark _))))) (pss_one (ps_ret pe_bl)) pss_nil)
      (pss_one (ps_ret (pe_callB (cr_all rfl) (by rfl) Z.z_all (by decide +kernel) (pa_cons (pe_lc (own := [("part", 2), ("limit", 3)]) (g := (gTup K 2 (gCons (gName 2) (gCons (gName 3) gNil)))) rfl sc_are_numbers_below.nd (pi_zipM (by rfl) Z.z_zip (pa_cons (pv 0) (pa_cons (pv 1) pa_nil))) (blkOk_by (own := [("part", 2), ("limit", 3)]) (N := N_are_numbers_below) (sc := defScope s_are_numbers_below) (by decide +kernel)) (fun _ _ _ _ _ => (pg_tup rfl (pgs_cons (pg_name (i := 2) sc_are_numbers_below.nd rfl (.inl rfl)) (pgs_cons (pg_name (i := 3) sc_are_numbers_below.nd rfl (.inl rfl)) pgs_nil)))) (fun _ _ _ _ _ => pts_nil) (fun _ _ _ _ _ => (C8.pe_c C_is_number_below hr (by decide) (by rfl) (pa_cons (pv 2) (pa_cons (pv 3) pa_nil))))) pa_nil))))), ?_⟩
  obtain ⟨t, ty, kt⟩ := isi_tup hS
  refine ⟨.ref a, rfl, _, _, _, _, true, rfl, .ty "tuple", ty, kt, true, rfl, iteF ?_⟩
  refine ⟨.ref a, rfl, a, ns.map vN, rfl, .inr hS, .ref b, rfl, b, ms.map vN, rfl, .inl hL, rfl, false, ?_, iteF ?_⟩
  · rw [List.length_map, List.length_map, hl, decide_eq_true rfl]; rfl
  refine ⟨.ref a, rfl, .ref b, rfl, a, b, _, _, rfl, hS, hL, fun D hD => ?_⟩
  refine lc_pure (walk_zipM (xs := ns.map vN) (ys := ms.map vN) (by rw [List.length_map, List.length_map, hl])) (by rw [List.length_map]; omega) (fun _ => .bl true) hD (fun H' e => ⟨Same.sqT e hS, e.seq hL⟩) (fun i x H' H2 K2 hi e k y => ?_) (fun H' e eD => ?_)
  · obtain ⟨T, x1, x2, rfl, nT, rfl, hx, hy⟩ := y
    obtain ⟨n, hn, rfl⟩ := get_map hx
    obtain ⟨m, hm, rfl⟩ := get_map hy
    refine ⟨T, _, rfl, SqT.of upd_same, rfl, _, _, rfl, _, _, rfl, rfl, rfl, ?_⟩
    have := hlt i n m hn hm
    exact ⟨_, rfl, _, rfl, (n : Int), (m : Int), rfl, by omega, by omega, fun H3 e3 => k _ H3 rfl ((same_new nT).trans e3)⟩
  · refine ⟨D, List.replicate ns.length true, rfl, SqL.of ?_, ?_⟩
    · rw [eD, List.length_map, List.map_const', List.length_range, List.map_replicate]
    · have e1 : (List.replicate ns.length true).all id = true := by simp
      rw [e1]
      exact q H' e
/-! ### is_step -/
def sp_is_step (K : PySem.W.Frag) : Sp := fun vs H Q _ => ∃ (a : Addr) (st : List Nat) (b : Nat), vs = [.ref a, vN b] ∧ SqT K H a (st.map vN) ∧ st.length < 60 ∧ StepOk b st ∧ ret H (.bl true) Q
theorem map_vN (st : List Nat) : st.map vN = (st.map fun (n : Nat) => (n : Int)).map V.int := by rw [List.map_map]; rfl
theorem ok_is_step (D : Df K mg "is_step" s_is_step) (Z : Zs mg) (C_are_integers : C8.Cal P w K mg base 2 "are_integers" (sp_are_integers K) []) : C8.Cal P w K mg base 3 "is_step" (sp_is_step K) [] := by
  refine D.cal sc_is_step (fun _ _ _ _ _ _ us hl => match us, hl with | [_, _], _ => rfl) (fun vs H Q E ⟨a, st, b, e, _⟩ => by rw [e]; rfl) (fun f cdv A outer s H vs Q E hr h => ?_)
  obtain ⟨a, st, b, rfl, hS, h60, ⟨hb, m, hm0, hmb, hmem⟩, q⟩ := h
  rw [map_vN] at hS
  refine ⟨_, (pss_cons (ps_if (pt_not (pt_val (C8.pe_c C_are_integers hr (by decide) (by rfl) (pa_cons (pv 0) (pa_cons (pv 1) pa_nil))))) (pss_one (ps_ret pe_bl)) pss_nil)
      (pss_cons (ps_set (i := 2) sc_is_step.nd rfl (.inl rfl) (pe_callB (cr_sortedSet rfl) (by rfl) Z.z_sorted (by decide +kernel) (pa_cons (pe_callTy (cr_setT rfl) (by rfl) Z.z_set (by decide +kernel) (pa_cons (pv 0) pa_nil)) pa_nil)))
      (pss_one (ps_ret (pe_and (pe_cmpR (op_eqD hr.units) (pv 2) (pe_listRg rfl (by rfl) Z.z_list (prg_1 (by rfl) Z.z_range (pe_callB call_len_seq (by rfl) Z.z_len PySem.boot_len (pa_cons (pv 2) pa_nil)))) (nomark _)) (pe_one (pe_cmpR op_lt (pe_callB call_len_seq (by rfl) Z.z_len PySem.boot_len (pa_cons (pv 2) pa_nil)) (pv 1) (nomark _)))))))), ?_⟩
  -- if not are_integers(thing, below)
  refine ⟨.ref a, rfl, vN b, rfl, a, st.map fun (n : Nat) => (n : Int), ?_, hS, by rw [List.length_map]; omega, fun H1 e1 => ⟨true, rfl, iteF ?_⟩⟩
  · rw [List.length_map, hb]; rfl
  -- groups = sorted(set(thing))
  refine ⟨.ref a, rfl, a, _, rfl, Same.sqT e1 hS, by rw [List.length_map]; omega, fun p c hp hc => ?_⟩
  rw [List.length_map] at hc
  refine ⟨p, _, c, rfl, upd_same, by omega, fun ms p2 hpw hmm hlen hp2 => ?_⟩
  have e2 : Same H1 (upd (upd H1 p (SetO w p (fun j => decide (j ∈ st.map fun (n : Nat) => (n : Int))) c)) p2 (.lst (ms.map V.int))) := (same_new hp).trans (same_new hp2)
  have em : ms = (List.range m).map fun (i : Nat) => (i : Int) := sorted_ext _ _ hpw (range_sorted m) fun k => by
    rw [hmm, decide_eq_true_eq]
    constructor
    · intro hk
      obtain ⟨g, hg, rfl⟩ := List.mem_map.mp hk
      exact List.mem_map.mpr ⟨g, List.mem_range.mpr ((hmem g).mp hg), rfl⟩
    · intro hk
      obtain ⟨g, hg, rfl⟩ := List.mem_map.mp hk
      exact List.mem_map.mpr ⟨g, (hmem g).mpr (List.mem_range.mp hg), rfl⟩
  have lm : ms.length = m := by rw [em, List.length_map, List.length_range]
  -- groups == list(range(len(groups)))
  refine ⟨.ref p2, rfl, .ref p2, rfl, p2, ms.map V.int, rfl, .inl (SqL.of upd_same), _, rfl, ?_, fun p3 hp3 => ?_⟩
  · rw [List.length_map]; exact RgOk.of_le (by omega) (by omega) (by omega) (by omega)
  have np : p2 ≠ p3 := ne_of_none upd_same hp3
  have er : rgV 0 ((ms.map V.int).length : Nat) = ms.map V.int := by
    unfold rgV
    rw [List.length_map, lm, em, List.map_map]
    have e0 : ((m : Int) - 0).toNat = m := by omega
    rw [e0]
    refine List.map_congr_left fun i _ => ?_
    show V.int (0 + (i : Int)) = V.int (i : Int)
    rw [Int.zero_add]
  obtain ⟨sh, eqv⟩ := listD_ok ms
  refine ⟨.list (ms.map PyData.int), .list (ms.map PyData.int), .lst (SqL.of (by rw [upd_ne np]; exact upd_same)) (dpI_mk ms), .lst (SqL.of upd_same) (by rw [er]; exact dpI_mk ms), sh, sh, true, by rw [eqv], iteT ?_⟩
  -- len(groups) < below
  refine ⟨.ref p2, rfl, p2, ms.map V.int, rfl, .inl (SqL.of (by rw [upd_ne np]; exact upd_same)), vN b, rfl, _, _, rfl, rfl, qT ?_ (q _ (e1.trans (e2.trans (same_new hp3))))⟩
  rw [List.length_map, lm]
  omega
end
end RL
namespace RL
open PySem PySem.Spec PyProof.Rows L2
section
variable {P : Program} {w : World} {K : PySem.W.Frag} {mg : Str → Option Value} {base : Heap}
/-! ### are_steps -/
def sp_are_steps (K : PySem.W.Frag) : Sp := fun vs H Q _ => ∃ (v : V) (ss : List (List Nat)) (b : Nat), vs = [v, vN b] ∧ Dp K H v (eSt ss) ∧ ss.length ≤ 3 ∧ b ≤ 50 ∧ StepsOk b ss ∧ ret H (.bl true) Q
theorem ok_are_steps (D : Df K mg "are_steps" s_are_steps) (Z : Zs mg) {t3 : Tok} (m_MOST_STEPS : mg "MOST_STEPS" = some (.int 3 t3)) (C_is_step : C8.Cal P w K mg base 3 "is_step" (sp_is_step K) []) : C8.Cal P w K mg base 4 "are_steps" (sp_are_steps K) [] := by
  refine D.cal sc_are_steps (fun _ _ _ _ _ _ us hl => match us, hl with | [_, _], _ => rfl) (fun vs H Q E ⟨a, ss, b, e, _⟩ => by rw [e]; rfl) (fun f cdv A outer s H vs Q E hr h => ?_)
  obtain ⟨v, ss, b, rfl, hD, h3, hb, hok, q⟩ := h
  obtain ⟨a, xs, rfl, hS, hA⟩ := dpSt hD
  have hlen : xs.length = ss.length := by rw [(DpAll.length hA), List.length_map]
  refine ⟨_, (pss_cons (ps_if (PW.pt (pw_or (pt_not (pt_val (pe_callB call_isi (by rfl) Z.z_isinstance (by decide +kernel) (pa_cons (pv 0) (pa_cons (pe_bltn (v := .ty "tuple") (by rfl) Z.z_tuple (by decide +kernel) rfl) pa_nil))))) (pw_or1 (pt_cmpR op_gt (pe_callB call_len_seq (by rfl) Z.z_len PySem.boot_len (pa_cons (pv 0) pa_nil)) (pe_glob (v := .int 3) (by rfl) m_MOST_STEPS ⟨_, rfl⟩) (nomark _))))) (pss_one (ps_ret pe_bl)) pss_nil)
      (pss_cons (ps_set (i := 2) sc_are_steps.nd rfl (.inl rfl) (pv 1))
      (pss_cons (ps_for PassesOwn.never rfl (pi_tup (pv 0)) (pg_name (i := 3) sc_are_steps.nd rfl (.inl rfl)) (pss_cons (ps_if (pt_not (pt_val (C8.pe_c C_is_step hr (by decide) (by rfl) (pa_cons (pv 3) (pa_cons (pv 2) pa_nil))))) (pss_one (ps_ret pe_bl)) pss_nil)
      (pss_one (ps_set (i := 2) sc_are_steps.nd rfl (.inl rfl) (pe_op op_add (pe_callB (cr_maxD rfl hr.units) (by rfl) Z.z_max (by decide +kernel) (pa_cons (pv 3) pa_nil)) pe_int)))))
      (pss_one (ps_ret pe_bl))))), ?_⟩
  obtain ⟨t, ty, kt⟩ := isi_tup hS
  refine ⟨.ref a, rfl, _, _, _, _, true, rfl, .ty "tuple", ty, kt, true, rfl, iteF ?_⟩
  refine ⟨.ref a, rfl, a, xs, rfl, .inr hS, _, _, rfl, rfl, false, bF (by omega), iteF ?_⟩
  refine ⟨vN b, rfl, .ref a, rfl, a, rfl, ⟨_, hS⟩, ?_⟩
  refine for_it (walk_tup (xs := xs)) (fun i σ H' => ∃ b' y3, σ = [some (.ref a), some (vN b), some (vN b'), y3] ∧ Same H H' ∧ b' ≤ 50 ∧ StepsOk b' (ss.drop i)) ⟨b, none, rfl, Same.refl H, hb, by simpa using hok⟩
    (fun i σ H' _ ⟨_, _, _, e, _⟩ => Same.sqT e hS) (fun i x σ H' H2 hi hp y => ?_) (fun σ H' ⟨b', y3, e1, e2, _⟩ => q H' e2)
  obtain ⟨b', y3, rfl, e, hb', hst⟩ := hp
  obtain ⟨rfl, hx⟩ := y
  obtain ⟨d, hd, dx⟩ := DpAll.get (dpAll_ts (Same.ts e) _ _ (tup_eSt ss) hA) hx
  obtain ⟨st, hs, rfl⟩ := get_map hd
  obtain ⟨p, rfl, hp⟩ := dpT dx
  have hi' : i < ss.length := by omega
  have edrop : ss.drop i = st :: ss.drop (i + 1) := by
    rw [List.drop_eq_getElem_cons hi']
    have : ss[i] = st := Option.some.inj ((List.getElem?_eq_getElem hi').symm.trans hs)
    rw [this]
  rw [edrop] at hst
  obtain ⟨h1, h2⟩ := hst
  have hl : st.length = b' := h1.1
  refine ⟨.ref p, rfl, vN b', rfl, p, st, b', rfl, hp, by omega, h1, fun H3 e3 => ⟨true, rfl, iteF ?_⟩⟩
  obtain ⟨_, m, m0, mb, hm⟩ := h1
  cases st with
  | nil => exact absurd ((hm 0).mpr m0) (by simp)
  | cons g gs =>
    have et : top1 (g :: gs) = m := top1_of m0 hm
    have e0 : ((gs.map fun (n : Nat) => (n : Int)).foldl max (g : Int)) + 1 = ((top1 (g :: gs) : Nat) : Int) := by
      rw [foldl_max_int]
      unfold top1
      rw [List.foldl_cons, Nat.zero_max]
      omega
    refine ⟨.ref p, rfl, p, (g : Int), gs.map fun (n : Nat) => (n : Int), rfl, .inl ?_, _, _, rfl, rfl, top1 (g :: gs), some (.ref p), ?_, e.trans e3, by omega, h2⟩
    · have := Same.sqT e3 hp
      rw [map_vN] at this
      exact this
    · exact congrArg (fun z : Int => [some (V.ref a), some (vN b), some (V.int z), some (V.ref p)]) e0
/-! ### is_attribute -/
def sp_is_attribute (K : PySem.W.Frag) : Sp := fun vs H Q _ => ∃ (v : V) (a : Att), vs = [v] ∧ Dp K H v (eA a) ∧ AttOk a ∧ ret H (.bl true) Q
theorem ok_is_attribute (D : Df K mg "is_attribute" s_is_attribute) (Z : Zs mg) {t6 : Tok} (m_MOST_VALUES : mg "MOST_VALUES" = some (.int 6 t6)) (C_is_integer : C8.Cal P w K mg base 1 "is_integer" sp_is_integer [])
    (C_are_steps : C8.Cal P w K mg base 4 "are_steps" (sp_are_steps K) []) : C8.Cal P w K mg base 5 "is_attribute" (sp_is_attribute K) [] := by
  refine D.cal sc_is_attribute (fun _ _ _ _ _ _ us hl => match us, hl with | [_], _ => rfl) (fun vs H Q E ⟨v, a, e, _⟩ => by rw [e]; rfl) (fun f cdv A outer s H vs Q E hr h => ?_)
  obtain ⟨v, a, rfl, hD, ⟨h1, h6, h3, hst⟩, q⟩ := h
  obtain ⟨p, x, rfl, hS, dx⟩ := dpA hD
  refine ⟨_, (pss_cons (ps_if (PW.pt (pw_or (pt_not (pt_val (pe_callB call_isi (by rfl) Z.z_isinstance (by decide +kernel) (pa_cons (pv 0) (pa_cons (pe_bltn (v := .ty "tuple") (by rfl) Z.z_tuple (by decide +kernel) rfl) pa_nil))))) (pw_or1 (pt_cmpR op_ne (pe_callB call_len_seq (by rfl) Z.z_len PySem.boot_len (pa_cons (pv 0) pa_nil)) pe_int (nomark _))))) (pss_one (ps_ret pe_bl)) pss_nil)
      (pss_cons (ps_asg (pv 0) (pg_tup rfl (pgs_cons (pg_name (i := 1) sc_is_attribute.nd rfl (.inl rfl)) (pgs_cons (pg_name (i := 2) sc_is_attribute.nd rfl (.inl rfl)) pgs_nil))))
      (pss_one (ps_ret (pe_and (C8.pe_c C_is_integer hr (by decide) (by rfl) (pa_cons (pv 1) pa_nil)) (pe_and (pe_chain op_le op_le pe_int (pv 1) (pe_glob (v := .int 6) (by rfl) m_MOST_VALUES ⟨_, rfl⟩)) (pe_one (C8.pe_c C_are_steps hr (by decide) (by rfl) (pa_cons (pv 2) (pa_cons (pv 1) pa_nil)))))))))), ?_⟩
  obtain ⟨t, ty, kt⟩ := isi_tup hS
  refine ⟨.ref p, rfl, _, _, _, _, true, rfl, .ty "tuple", ty, kt, true, rfl, iteF ?_⟩
  refine ⟨.ref p, rfl, p, _, rfl, .inr hS, rfl, false, rfl, iteF ?_⟩
  refine ⟨.ref p, rfl, p, _, rfl, hS, rfl, _, _, rfl, _, _, rfl, rfl, ?_⟩
  refine ⟨vN a.1, rfl, _, rfl, fun H1 e1 => ⟨true, rfl, iteT ?_⟩⟩
  have c1 : (1 : Int) ≤ (a.1 : Int) := by omega
  have c2 : (a.1 : Int) ≤ 6 := by omega
  refine ⟨vN a.1, rfl, _, _, rfl, rfl, true, bT c1, iteT ⟨_, _, rfl, rfl, true, bT c2, iteT ?_⟩⟩
  exact ⟨x, rfl, vN a.1, rfl, x, a.2, a.1, rfl, dpSt_ts (Same.ts e1) dx, h3, by omega, hst, q.mono e1⟩
/-! ### multiplied -/
def sp_multiplied (K : PySem.W.Frag) : Sp := fun vs H Q _ => ∃ (b : Addr) (ns : List Nat), vs = [.ref b] ∧ SqL K H b (ns.map vN) ∧ (∀ n ∈ ns, n < 1000) ∧ ret H (vN (prodN ns)) Q
theorem prodN_snoc (ns : List Nat) (n : Nat) : prodN (ns ++ [n]) = prodN ns * n := by unfold prodN; rw [List.foldl_append]; rfl
theorem ok_multiplied (D : Df K mg "multiplied" s_multiplied) : C8.Cal P w K mg base 1 "multiplied" (sp_multiplied K) [] := by
  refine D.cal sc_multiplied (fun _ _ _ _ _ _ us hl => match us, hl with | [_], _ => rfl) (fun vs H Q E ⟨b, ns, e, _⟩ => by rw [e]; rfl) (fun f cdv A outer s H vs Q E hr h => ?_)
  obtain ⟨b, ns, rfl, hL, hn, q⟩ := h
  refine ⟨_, (pss_cons (ps_set (i := 1) sc_multiplied.nd rfl (.inl rfl) pe_int)
      (pss_cons (ps_for PassesOwn.never rfl (pi_list (pv 0)) (pg_name (i := 2) sc_multiplied.nd rfl (.inl rfl)) (pss_one (ps_set (i := 1) sc_multiplied.nd rfl (.inl rfl) (pe_op op_mul (pv 1) (pv 2)))))
      (pss_one (ps_ret (pv 1))))), ?_⟩
  refine ⟨.ref b, rfl, b, rfl, ⟨_, hL⟩, ?_⟩
  refine for_it (walk_list (xs := ns.map vN)) (fun i σ H' => ∃ y2, σ = [some (.ref b), some (vN (prodN (ns.take i))), y2] ∧ H' = H) ⟨none, rfl, rfl⟩
    (fun i σ H' _ ⟨_, _, e⟩ => by rw [e]; exact hL) (fun i x σ H' H2 hi hp y => ?_) (fun σ H' ⟨y2, e1, e2⟩ => ?_)
  · obtain ⟨y2, rfl, rfl⟩ := hp
    obtain ⟨rfl, hx⟩ := y
    obtain ⟨n, hn', rfl⟩ := get_map hx
    have := hn n (List.mem_of_getElem? hn')
    refine ⟨_, rfl, vN n, rfl, _, _, rfl, rfl, .inr ⟨by omega, by omega⟩, some (vN n), ?_, rfl⟩
    refine congrArg (fun z : Int => [some (V.ref b), some (V.int z), some (vN n)]) (a₂ := ((prodN (ns.take (i + 1)) : Nat) : Int)) ?_
    rw [List.take_add_one, hn', Option.toList_some, prodN_snoc, Int.natCast_mul]
  · rw [e1, e2, List.length_map, List.take_length]
    exact ⟨_, rfl, q H (Same.refl H)⟩
/-! ### level_counts -/
def lvls (S : List Att) : List Nat := S.map fun a => a.2.length + 1
def sp_level_counts (K : PySem.W.Frag) : Sp := fun vs H Q _ => ∃ (v : V) (S : List Att), vs = [v] ∧ Dp K H v (eS S) ∧ S.length ≤ 100 ∧ retL H ((lvls S).map vN) Q
theorem ok_level_counts (D : Df K mg "level_counts" s_level_counts) (Z : Zs mg) : C8.Cal P w K mg base 1 "level_counts" (sp_level_counts K) [] := by
  refine D.cal sc_level_counts (fun _ _ _ _ _ _ us hl => match us, hl with | [_], _ => rfl) (fun vs H Q E ⟨v, S, e, _⟩ => by rw [e]; rfl) (fun f cdv A outer s H vs Q E hr h => ?_)
  obtain ⟨v, S, rfl, hD, h100, q⟩ := h
  obtain ⟨a, xs, rfl, hS, hA⟩ := dpS hD
  have hlen : xs.length = S.length := by rw [(DpAll.length hA), List.length_map]
  refine ⟨_, (pss_one (ps_ret (pe_lc (own := [("many", 1), ("steps", 2)]) (g := (gTup K 2 (gCons (gName 1) (gCons (gName 2) gNil)))) rfl sc_level_counts.nd (pi_tup (pv 0)) (blkOk_by (own := [("many", 1), ("steps", 2)]) (N := N_level_counts) (sc := defScope s_level_counts) (by decide +kernel)) (fun _ _ _ _ _ => (pg_tup rfl (pgs_cons (pg_name (i := 1) sc_level_counts.nd rfl (.inl rfl)) (pgs_cons (pg_name (i := 2) sc_level_counts.nd rfl (.inl rfl)) pgs_nil)))) (fun _ _ _ _ _ => pts_nil) (fun _ _ _ _ _ => (pe_op op_add (pe_callB (call_lenK (K := K) rfl) (by rfl) Z.z_len PySem.boot_len (pa_cons (pv 2) pa_nil)) pe_int))))), ?_⟩
  refine ⟨.ref a, rfl, a, rfl, ⟨_, hS⟩, fun D hD => ?_⟩
  refine lc_pure (walk_tup (xs := xs)) (by omega) (fun i => ((lvls S).map vN).getD i .non) hD (fun H' e => Same.sqT e hS) (fun i x H' H2 K2 hi e k y => ?_) (fun H' e eD => q H' D e hD ?_)
  · obtain ⟨rfl, hx⟩ := y
    obtain ⟨d, hd, dx⟩ := DpAll.get (dpAll_ts (Same.ts e) _ _ (tup_eS S) hA) hx
    obtain ⟨at1, hat, rfl⟩ := get_map hd
    obtain ⟨p, z, rfl, hp, dz⟩ := dpA dx
    obtain ⟨b, ys, rfl, hb, hB⟩ := dpSt dz
    refine ⟨p, _, rfl, hp, rfl, _, _, rfl, _, _, rfl, rfl, rfl, ?_⟩
    refine ⟨.ref b, rfl, b, ys, rfl, .inr hb, _, _, rfl, rfl, k _ _ ?_ (Same.refl _)⟩
    have e1 : ((lvls S).map vN)[i]? = some (vN (at1.2.length + 1)) := by unfold lvls; rw [List.map_map, List.getElem?_map, hat]; rfl
    rw [getD_of e1, (DpAll.length hB), List.length_map]
    rfl
  · rw [eD, hlen]
    have := range_getD ((lvls S).map vN) V.non
    rw [List.length_map] at this
    unfold lvls at this ⊢
    rw [List.length_map] at this
    rw [this]
/-! ### has_levels_up_to -/
def leAll (r t : List Nat) : Bool := (List.range r.length).all fun i => decide (r.getD i 0 ≤ t.getD i 0)
def sp_has_levels_up_to (K : PySem.W.Frag) : Sp := fun vs H Q _ => ∃ (a b : Addr) (r t : List Nat), vs = [.ref a, .ref b] ∧ SqT K H a (r.map vN) ∧ SqT K H b (t.map vN) ∧ r.length = t.length ∧ r.length ≤ 100 ∧ ret H (.bl (leAll r t)) Q
theorem ok_has_levels_up_to (D : Df K mg "has_levels_up_to" s_has_levels_up_to) (Z : Zs mg) : C8.Cal P w K mg base 1 "has_levels_up_to" (sp_has_levels_up_to K) [] := by
  refine D.cal sc_has_levels_up_to (fun _ _ _ _ _ _ us hl => match us, hl with | [_, _], _ => rfl) (fun vs H Q E ⟨a, b, r, t, e, _⟩ => by rw [e]; rfl) (fun f cdv A outer s H vs Q E hr h => ?_)
  obtain ⟨a, b, r, t, rfl, hR, hT, hl, hz, q⟩ := h
  refine ⟨_, (pss_one (ps_ret (pe_callB (cr_all rfl) (by rfl) Z.z_all (by decide +kernel) (pa_cons (pe_lc (own := [("level", 2), ("higher", 3)]) (g := (gTup K 2 (gCons (gName 2) (gCons (gName 3) gNil)))) rfl sc_has_levels_up_to.nd (RZ.pi_zipA (by rfl) Z.z_zip (pa_cons (pv 0) (pa_cons (pv 1) pa_nil))) (blkOk_by (own := [("level", 2), ("higher", 3)]) (N := N_has_levels_up_to) (sc := defScope s_has_levels_up_to) (by decide +kernel)) (fun _ _ _ _ _ => (pg_tup rfl (pgs_cons (pg_name (i := 2) sc_has_levels_up_to.nd rfl (.inl rfl)) (pgs_cons (pg_name (i := 3) sc_has_levels_up_to.nd rfl (.inl rfl)) pgs_nil)))) (fun _ _ _ _ _ => pts_nil) (fun _ _ _ _ _ => (pe_cmpR op_le (pv 2) (pv 3) (nomark _)))) pa_nil)))), ?_⟩
  refine ⟨.ref a, rfl, .ref b, rfl, a, b, _, _, rfl, .inr ⟨hR, hT, fun D hD => ?_⟩⟩
  refine lc_pure (walk_zipT (xs := r.map vN) (ys := t.map vN) (by rw [List.length_map, List.length_map, hl])) (by rw [List.length_map]; omega) (fun i => .bl (decide (r.getD i 0 ≤ t.getD i 0))) hD (fun H' e => ⟨Same.sqT e hR, Same.sqT e hT⟩) (fun i x H' H2 K2 hi e k y => ?_) (fun H' e eD => ?_)
  · obtain ⟨T, x1, x2, rfl, nT, rfl, hx, hy⟩ := y
    obtain ⟨n, hn, rfl⟩ := get_map hx
    obtain ⟨m, hm, rfl⟩ := get_map hy
    refine ⟨T, _, rfl, SqT.of upd_same, rfl, _, _, rfl, _, _, rfl, rfl, rfl, ?_⟩
    refine ⟨_, rfl, _, rfl, _, _, rfl, rfl, k _ _ ?_ (same_new nT)⟩
    rw [getD_of hn, getD_of hm]
    show V.bl (decide ((n : Int) ≤ (m : Int))) = V.bl (decide (n ≤ m))
    congr 1
    exact decide_eq_decide.mpr (by omega)
  · refine ⟨D, (List.range r.length).map fun i => decide (r.getD i 0 ≤ t.getD i 0), rfl, SqL.of ?_, ?_⟩
    · rw [eD, List.length_map, List.map_map]
      rfl
    · have e1 : ((List.range r.length).map fun i => decide (r.getD i 0 ≤ t.getD i 0)).all id = leAll r t := by unfold leAll; rw [List.all_map]; rfl
      rw [e1]
      exact q H' e
end
end RL
namespace RL
open PySem PySem.Spec PyProof.Rows L2
section
variable {P : Program} {w : World} {K : PySem.W.Frag} {mg : Str → Option Value} {base : Heap}
/-! ### is_scheme -/
def sp_is_scheme (K : PySem.W.Frag) : Sp := fun vs H Q _ => ∃ (v : V) (S : List Att), vs = [v] ∧ Dp K H v (eS S) ∧ SchOk S ∧ ret H (.bl true) Q
theorem ok_is_scheme (D : Df K mg "is_scheme" s_is_scheme) (Z : Zs mg) {ta tc : Tok} (m_MOST_ATTRIBUTES : mg "MOST_ATTRIBUTES" = some (.int 3 ta)) (m_MOST_CELLS : mg "MOST_CELLS" = some (.int 60 tc))
    (C_is_attribute : C8.Cal P w K mg base 5 "is_attribute" (sp_is_attribute K) []) (C_multiplied : C8.Cal P w K mg base 1 "multiplied" (sp_multiplied K) []) : C8.Cal P w K mg base 6 "is_scheme" (sp_is_scheme K) [] := by
  refine D.cal sc_is_scheme (fun _ _ _ _ _ _ us hl => match us, hl with | [_], _ => rfl) (fun vs H Q E ⟨v, S, e, _⟩ => by rw [e]; rfl) (fun f cdv A outer s H vs Q E hr h => ?_)
  obtain ⟨v, S, rfl, hD, ⟨h1, h3, hat, hpr⟩, q⟩ := h
  obtain ⟨a, xs, rfl, hS, hA⟩ := dpS hD
  have hlen : xs.length = S.length := by rw [(DpAll.length hA), List.length_map]
  refine ⟨_, (pss_cons (ps_if (PW.pt (pw_or (pt_not (pt_val (pe_callB call_isi (by rfl) Z.z_isinstance (by decide +kernel) (pa_cons (pv 0) (pa_cons (pe_bltn (v := .ty "tuple") (by rfl) Z.z_tuple (by decide +kernel) rfl) pa_nil))))) (pw_or1 (pt_not (pt_chain op_le op_le pe_int (pe_callB call_len_seq (by rfl) Z.z_len PySem.boot_len (pa_cons (pv 0) pa_nil)) (pe_glob (v := .int 3) (by rfl) m_MOST_ATTRIBUTES ⟨_, rfl⟩)))))) (pss_one (ps_ret pe_bl)) pss_nil)
      (pss_cons (ps_if (pt_not (pt_val (pe_callB (cr_all rfl) (by rfl) Z.z_all (by decide +kernel) (pa_cons (pe_lc (own := [("part", 1)]) rfl sc_is_scheme.nd (pi_tup (pv 0)) (blkOk_by (own := [("part", 1)]) (N := N_is_scheme) (sc := defScope s_is_scheme) (by decide +kernel)) (fun _ _ _ _ _ => (pg_name (i := 1) sc_is_scheme.nd rfl (.inl rfl))) (fun _ _ _ _ _ => pts_nil) (fun _ _ _ _ _ => (C8.pe_c C_is_attribute hr (by decide) (by rfl) (pa_cons (pv 1) pa_nil)))) pa_nil)))) (pss_one (ps_ret pe_bl)) pss_nil)
      (pss_one (ps_ret (pe_cmpR op_le (C8.pe_c C_multiplied hr (by decide) (by rfl) (pa_cons (pe_lc (own := [("many", 2), ("steps", 3)]) (g := (gTup K 2 (gCons (gName 2) (gCons (gName 3) gNil)))) rfl sc_is_scheme.nd (pi_tup (pv 0)) (blkOk_by (own := [("many", 2), ("steps", 3)]) (N := N_is_scheme) (sc := defScope s_is_scheme) (by decide +kernel)) (fun _ _ _ _ _ => (pg_tup rfl (pgs_cons (pg_name (i := 2) sc_is_scheme.nd rfl (.inl rfl)) (pgs_cons (pg_name (i := 3) sc_is_scheme.nd rfl (.inl rfl)) pgs_nil)))) (fun _ _ _ _ _ => pts_nil) (fun _ _ _ _ _ => (pv 2))) pa_nil)) (pe_glob (v := .int 60) (by rfl) m_MOST_CELLS ⟨_, rfl⟩) (nomark _)))))), ?_⟩
  obtain ⟨t, ty, kt⟩ := isi_tup hS
  refine ⟨.ref a, rfl, _, _, _, _, true, rfl, .ty "tuple", ty, kt, true, rfl, iteF ?_⟩
  have c1 : (1 : Int) ≤ ((xs.length : Nat) : Int) := by omega
  have c2 : ((xs.length : Nat) : Int) ≤ 3 := by omega
  refine ⟨.ref a, rfl, a, xs, rfl, .inr hS, _, _, rfl, rfl, true, bT c1, iteT ⟨_, _, rfl, rfl, true, bT c2, iteF ?_⟩⟩
  -- all([is_attribute(part) ..])
  refine ⟨.ref a, rfl, a, rfl, ⟨_, hS⟩, fun D hD => ?_⟩
  refine lc_pure (walk_tup (xs := xs)) (by omega) (fun _ => .bl true) hD (fun H' e => Same.sqT e hS) (fun i x H' H2 K2 hi e k y => ?_) (fun H' e eD => ?_)
  · obtain ⟨rfl, hx⟩ := y
    obtain ⟨d, hd, dx⟩ := DpAll.get (dpAll_ts (Same.ts e) _ _ (tup_eS S) hA) hx
    obtain ⟨at1, h1', rfl⟩ := get_map hd
    exact ⟨rfl, x, rfl, x, at1, rfl, dx, hat at1 (List.mem_of_getElem? h1'), fun H3 e3 => k _ H3 rfl e3⟩
  refine ⟨D, List.replicate xs.length true, rfl, SqL.of ?_, true, ?_, iteF ?_⟩
  · rw [eD, List.map_const', List.length_range, List.map_replicate]
  · simp
  -- multiplied([many ..]) <= MOST_CELLS
  refine ⟨.ref a, rfl, a, rfl, ⟨_, Same.sqT e hS⟩, fun D2 hD2 => ?_⟩
  refine lc_pure (walk_tup (xs := xs)) (by omega) (fun i => ((S.map (·.1)).map vN).getD i .non) hD2 (fun H2 e2 => Same.sqT (e.trans e2) hS) (fun i x H2 H3 K2 hi e2 k y => ?_) (fun H2 e2 eD2 => ?_)
  · obtain ⟨rfl, hx⟩ := y
    obtain ⟨d, hd, dx⟩ := DpAll.get (dpAll_ts (Same.ts (e.trans e2)) _ _ (tup_eS S) hA) hx
    obtain ⟨at1, h1', rfl⟩ := get_map hd
    obtain ⟨p, z, rfl, hp, dz⟩ := dpA dx
    refine ⟨p, _, rfl, hp, rfl, _, _, rfl, _, _, rfl, rfl, rfl, vN at1.1, rfl, k _ _ ?_ (Same.refl _)⟩
    have e1 : ((S.map (·.1)).map vN)[i]? = some (vN at1.1) := by rw [List.map_map, List.getElem?_map, h1']; rfl
    rw [getD_of e1]
  · have eL : (List.range xs.length).map (fun i => ((S.map (·.1)).map vN).getD i .non) = (S.map (·.1)).map vN := by
      have := range_getD ((S.map (·.1)).map vN) V.non
      rw [List.length_map, List.length_map] at this
      rw [hlen]
      exact this
    rw [eL] at eD2
    refine ⟨D2, S.map (·.1), rfl, SqL.of eD2, fun n hn => ?_, fun H3 e3 => ⟨_, _, rfl, rfl, qT ?_ (q _ ((e.trans e2).trans e3))⟩⟩
    · obtain ⟨at1, hm, rfl⟩ := List.mem_map.mp hn
      have := (hat at1 hm).2.1
      omega
    · omega
/-! ### the checks -/
def sp_check_scheme (K : PySem.W.Frag) : Sp := fun vs H Q _ => ∃ (v : V) (S : List Att), vs = [v] ∧ Dp K H v (eS S) ∧ SchOk S ∧ ret H .non Q
theorem ok_check_scheme (D : Df K mg "check_scheme" s_check_scheme) (C_is_scheme : C8.Cal P w K mg base 6 "is_scheme" (sp_is_scheme K) []) : C8.Cal P w K mg base 7 "check_scheme" (sp_check_scheme K) [] := by
  refine D.cal sc_check_scheme (fun _ _ _ _ _ _ us hl => match us, hl with | [_], _ => rfl) (fun vs H Q E ⟨v, S, e, _⟩ => by rw [e]; rfl) (fun f cdv A outer s H vs Q E hr h => ?_)
  obtain ⟨v, S, rfl, hD, hok, q⟩ := h
  refine ⟨_, (pss_one (ps_if (pt_not (pt_val (C8.pe_c C_is_scheme hr (by decide) (by rfl) (pa_cons (pv 0) pa_nil)))) (pss_one ps_never) pss_nil)), ?_⟩
  exact ⟨v, rfl, v, S, rfl, hD, hok, fun H1 e1 => ⟨true, rfl, iteF (q H1 e1)⟩⟩
/-! ### is_rollup -/
def sp_is_rollup (K : PySem.W.Frag) : Sp := fun vs H Q _ => ∃ (v u : V) (S : List Att) (r : List Nat), vs = [v, u] ∧ Dp K H v (eS S) ∧ Dp K H u (eT r) ∧ S.length ≤ 3 ∧ RollOk S r ∧ ret H (.bl true) Q
theorem ok_is_rollup (D : Df K mg "is_rollup" s_is_rollup) (C_are_numbers_below : C8.Cal P w K mg base 3 "are_numbers_below" (sp_are_numbers_below K) []) (C_level_counts : C8.Cal P w K mg base 1 "level_counts" (sp_level_counts K) []) :
    C8.Cal P w K mg base 4 "is_rollup" (sp_is_rollup K) [] := by
  refine D.cal sc_is_rollup (fun _ _ _ _ _ _ us hl => match us, hl with | [_, _], _ => rfl) (fun vs H Q E ⟨v, u, S, r, e, _⟩ => by rw [e]; rfl) (fun f cdv A outer s H vs Q E hr h => ?_)
  obtain ⟨v, u, S, r, rfl, hD, hU, h3, ⟨hl, hlt⟩, q⟩ := h
  obtain ⟨a, rfl, hR⟩ := dpT hU
  refine ⟨_, (pss_one (ps_ret (C8.pe_c C_are_numbers_below hr (by decide) (by rfl) (pa_cons (pv 1) (pa_cons (C8.pe_c C_level_counts hr (by decide) (by rfl) (pa_cons (pv 0) pa_nil)) pa_nil))))), ?_⟩
  refine ⟨.ref a, rfl, v, rfl, v, S, rfl, hD, by omega, fun H1 p e1 np hp => ?_⟩
  refine ⟨a, p, r, lvls S, rfl, Same.sqT e1 hR, SqL.of hp, by unfold lvls; rw [List.length_map, hl], by omega, fun i n m hn hm => ?_, fun H2 e2 => q H2 (e1.trans e2)⟩
  obtain ⟨at1, h1, rfl⟩ := get_map hm
  exact hlt i at1 n h1 hn
def sp_check_rollup (K : PySem.W.Frag) : Sp := fun vs H Q _ => ∃ (v u : V) (S : List Att) (r : List Nat), vs = [v, u] ∧ Dp K H v (eS S) ∧ Dp K H u (eT r) ∧ S.length ≤ 3 ∧ RollOk S r ∧ ret H .non Q
theorem ok_check_rollup (D : Df K mg "check_rollup" s_check_rollup) (C_is_rollup : C8.Cal P w K mg base 4 "is_rollup" (sp_is_rollup K) []) :
    C8.Cal P w K mg base 5 "check_rollup" (sp_check_rollup K) [] := by
  refine D.cal sc_check_rollup (fun _ _ _ _ _ _ us hl => match us, hl with | [_, _], _ => rfl) (fun vs H Q E ⟨v, u, S, r, e, _⟩ => by rw [e]; rfl) (fun f cdv A outer s H vs Q E hr h => ?_)
  obtain ⟨v, u, S, r, rfl, hD, hU, h3, ro, q⟩ := h
  refine ⟨_, (pss_one (ps_if (pt_not (pt_val (C8.pe_c C_is_rollup hr (by decide) (by rfl) (pa_cons (pv 0) (pa_cons (pv 1) pa_nil))))) (pss_one ps_never) pss_nil)), ?_⟩
  exact ⟨v, rfl, u, rfl, v, u, S, r, rfl, hD, hU, h3, ro, fun H1 e1 => ⟨true, rfl, iteF (q H1 e1)⟩⟩
def sp_check_rollup_of (K : PySem.W.Frag) : Sp := fun vs H Q _ => ∃ (v u : V) (S : List Att) (r : List Nat), vs = [v, u] ∧ Dp K H v (eS S) ∧ Dp K H u (eT r) ∧ SchOk S ∧ RollOk S r ∧ ret H .non Q
theorem ok_check_rollup_of (D : Df K mg "check_rollup_of" s_check_rollup_of) (C_check_scheme : C8.Cal P w K mg base 7 "check_scheme" (sp_check_scheme K) []) (C_check_rollup : C8.Cal P w K mg base 5 "check_rollup" (sp_check_rollup K) []) :
    C8.Cal P w K mg base 8 "check_rollup_of" (sp_check_rollup_of K) [] := by
  refine D.cal sc_check_rollup_of (fun _ _ _ _ _ _ us hl => match us, hl with | [_, _], _ => rfl) (fun vs H Q E ⟨v, u, S, r, e, _⟩ => by rw [e]; rfl) (fun f cdv A outer s H vs Q E hr h => ?_)
  obtain ⟨v, u, S, r, rfl, hD, hU, hok, hro, q⟩ := h
  refine ⟨_, (pss_cons (ps_expr (C8.pe_c C_check_scheme hr (by decide) (by rfl) (pa_cons (pv 0) pa_nil)))
      (pss_one (ps_expr (C8.pe_c C_check_rollup hr (by decide) (by rfl) (pa_cons (pv 0) (pa_cons (pv 1) pa_nil)))))), ?_⟩
  refine ⟨v, rfl, v, S, rfl, hD, hok, fun H1 e1 => ?_⟩
  exact ⟨v, rfl, u, rfl, v, u, S, r, rfl, dpS_ts (Same.ts e1) hD, dpT_ts (Same.ts e1) hU, hok.2.1, hro, fun H2 e2 => q H2 (e1.trans e2)⟩
def sp_two (K : PySem.W.Frag) (out : List Att → List Nat → List Nat → Hp → VK → Prop) : Sp := fun vs H Q _ => ∃ (v u x : V) (S : List Att) (r t : List Nat), vs = [v, u, x] ∧ Dp K H v (eS S) ∧ Dp K H u (eT r) ∧ Dp K H x (eT t) ∧ SchOk S ∧ RollOk S r ∧ RollOk S t ∧ out S r t H Q
abbrev sp_check_two_rollups_of (K : PySem.W.Frag) : Sp := sp_two K fun _ _ _ H Q => ret H .non Q
theorem ok_check_two_rollups_of (D : Df K mg "check_two_rollups_of" s_check_two_rollups_of) (C_check_rollup_of : C8.Cal P w K mg base 8 "check_rollup_of" (sp_check_rollup_of K) []) (C_check_rollup : C8.Cal P w K mg base 5 "check_rollup" (sp_check_rollup K) []) :
    C8.Cal P w K mg base 9 "check_two_rollups_of" (sp_check_two_rollups_of K) [] := by
  refine D.cal sc_check_two_rollups_of (fun _ _ _ _ _ _ us hl => match us, hl with | [_, _, _], _ => rfl) (fun vs H Q E ⟨v, u, x, S, r, t, e, _⟩ => by rw [e]; rfl) (fun f cdv A outer s H vs Q E hr h => ?_)
  obtain ⟨v, u, x, S, r, t, rfl, hD, hU, hX, hok, hro, hto, q⟩ := h
  refine ⟨_, (pss_cons (ps_expr (C8.pe_c C_check_rollup_of hr (by decide) (by rfl) (pa_cons (pv 0) (pa_cons (pv 1) pa_nil))))
      (pss_one (ps_expr (C8.pe_c C_check_rollup hr (by decide) (by rfl) (pa_cons (pv 0) (pa_cons (pv 2) pa_nil)))))), ?_⟩
  refine ⟨v, rfl, u, rfl, v, u, S, r, rfl, hD, hU, hok, hro, fun H1 e1 => ?_⟩
  exact ⟨v, rfl, x, rfl, v, x, S, t, rfl, dpS_ts (Same.ts e1) hD, dpT_ts (Same.ts e1) hX, hok.2.1, hto, fun H2 e2 => q H2 (e1.trans e2)⟩
/-! ### is_fine, finer, coarser -/
abbrev sp_is_fine (K : PySem.W.Frag) : Sp := sp_two K fun _ r t H Q => ret H (.bl (leAll r t)) Q
theorem ok_is_fine (D : Df K mg "is_fine" s_is_fine) (C_check_two_rollups_of : C8.Cal P w K mg base 9 "check_two_rollups_of" (sp_check_two_rollups_of K) []) (C_has_levels_up_to : C8.Cal P w K mg base 1 "has_levels_up_to" (sp_has_levels_up_to K) []) :
    C8.Cal P w K mg base 10 "is_fine" (sp_is_fine K) [] := by
  refine D.cal sc_is_fine (fun _ _ _ _ _ _ us hl => match us, hl with | [_, _, _], _ => rfl) (fun vs H Q E ⟨v, u, x, S, r, t, e, _⟩ => by rw [e]; rfl) (fun f cdv A outer s H vs Q E hr h => ?_)
  obtain ⟨v, u, x, S, r, t, rfl, hD, hU, hX, hok, hro, hto, q⟩ := h
  refine ⟨_, (pss_cons (ps_expr (C8.pe_c C_check_two_rollups_of hr (by decide) (by rfl) (pa_cons (pv 0) (pa_cons (pv 1) (pa_cons (pv 2) pa_nil)))))
      (pss_one (ps_ret (C8.pe_c C_has_levels_up_to hr (by decide) (by rfl) (pa_cons (pv 1) (pa_cons (pv 2) pa_nil)))))), ?_⟩
  refine ⟨v, rfl, u, rfl, x, rfl, v, u, x, S, r, t, rfl, hD, hU, hX, hok, hro, hto, fun H1 e1 => ?_⟩
  obtain ⟨a, rfl, hA⟩ := dpT hU
  obtain ⟨b, rfl, hB⟩ := dpT hX
  have l3 := hok.2.1
  exact ⟨_, rfl, _, rfl, a, b, r, t, rfl, Same.sqT e1 hA, Same.sqT e1 hB, by rw [hro.1, hto.1], by rw [hro.1]; omega, fun H2 e2 => q H2 (e1.trans e2)⟩
def minL (r t : List Nat) : List Nat := (List.range r.length).map fun i => min (r.getD i 0) (t.getD i 0)
def maxL (r t : List Nat) : List Nat := (List.range r.length).map fun i => max (r.getD i 0) (t.getD i 0)
abbrev sp_finer (K : PySem.W.Frag) : Sp := sp_two K fun _ r t H Q => retD K H (eT (minL r t)) Q
abbrev sp_coarser (K : PySem.W.Frag) : Sp := sp_two K fun _ r t H Q => retD K H (eT (maxL r t)) Q
theorem ok_finer (D : Df K mg "finer" s_finer) (Z : Zs mg) (C_check_two_rollups_of : C8.Cal P w K mg base 9 "check_two_rollups_of" (sp_check_two_rollups_of K) []) : C8.Cal P w K mg base 10 "finer" (sp_finer K) [] := by
  refine D.cal sc_finer (fun _ _ _ _ _ _ us hl => match us, hl with | [_, _, _], _ => rfl) (fun vs H Q E ⟨v, u, x, S, r, t, e, _⟩ => by rw [e]; rfl) (fun f cdv A outer s H vs Q E hr h => ?_)
  obtain ⟨v, u, x, S, r, t, rfl, hD, hU, hX, hok, hro, hto, q⟩ := h
  refine ⟨_, (pss_cons (ps_expr (C8.pe_c C_check_two_rollups_of hr (by decide) (by rfl) (pa_cons (pv 0) (pa_cons (pv 1) (pa_cons (pv 2) pa_nil)))))
      (pss_one (ps_ret (pe_callTy call_tuple_of (by rfl) Z.z_tuple (by decide +kernel) (pa_cons (pe_lc (own := [("level", 3), ("further", 4)]) (g := (gTup K 2 (gCons (gName 3) (gCons (gName 4) gNil)))) rfl sc_finer.nd (RZ.pi_zipA (by rfl) Z.z_zip (pa_cons (pv 1) (pa_cons (pv 2) pa_nil))) (blkOk_by (own := [("level", 3), ("further", 4)]) (N := N_finer) (sc := defScope s_finer) (by decide +kernel)) (fun _ _ _ _ _ => (pg_tup rfl (pgs_cons (pg_name (i := 3) sc_finer.nd rfl (.inl rfl)) (pgs_cons (pg_name (i := 4) sc_finer.nd rfl (.inl rfl)) pgs_nil)))) (fun _ _ _ _ _ => pts_nil) (fun _ _ _ _ _ => (pe_callB (call_min2 rfl) (by rfl) Z.z_min (by decide +kernel) (pa_cons (pv 3) (pa_cons (pv 4) pa_nil))))) pa_nil))))), ?_⟩
  refine ⟨v, rfl, u, rfl, x, rfl, v, u, x, S, r, t, rfl, hD, hU, hX, hok, hro, hto, fun H1 e1 => ?_⟩
  obtain ⟨a, rfl, hA⟩ := dpT hU
  obtain ⟨b, rfl, hB⟩ := dpT hX
  have l3 := hok.2.1
  have lr := hro.1
  have lt := hto.1
  refine ⟨.ref a, rfl, .ref b, rfl, a, b, _, _, rfl, .inr ⟨Same.sqT e1 hA, Same.sqT e1 hB, fun D hD => ?_⟩⟩
  refine lc_pure (walk_zipT (xs := r.map vN) (ys := t.map vN) (by rw [List.length_map, List.length_map]; omega)) (by rw [List.length_map]; omega) (fun i => vN (min (r.getD i 0) (t.getD i 0))) hD (fun H' e => ⟨Same.sqT (e1.trans e) hA, Same.sqT (e1.trans e) hB⟩) (fun i x H' H2 K2 hi e k y => ?_) (fun H' e eD => ?_)
  · obtain ⟨T, x1, x2, rfl, nT, rfl, hx, hy⟩ := y
    obtain ⟨n, hn, rfl⟩ := get_map hx
    obtain ⟨m, hm, rfl⟩ := get_map hy
    refine ⟨T, _, rfl, SqT.of upd_same, rfl, _, _, rfl, _, _, rfl, rfl, rfl, ?_⟩
    refine ⟨_, rfl, _, rfl, _, _, rfl, k _ _ ?_ (same_new nT)⟩
    rw [getD_of hn, getD_of hm]
    refine congrArg V.int ?_
    split <;> omega
  · refine ⟨D, _, rfl, .inl ⟨SqL.of eD, fun l hl => q _ _ ((e1.trans e).trans (same_new hl)) (dpT_mk (SqT.of ?_))⟩⟩
    rw [upd_same, List.length_map]
    unfold minL
    rw [List.map_map]
    rfl
/-! ### greater_levels -/
def sp_greater_levels (K : PySem.W.Frag) : Sp := fun vs H Q _ => ∃ (u x : V) (r t : List Nat), vs = [u, x] ∧ Dp K H u (eT r) ∧ Dp K H x (eT t) ∧ r.length = t.length ∧ r.length ≤ 100 ∧ retD K H (eT (maxL r t)) Q
theorem ok_greater_levels (D : Df K mg "greater_levels" s_greater_levels) (Z : Zs mg) : C8.Cal P w K mg base 1 "greater_levels" (sp_greater_levels K) [] := by
  refine D.cal sc_greater_levels (fun _ _ _ _ _ _ us hl => match us, hl with | [_, _], _ => rfl) (fun vs H Q E ⟨u, x, r, t, e, _⟩ => by rw [e]; rfl) (fun f cdv A outer s H vs Q E hr h => ?_)
  obtain ⟨u, x, r, t, rfl, hU, hX, hl, l100, q⟩ := h
  refine ⟨_, (pss_one (ps_ret (pe_callTy call_tuple_of (by rfl) Z.z_tuple (by decide +kernel) (pa_cons (pe_lc (own := [("level", 2), ("further", 3)]) (g := (gTup K 2 (gCons (gName 2) (gCons (gName 3) gNil)))) rfl sc_greater_levels.nd (RZ.pi_zipA (by rfl) Z.z_zip (pa_cons (pv 0) (pa_cons (pv 1) pa_nil))) (blkOk_by (own := [("level", 2), ("further", 3)]) (N := N_greater_levels) (sc := defScope s_greater_levels) (by decide +kernel)) (fun _ _ _ _ _ => (pg_tup rfl (pgs_cons (pg_name (i := 2) sc_greater_levels.nd rfl (.inl rfl)) (pgs_cons (pg_name (i := 3) sc_greater_levels.nd rfl (.inl rfl)) pgs_nil)))) (fun _ _ _ _ _ => pts_nil) (fun _ _ _ _ _ => (pe_callB (call_max2 rfl) (by rfl) Z.z_max (by decide +kernel) (pa_cons (pv 2) (pa_cons (pv 3) pa_nil))))) pa_nil)))), ?_⟩
  obtain ⟨a, rfl, hA⟩ := dpT hU
  obtain ⟨b, rfl, hB⟩ := dpT hX
  refine ⟨.ref a, rfl, .ref b, rfl, a, b, _, _, rfl, .inr ⟨hA, hB, fun D hD => ?_⟩⟩
  refine lc_pure (walk_zipT (xs := r.map vN) (ys := t.map vN) (by rw [List.length_map, List.length_map]; omega)) (by rw [List.length_map]; omega) (fun i => vN (max (r.getD i 0) (t.getD i 0))) hD (fun H' e => ⟨Same.sqT e hA, Same.sqT e hB⟩) (fun i x H' H2 K2 hi e k y => ?_) (fun H' e eD => ?_)
  · obtain ⟨T, x1, x2, rfl, nT, rfl, hx, hy⟩ := y
    obtain ⟨n, hn, rfl⟩ := get_map hx
    obtain ⟨m, hm, rfl⟩ := get_map hy
    refine ⟨T, _, rfl, SqT.of upd_same, rfl, _, _, rfl, _, _, rfl, rfl, rfl, ?_⟩
    refine ⟨_, rfl, _, rfl, _, _, rfl, k _ _ ?_ (same_new nT)⟩
    rw [getD_of hn, getD_of hm]
    refine congrArg V.int ?_
    split <;> omega
  · refine ⟨D, _, rfl, .inl ⟨SqL.of eD, fun l hl => q _ _ (e.trans (same_new hl)) (dpT_mk (SqT.of ?_))⟩⟩
    rw [upd_same, List.length_map]
    unfold maxL
    rw [List.map_map]
    rfl
theorem ok_coarser (D : Df K mg "coarser" s_coarser) (C_check_two_rollups_of : C8.Cal P w K mg base 9 "check_two_rollups_of" (sp_check_two_rollups_of K) []) (C_greater_levels : C8.Cal P w K mg base 1 "greater_levels" (sp_greater_levels K) []) : C8.Cal P w K mg base 10 "coarser" (sp_coarser K) [] := by
  refine D.cal sc_coarser (fun _ _ _ _ _ _ us hl => match us, hl with | [_, _, _], _ => rfl) (fun vs H Q E ⟨v, u, x, S, r, t, e, _⟩ => by rw [e]; rfl) (fun f cdv A outer s H vs Q E hr h => ?_)
  obtain ⟨v, u, x, S, r, t, rfl, hD, hU, hX, hok, hro, hto, q⟩ := h
  refine ⟨_, (pss_cons (ps_expr (C8.pe_c C_check_two_rollups_of hr (by decide) (by rfl) (pa_cons (pv 0) (pa_cons (pv 1) (pa_cons (pv 2) pa_nil)))))
      (pss_one (ps_ret (C8.pe_c C_greater_levels hr (by decide) (by rfl) (pa_cons (pv 1) (pa_cons (pv 2) pa_nil)))))), ?_⟩
  refine ⟨v, rfl, u, rfl, x, rfl, v, u, x, S, r, t, rfl, hD, hU, hX, hok, hro, hto, fun H1 e1 => ?_⟩
  have l3 := hok.2.1
  have lr := hro.1
  have lt := hto.1
  exact ⟨u, rfl, x, rfl, u, x, r, t, rfl, dpT_ts (Same.ts e1) hU, dpT_ts (Same.ts e1) hX, by omega, by omega, q.mono e1⟩
/-! ### are_rollups, check_stored -/
def eRs (rs : List (List Nat)) : PyData := eSt rs
def sp_are_rollups (K : PySem.W.Frag) : Sp := fun vs H Q _ => ∃ (v u : V) (S : List Att) (rs : List (List Nat)), vs = [v, u] ∧ Dp K H v (eS S) ∧ Dp K H u (eSt rs) ∧ S.length ≤ 3 ∧ rs.length ≤ 8 ∧ (∀ r ∈ rs, RollOk S r) ∧ ret H (.bl true) Q
def sp_check_stored (K : PySem.W.Frag) : Sp := fun vs H Q _ => ∃ (v u : V) (S : List Att) (rs : List (List Nat)), vs = [v, u] ∧ Dp K H v (eS S) ∧ Dp K H u (eSt rs) ∧ S.length ≤ 3 ∧ rs.length ≤ 8 ∧ (∀ r ∈ rs, RollOk S r) ∧ ret H .non Q
end
end RL
namespace RL
open PySem PySem.Spec PyProof.Rows L2
section
variable {P : Program} {w : World} {K : PySem.W.Frag} {mg : Str → Option Value} {base : Heap}
/-! ### the law's own helpers: a cell, the pen -/
def sp_cell_at (K : PySem.W.Frag) : Sp := fun vs H Q _ => ∃ (a : Addr) (ns : List Int) (k : Nat), vs = [.ref a, vN k] ∧ SqL K H a (ns.map V.int) ∧ ∀ i, ret H (.int i) Q
theorem ok_cell_at (D : Df K mg "_law_cell_at" s__law_cell_at) (Z : Zs mg) : C8.Cal P w K mg base 1 "_law_cell_at" (sp_cell_at K) [] := by
  refine D.cal sc__law_cell_at (fun _ _ _ _ _ _ us hl => match us, hl with | [_, _], _ => rfl) (fun vs H Q E ⟨a, ns, k, e, _⟩ => by rw [e]; rfl) (fun f cdv A outer s H vs Q E hr h => ?_)
  obtain ⟨a, ns, k, rfl, hS, q⟩ := h
  refine ⟨_, (pss_cons (ps_if (pt_cmpR op_lt (pv 1) (pe_callB call_len_seq (by rfl) Z.z_len PySem.boot_len (pa_cons (pv 0) pa_nil)) (nomark _)) (pss_one (ps_ret (pe_ix ix_list (pv 0) (pv 1) (fun _ _ => rfl)))) pss_nil)
      (pss_one (ps_ret pe_int))), ?_⟩
  refine ⟨vN k, rfl, .ref a, rfl, a, _, rfl, .inl hS, _, _, rfl, rfl, _, rfl, ite2 (fun e => ?_) (fun e => q 0 H (Same.refl H))⟩
  have hk : k < ns.length := by
    have := of_decide_eq_true e
    rw [List.length_map] at this
    omega
  exact ⟨.ref a, rfl, vN k, rfl, a, _, _, .int ns[k], rfl, rfl, hS, atI_nat (by rw [List.getElem?_map, List.getElem?_eq_getElem hk]; rfl), q _ H (Same.refl H)⟩
def sp_pen : Sp := fun vs H Q _ => ∃ i, vs = [.int i] ∧ ∀ H' p, Same H H' → H p = none → Pen H' p 0 → Q (.ref p) H'
theorem ok_pen (D : Df K mg "_law_pen" s__law_pen) (Z : Zs mg) : C8.Cal P w K mg base 1 "_law_pen" sp_pen [] := by
  refine D.cal sc__law_pen (fun _ _ _ _ _ _ us hl => match us, hl with | [_], _ => rfl) (fun vs H Q E ⟨i, e, _⟩ => by rw [e]; rfl) (fun f cdv A outer s H vs Q E hr h => ?_)
  obtain ⟨i, rfl, q⟩ := h
  refine ⟨_, (pss_one (ps_ret (pe_lst (pa_cons (pe_callB (call_max2 rfl) (by rfl) Z.z_max (by decide +kernel) (pa_cons pe_int (pa_cons (pe_op op_sub (pv 0) (pe_op op_pow pe_int pe_int)) pa_nil))) (pa_cons (pe_op op_mod (pv 0) pe_int) (pa_cons pe_int pa_nil)))))), ?_⟩
  refine ⟨.int i, rfl, _, _, rfl, rfl, ⟨by decide, by decide, by decide⟩, _, _, rfl, rfl, _, _, rfl, ?_⟩
  refine ⟨.int i, rfl, _, _, rfl, rfl, (by decide : (0 : Int) < 1000000007), (by decide : 3 ≤ sizeLine), fun p hp => q _ p (same_new hp) hp ?_⟩
  refine ⟨_, _, 0, upd_same, ?_, Int.emod_nonneg _ (by decide), Int.emod_lt_of_pos _ (by decide), Nat.le_refl _⟩
  split <;> omega
/-! ### a draw -/
def sp_draw : Sp := fun vs H Q _ => ∃ (a : Addr) (m n : Nat), vs = [.ref a, vN m] ∧ 0 < m ∧ m ≤ 10000000 ∧ Pen H a n ∧ n ≤ 1000000 ∧ ∀ H' d, But a H H' → Pen H' a (n + 1) → d < m → Q (vN d) H'
theorem ok_draw (D : Df K mg "_law_draw" s__law_draw) : C8.Cal P w K mg base 1 "_law_draw" sp_draw [] := by
  refine D.cal sc__law_draw (fun _ _ _ _ _ _ us hl => match us, hl with | [_, _], _ => rfl) (fun vs H Q E ⟨a, m, n, e, _⟩ => by rw [e]; rfl) (fun f cdv A outer s H vs Q E hr h => ?_)
  obtain ⟨a, m, n, rfl, h0, h1, ⟨p, q, c, hp, p0, q0, q1, hc⟩, hn, k⟩ := h
  have at0 : ∀ {x y z : V}, atI [x, y, z] 0 = some x := rfl
  have at1 : ∀ {x y z : V}, atI [x, y, z] 1 = some y := rfl
  have at2 : ∀ {x y z : V}, atI [x, y, z] 2 = some z := rfl
  have hm0 : (0 : Int) < (m : Int) := by omega
  refine ⟨_, (pss_cons (ps_if (pt_cmpR op_gt (pe_ix ix_list (pv 0) pe_int (fun _ _ => rfl)) pe_int (nomark _)) (pss_cons (ps_set (i := 2) sc__law_draw.nd rfl (.inl rfl) (pe_op op_mod (pe_ix ix_list (pv 0) pe_int (fun _ _ => rfl)) (pv 1)))
      (pss_cons (ps_asg (pe_op op_fdiv (pe_ix ix_list (pv 0) pe_int (fun _ _ => rfl)) (pv 1)) (pg_sub (pv 0) pe_int set_list))
      (pss_one (ps_ret (pv 2))))) pss_nil)
      (pss_cons (ps_asg (pe_op op_add (pe_ix ix_list (pv 0) pe_int (fun _ _ => rfl)) pe_int) (pg_sub (pv 0) pe_int set_list))
      (pss_cons (ps_set (i := 3) sc__law_draw.nd rfl (.inl rfl) (pe_op op_mod (pe_op op_mul (pe_op op_add (pe_ix ix_list (pv 0) pe_int (fun _ _ => rfl)) (pe_op op_mul pe_int (pe_ix ix_list (pv 0) pe_int (fun _ _ => rfl)))) (pe_op op_add pe_int (pe_op op_mul pe_int (pe_ix ix_list (pv 0) pe_int (fun _ _ => rfl))))) pe_int))
      (pss_cons (ps_set (i := 3) sc__law_draw.nd rfl (.inl rfl) (pe_op op_mod (pe_op op_add (pe_op op_add (pe_op op_mul (pv 3) (pv 3)) (pe_op op_mul pe_int (pe_ix ix_list (pv 0) pe_int (fun _ _ => rfl)))) pe_int) pe_int))
      (pss_one (ps_ret (pe_op op_mod (pe_op op_fdiv (pe_op op_mod (pe_op op_mul (pv 3) pe_int) pe_int) pe_int) (pv 1)))))))), ?_⟩
  refine ⟨.ref a, rfl, a, _, 0, _, rfl, rfl, SqL.of hp, at0, _, _, rfl, rfl, _, rfl, ite2 (fun e => ?_) (fun e => ?_)⟩
  · -- a digit of a great cell
    refine ⟨.ref a, rfl, a, _, 0, _, rfl, rfl, SqL.of hp, at0, vN m, rfl, _, _, rfl, rfl, hm0, ?_⟩
    refine ⟨.ref a, rfl, a, _, 0, _, rfl, rfl, SqL.of hp, at0, vN m, rfl, _, _, rfl, rfl, ⟨hm0, by omega⟩, .ref a, rfl, a, _, 0, 0, rfl, rfl, hp, rfl, ?_⟩
    have e0 : 0 ≤ p % (m : Int) := Int.emod_nonneg _ (by omega)
    have e1 : p % (m : Int) < (m : Int) := Int.emod_lt_of_pos _ hm0
    have e2 : V.int (p % (m : Int)) = vN (p % (m : Int)).toNat := by
      show _ = V.int (((p % (m : Int)).toNat : Nat) : Int)
      rw [Int.toNat_of_nonneg e0]
    refine ⟨V.int (p % (m : Int)), rfl, ?_⟩
    rw [e2]
    exact k _ _ (But.upd (But.refl a H)) ⟨_, q, c, upd_same, Int.ediv_nonneg p0 (by omega), q0, q1, by omega⟩ (by omega)
  · -- a stirred one
    refine ⟨.ref a, rfl, a, _, 2, _, rfl, rfl, SqL.of hp, at2, _, _, rfl, rfl, .ref a, rfl, a, _, 2, 2, rfl, rfl, hp, rfl, ?_⟩
    have hp1 : (upd H a (.lst [.int p, .int q, .int ((c : Int) + 1)])) a = some (.lst [.int p, .int q, .int ((c : Int) + 1)]) := upd_same
    refine ⟨.ref a, rfl, a, _, 1, _, rfl, rfl, SqL.of hp1, at1, .ref a, rfl, a, _, 2, _, rfl, rfl, SqL.of hp1, at2, _, _, rfl, rfl, .inl ⟨by decide, by decide⟩, _, _, rfl, rfl, ?_⟩
    refine ⟨.ref a, rfl, a, _, 2, _, rfl, rfl, SqL.of hp1, at2, _, _, rfl, rfl, .inl ⟨by decide, by decide⟩, _, _, rfl, rfl, _, _, rfl, rfl, .inr ⟨by omega, by omega⟩, _, _, rfl, rfl, (by decide : (0 : Int) < 2147483647), ?_⟩
    have s0 := Int.emod_nonneg ((q + 17 * ((c : Int) + 1)) * (69621 + 2 * ((c : Int) + 1))) (by decide : (2147483647 : Int) ≠ 0)
    have s1 := Int.emod_lt_of_pos ((q + 17 * ((c : Int) + 1)) * (69621 + 2 * ((c : Int) + 1))) (by decide : (0 : Int) < 2147483647)
    have s2 : -(2 ^ 64 : Int) < (q + 17 * ((c : Int) + 1)) * (69621 + 2 * ((c : Int) + 1)) % 2147483647 ∧ (q + 17 * ((c : Int) + 1)) * (69621 + 2 * ((c : Int) + 1)) % 2147483647 < 2 ^ 64 := ⟨by omega, by omega⟩
    refine ⟨_, rfl, _, rfl, _, _, rfl, rfl, .inl s2, .ref a, rfl, a, _, 2, _, rfl, rfl, SqL.of hp1, at2, _, _, rfl, rfl, .inl ⟨by decide, by decide⟩, _, _, rfl, rfl, _, _, rfl, rfl, _, _, rfl, rfl, (by decide : (0 : Int) < 2147483629), ?_⟩
    have u2 : ∀ z : Int, -(2 ^ 64 : Int) < z % 2147483629 ∧ z % 2147483629 < 2 ^ 64 := fun z => ⟨by omega, by omega⟩
    refine ⟨_, rfl, _, _, rfl, rfl, .inl (u2 _), _, _, rfl, rfl, (by decide : (0 : Int) < 2147483647), _, _, rfl, rfl, ⟨by decide, by decide⟩, vN m, rfl, _, _, rfl, rfl, hm0, ?_⟩
    have fin : ∀ z : Int, ∃ d : Nat, V.int (z % (m : Int)) = vN d ∧ d < m := fun z => by
      have e0 : 0 ≤ z % (m : Int) := Int.emod_nonneg _ (by omega)
      have e1 : z % (m : Int) < (m : Int) := Int.emod_lt_of_pos _ hm0
      refine ⟨(z % (m : Int)).toNat, ?_, by omega⟩
      show _ = V.int (((z % (m : Int)).toNat : Nat) : Int)
      rw [Int.toNat_of_nonneg e0]
    have use : ∀ (z : Int) (H' : Hp), (∀ d : Nat, d < m → Q (vN d) H') → Q (V.int (z % (m : Int))) H' := fun z H' kk => by
      obtain ⟨d, e, hd⟩ := fin z
      rw [e]
      exact kk d hd
    refine use _ _ fun d hd => ?_
    exact k _ _ (But.upd (But.refl a H)) ⟨p, q, c + 1, upd_same, p0, q0, q1, by omega⟩ hd
/-! ### one of some things -/
def sp_pick (K : PySem.W.Frag) : Sp := fun vs H Q _ => ∃ (a b : Addr) (xs : List V) (n : Nat), vs = [.ref a, .ref b] ∧ SqL K H b xs ∧ b ≠ a ∧ 0 < xs.length ∧ xs.length ≤ 1000 ∧ Pen H a n ∧ n ≤ 1000000 ∧
  ∀ (H' : Hp) (d : Nat) (x : V), But a H H' → Pen H' a (n + 1) → xs[d]? = some x → Q x H'
theorem ok_pick (D : Df K mg "_law_pick" s__law_pick) (Z : Zs mg) (C__law_draw : C8.Cal P w K mg base 1 "_law_draw" sp_draw []) : C8.Cal P w K mg base 2 "_law_pick" (sp_pick K) [] := by
  refine D.cal sc__law_pick (fun _ _ _ _ _ _ us hl => match us, hl with | [_, _], _ => rfl) (fun vs H Q E ⟨a, b, xs, n, e, _⟩ => by rw [e]; rfl) (fun f cdv A outer s H vs Q E hr h => ?_)
  obtain ⟨a, b, xs, n, rfl, hS, ne, h0, h1, hp, hn, k⟩ := h
  refine ⟨_, (pss_one (ps_ret (pe_ix ix_list (pv 1) (C8.pe_c C__law_draw hr (by decide) (by rfl) (pa_cons (pv 0) (pa_cons (pe_callB call_len_seq (by rfl) Z.z_len PySem.boot_len (pa_cons (pv 1) pa_nil)) pa_nil))) (fun _ _ => rfl)))), ?_⟩
  refine ⟨.ref b, rfl, .ref a, rfl, .ref b, rfl, b, xs, rfl, .inl hS, a, xs.length, n, rfl, h0, Nat.le_trans h1 (by decide), hp, hn, fun H1 d e1 p1 hd => ?_⟩
  exact ⟨b, xs, d, xs[d], rfl, rfl, But.seq e1 ne hS, atI_nat (List.getElem?_eq_getElem hd), k H1 d _ e1 p1 (List.getElem?_eq_getElem hd)⟩
end
end RL
namespace RL
open PySem PySem.Spec PyProof.Rows L2
section
variable {P : Program} {w : World} {K : PySem.W.Frag} {mg : Str → Option Value} {base : Heap}
/-! ### the same things in a drawn order -/
def sp_mixed (K : PySem.W.Frag) : Sp := fun vs H Q _ => ∃ (a b : Addr) (ns : List Nat) (n : Nat), vs = [.ref a, .ref b] ∧ SqL K H b (ns.map vN) ∧ ns.length ≤ 100 ∧ Pen H a n ∧ n ≤ 900000 ∧
  ∀ (H' : Hp) (p : Addr) (ms : List Nat), But a H H' → Pen H' a (n + ns.length) → ms.Perm ns → H p = none → H' p = some (.lst (ms.map vN)) → Q (.ref p) H'
theorem dpLN {K : PySem.W.Frag} {H : Hp} {l : Addr} {ns : List Nat} (h : H l = some (.lst (ns.map vN))) : Dp K H (.ref l) (.list ((ns.map fun (n : Nat) => (n : Int)).map PyData.int)) := by
  refine .lst (SqL.of h) ?_
  rw [map_vN]
  exact dpI_mk _
theorem eqv_nil (ns : List Int) : PyData.eqv (.list (ns.map PyData.int)) (.list []) = decide (ns = []) := by
  cases ns with
  | nil => rfl
  | cons n r => rfl
theorem ok_mixed (D : Df K mg "_law_mixed" s__law_mixed) (Z : Zs mg) (C__law_draw : C8.Cal P w K mg base 1 "_law_draw" sp_draw []) : C8.Cal P w K mg base 2 "_law_mixed" (sp_mixed K) [] := by
  refine D.cal sc__law_mixed (fun _ _ _ _ _ _ us hl => match us, hl with | [_, _], _ => rfl) (fun vs H Q E ⟨a, b, ns, n, e, _⟩ => by rw [e]; rfl) (fun f cdv A outer s H vs Q E hr h => ?_)
  obtain ⟨a, b, ns, n, rfl, hS, hl, hp, hn, k⟩ := h
  refine ⟨_, (pss_cons (ps_par (i := 2) (j := 3) rfl sc__law_mixed.nd rfl rfl (by decide) rfl rfl (pa_cons (pe_callTy call_list_of (by rfl) Z.z_list (by decide +kernel) (pa_cons (pv 1) pa_nil)) (pa_cons (pe_lst pa_nil) pa_nil)) (by rfl))
      (pss_cons (ps_while PassesOwn.never (pt_cmpR (op_neD hr.units) (pv 2) (pe_lst pa_nil) (nomark _)) (pss_one (ps_expr (pe_bm PySem.F.plainAttrs_list PySem.F.slot_list_append PySem.F.type_list_append mt_append (pv 3) (pa_cons (pe_bm PySem.F.plainAttrs_list PySem.F.slot_list_pop PySem.F.type_list_pop mt_popAt (pv 2) (pa_cons (C8.pe_c C__law_draw hr (by decide) (by rfl) (pa_cons (pv 0) (pa_cons (pe_callB call_len_seq (by rfl) Z.z_len PySem.boot_len (pa_cons (pv 2) pa_nil)) pa_nil))) pa_nil)) pa_nil)))))
      (pss_one (ps_ret (pv 3))))), ?_⟩
  -- left, found = list(things), []
  refine ⟨.ref b, rfl, b, _, rfl, .inl hS, fun l nl => ⟨Nat.zero_le _, fun fo nfo => ⟨_, _, rfl, ?_⟩⟩⟩
  have la : l ≠ a := hp.ne nl
  have nfo' : H fo = none := (same_new nl).free nfo
  have fa : fo ≠ a := hp.ne nfo'
  have lf : l ≠ fo := ne_of_none upd_same nfo
  refine ⟨fun m σ H1 => ∃ xs ys : List Nat, σ = [some (.ref a), some (.ref b), some (.ref l), some (.ref fo)] ∧ But a H H1 ∧ Pen H1 a (n + ys.length) ∧ H1 l = some (.lst (xs.map vN)) ∧ H1 fo = some (.lst (ys.map vN)) ∧ (ys ++ xs).Perm ns ∧ m = xs.length,
    ⟨ns.length, ns, [], rfl, But.new (But.new (But.refl a H) nl) nfo', (hp.upd la).upd fa, by rw [upd_ne lf]; exact upd_same, upd_same, by simp, rfl⟩, ?_⟩
  rintro m σ H1 ⟨xs, ys, rfl, b1, p1, hl1, hf1, perm, rfl⟩
  have hlen : ys.length + xs.length = ns.length := by rw [← perm.length_eq, List.length_append]
  -- while left != []
  refine ⟨.ref l, rfl, Nat.zero_le _, fun z nz => ?_⟩
  have s1 : Same H1 (upd H1 z (.lst [])) := same_new nz
  have za : z ≠ a := p1.ne nz
  refine ⟨_, .list [], dpLN (s1 _ _ hl1), .lst (SqL.of upd_same) .nil, (listD_ok _).1, (listD_ok []).1, _, rfl, ?_⟩
  rw [eqv_nil]
  cases xs with
  | nil =>
    refine iteF ?_
    have e0 : ys.Perm ns := by simpa using perm
    exact ⟨.ref fo, rfl, k _ fo ys (But.trans b1 (Same.but s1)) ((p1.same s1).mono (by omega)) e0 nfo' (s1 _ _ hf1)⟩
  | cons x r =>
    refine iteT ⟨fun σ' H' => ∃ xs' ys' : List Nat, σ' = [some (.ref a), some (.ref b), some (.ref l), some (.ref fo)] ∧ But a H H' ∧ Pen H' a (n + ys'.length) ∧ H' l = some (.lst (xs'.map vN)) ∧ H' fo = some (.lst (ys'.map vN)) ∧ (ys' ++ xs').Perm ns ∧ xs'.length < (x :: r).length,
      fun σ' H' ⟨xs', ys', e1, e2, e3, e4, e5, e6, e7⟩ => ⟨xs'.length, e7, xs', ys', e1, e2, e3, e4, e5, e6, rfl⟩, ?_⟩
    -- found.append(left.pop(draw(pen, len(left))))
    refine ⟨.ref fo, rfl, .inl ⟨rfl, _, SqL.of (s1 _ _ hf1)⟩, .ref l, rfl, .inl ⟨rfl, _, SqL.of (s1 _ _ hl1)⟩, .ref a, rfl, .ref l, rfl, l, _, rfl, .inl (SqL.of (s1 _ _ hl1)), ?_⟩
    refine ⟨a, (x :: r).length, n + ys.length, by rw [List.length_map]; rfl, Nat.zero_lt_succ _, by omega, p1.same s1, by omega, fun H2 d b2 p2 hd => ?_⟩
    have hl2 : H2 l = some (.lst ((x :: r).map vN)) := b2 _ _ la (s1 _ _ hl1)
    have hf2 : H2 fo = some (.lst (ys.map vN)) := b2 _ _ fa (s1 _ _ hf1)
    have gy : (x :: r)[d]? = some (x :: r)[d] := List.getElem?_eq_getElem hd
    have gy2 : ((x :: r).map vN)[d]? = some (vN (x :: r)[d]) := by rw [List.getElem?_map, gy]; rfl
    have i1 := ixN_seq (ixN_nat (n := ((x :: r).map vN).length) (d := d) (by rw [List.length_map]; exact hd))
    have dl : d ≤ 100 := by omega
    refine ⟨l, _, _, d, vN (x :: r)[d], rfl, rfl, hl2, by omega, by omega, i1.1, gy2, ?_⟩
    have hf3 : upd H2 l (.lst (((x :: r).map vN).eraseIdx d)) fo = some (.lst (ys.map vN)) := by rw [upd_ne lf.symm]; exact hf2
    refine ⟨fo, _, _, rfl, rfl, hf3, small (by rw [List.length_map]; omega), ?_⟩
    refine ⟨(x :: r).eraseIdx d, ys ++ [(x :: r)[d]], rfl, ?_, ?_, ?_, ?_, ?_, ?_⟩
    · exact But.new (But.new (But.trans b1 (But.trans (Same.but s1) b2)) nl) nfo'
    · have : n + (ys ++ [(x :: r)[d]]).length = n + ys.length + 1 := by rw [List.length_append]; rfl
      rw [this]
      exact (p2.upd la).upd fa
    · rw [upd_ne lf, upd_same]
      have : ∀ (zs : List Nat) (j : Nat), (zs.map vN).eraseIdx j = (zs.eraseIdx j).map vN := by
        intro zs
        induction zs with
        | nil => intro j; simp
        | cons z t ih =>
          intro j
          cases j with
          | zero => rfl
          | succ j => simp [ih]
      rw [this]
    · rw [upd_same, List.map_append]
      rfl
    · refine List.Perm.trans ?_ perm
      rw [List.append_assoc]
      exact (erase_perm gy).append_left ys
    · have : ((x :: r)[d] :: (x :: r).eraseIdx d).length = (x :: r).length := (erase_perm gy).length_eq
      rw [List.length_cons] at this
      omega
end
end RL
namespace RL
open PySem PySem.Spec PyProof.Rows L2
section
variable {P : Program} {w : World} {K : PySem.W.Frag} {mg : Str → Option Value} {base : Heap}
/-! ### a drawn attribute -/
def sp_attribute (K : PySem.W.Frag) : Sp := fun vs H Q _ => ∃ (a : Addr) (m n : Nat), vs = [.ref a, vN m] ∧ 1 ≤ m ∧ m ≤ 6 ∧ Pen H a n ∧ n ≤ 800000 ∧
  ∀ (H' : Hp) (v : V) (at1 : Att), But a H H' → Pen H' a (n + 100) → Dp K H' v (eA at1) → AttOk at1 → at1.1 ≤ m → Q v H'
theorem ok_attribute (D : Df K mg "_law_attribute" s__law_attribute) (Z : Zs mg) (C__law_draw : C8.Cal P w K mg base 1 "_law_draw" sp_draw []) (C__law_mixed : C8.Cal P w K mg base 2 "_law_mixed" (sp_mixed K) []) :
    C8.Cal P w K mg base 3 "_law_attribute" (sp_attribute K) [] := by
  refine D.cal sc__law_attribute (fun _ _ _ _ _ _ us hl => match us, hl with | [_, _], _ => rfl) (fun vs H Q E ⟨a, m, n, e, _⟩ => by rw [e]; rfl) (fun f cdv A outer s H vs Q E hr h => ?_)
  obtain ⟨a, m, n, rfl, m1, m6, hp, hn, k⟩ := h
  refine ⟨_, (pss_cons (ps_set (i := 2) sc__law_attribute.nd rfl (.inl rfl) (pe_op op_add pe_int (C8.pe_c C__law_draw hr (by decide) (by rfl) (pa_cons (pv 0) (pa_cons (pv 1) pa_nil)))))
      (pss_cons (ps_par (i := 3) (j := 4) rfl sc__law_attribute.nd rfl rfl (by decide) rfl rfl (pa_cons (pv 2) (pa_cons (pe_lst pa_nil) pa_nil)) (by rfl))
      (pss_cons (ps_for PassesOwn.never rfl (pi_range1 (by rfl) Z.z_range (pa_cons (C8.pe_c C__law_draw hr (by decide) (by rfl) (pa_cons (pv 0) (pa_cons pe_int pa_nil))) pa_nil)) (pg_name (i := 5) sc__law_attribute.nd rfl (.inl rfl)) (pss_one (ps_if (pt_cmpR op_gt (pv 3) pe_int (nomark _)) (pss_cons (ps_set (i := 6) sc__law_attribute.nd rfl (.inr rfl) (pe_op op_add pe_int (C8.pe_c C__law_draw hr (by decide) (by rfl) (pa_cons (pv 0) (pa_cons (pe_op op_sub (pv 3) pe_int) pa_nil)))))
      (pss_cons (ps_setLc (i := 7) rfl sc__law_attribute.nd rfl rfl (sw_true rfl rfl rfl (by decide +kernel)) (own := [("_law_place", 8)]) (pi_range1 (by rfl) Z.z_range (pa_cons (pe_op op_sub (pv 3) (pv 6)) pa_nil)) (blkOk_by (own := [("_law_place", 8)]) (N := N__law_attribute) (sc := defScope s__law_attribute) (by decide +kernel)) (fun _ _ _ _ _ => (pg_name (i := 8) sc__law_attribute.nd rfl (.inl rfl))) (fun _ _ _ _ _ => pts_nil) (fun _ _ _ _ _ => (C8.pe_c C__law_draw hr (by decide) (by rfl) (pa_cons (pv 0) (pa_cons (pv 6) pa_nil)))))
      (pss_cons (ps_expr (pe_bm PySem.F.plainAttrs_list PySem.F.slot_list_append PySem.F.type_list_append mt_append (pv 4) (pa_cons (pe_callTy call_tuple_of (by rfl) Z.z_tuple (by decide +kernel) (pa_cons (C8.pe_c C__law_mixed hr (by decide) (by rfl) (pa_cons (pv 0) (pa_cons (pe_op op_cat (pe_listRg rfl (by rfl) Z.z_list (prg_1 (by rfl) Z.z_range (pv 6))) (pv 7)) pa_nil))) pa_nil)) pa_nil)))
      (pss_one (ps_set (i := 3) sc__law_attribute.nd rfl (.inl rfl) (pv 6)))))) pss_nil)))
      (pss_one (ps_ret (pe_tup (pa_cons (pv 2) (pa_cons (pe_callTy call_tuple_of (by rfl) Z.z_tuple (by decide +kernel) (pa_cons (pv 4) pa_nil)) pa_nil)))))))), ?_⟩
  -- many = 1 + draw(pen, most)
  refine ⟨.ref a, rfl, vN m, rfl, a, m, n, rfl, by omega, by omega, hp, by omega, fun H1 d b1 p1 hd => ⟨_, _, rfl, rfl, ?_⟩⟩
  have em : (1 : Int) + (d : Int) = ((d + 1 : Nat) : Int) := by omega
  -- groups, steps = many, []
  refine ⟨_, rfl, Nat.zero_le _, fun st nst => ⟨_, _, rfl, ?_⟩⟩
  have sta : st ≠ a := p1.ne nst
  have nst0 : H st = none := But.back b1 sta nst
  -- for turn in range(draw(pen, 4))
  refine ⟨.ref a, rfl, a, 4, n + 1, rfl, by omega, by omega, p1.upd sta, by omega, fun H2 d4 b2 p2 hd4 => ⟨(d4 : Int), rfl, by omega, by omega, ?_⟩⟩
  have e4 : ((d4 : Int)).toNat = d4 := by omega
  rw [e4]
  have hst2 : H2 st = some (.lst []) := b2 _ _ sta upd_same
  have b12 : But a H H2 := But.trans b1 (But.trans (But.new (But.refl a H1) nst) b2)
  refine for_it walk_range (fun i σ H3 => ∃ (g : Nat) (ss : List (List Nat)) (xs : List V) (y5 y6 y7 y8 : Option V), σ = [some (.ref a), some (vN m), some (vN (d + 1)), some (vN g), some (.ref st), y5, y6, y7, y8] ∧ But a H H3 ∧ Pen H3 a (n + 2 + 20 * i) ∧
      H3 st = some (.lst xs) ∧ DpAll K H3 xs (ss.map eT) ∧ ss.length ≤ i ∧ StepsTo (d + 1) ss g ∧ 1 ≤ g ∧ g ≤ 6)
    ⟨d + 1, [], [], none, none, none, none, ?_, b12, by simpa using p2, hst2, .nil, by simp, rfl, by omega, by omega⟩ (fun _ _ _ _ _ => trivial) (fun i x σ H3 H3' hi hpv y => ?_) (fun σ H3 hpv => ?_)
  · show [some (V.ref a), some (vN m), some (V.int (1 + (d : Int))), some (V.int (1 + (d : Int))), some (V.ref st), none, none, none, none] = _
    rw [em]
  · obtain ⟨g, ss, xs, y5, y6, y7, y8, rfl, b3, p3, hst3, hss, lss, hto, g1, g6⟩ := hpv
    obtain ⟨rfl, rfl⟩ := y
    have i3 : i ≤ 2 := by omega
    -- if groups > 1
    refine ⟨vN g, rfl, _, _, rfl, rfl, _, rfl, ite2 (fun e => ?_) (fun e => ?_)⟩
    · have hg : 1 < g := by
        have := of_decide_eq_true e
        omega
      -- fewer = 1 + draw(pen, groups - 1)
      have eg : ((g : Int) - 1) = ((g - 1 : Nat) : Int) := by omega
      refine ⟨.ref a, rfl, vN g, rfl, _, _, rfl, rfl, a, g - 1, n + 2 + 20 * i, ?_, by omega, by omega, p3, by omega, fun H4 d5 b4 p4 hd5 => ⟨_, _, rfl, rfl, ?_⟩⟩
      · show [V.ref a, V.int ((g : Int) - 1)] = _
        rw [eg]
      have ef : (1 : Int) + (d5 : Int) = ((d5 + 1 : Nat) : Int) := by omega
      have ef2 : (fun i j => V.int (i + j)) (1 : Int) (d5 : Int) = vN (d5 + 1) := by show V.int (1 + (d5 : Int)) = _; rw [ef]
      rw [ef2]
      -- more = [draw(pen, fewer) for place in range(groups - fewer)]
      have er : ((g : Int) - ((d5 + 1 : Nat) : Int)).toNat = g - (d5 + 1) := by omega
      refine ⟨vN g, rfl, vN (d5 + 1), rfl, _, _, rfl, rfl, _, rfl, by omega, by omega, ?_⟩
      rw [er]
      refine fun C nC => ?_
      have Ca : C ≠ a := p4.ne nC
      have hst4 : H4 st = some (.lst xs) := b4 _ _ sta hst3
      have Cst : C ≠ st := (ne_of_none hst4 nC).symm
      refine lc_gen walk_range (by omega) (fun j acc H5 => But a H4 H5 ∧ Pen H5 a (n + 3 + 20 * i + j) ∧ ∃ ks : List Nat, acc = ks.map vN ∧ ∀ x ∈ ks, x < d5 + 1)
        ⟨But.new (But.refl a H4) nC, (p4.upd Ca).mono (by omega), [], rfl, by simp⟩ (fun _ _ _ _ _ => trivial) (fun j x acc H5 H5' K2 hj lacc hC r kk y => ?_) (fun acc H5 lacc hC r => ?_)
      · obtain ⟨b5, p5, ks, rfl, hks⟩ := r
        obtain ⟨rfl, rfl⟩ := y
        refine ⟨rfl, .ref a, rfl, vN (d5 + 1), rfl, a, d5 + 1, n + 3 + 20 * i + j, rfl, by omega, by omega, p5, by omega, fun H6 d6 b6 p6 hd6 => ?_⟩
        refine kk _ _ (b6 _ _ Ca hC) ⟨But.new (But.trans b5 b6) nC, (p6.upd Ca).mono (by omega), ks ++ [d6], by rw [List.map_append]; rfl, fun x hx => ?_⟩
        rcases List.mem_append.mp hx with hx | hx
        · exact hks x hx
        · rw [List.mem_singleton.mp hx]; exact hd6
      · obtain ⟨b5, p5, ks, rfl, hks⟩ := r
        have lks : ks.length = g - (d5 + 1) := by rw [← lacc, List.length_map]
        have hst5 : H5 st = some (.lst xs) := b5 _ _ sta hst4
        -- steps.append(tuple(mixed(pen, list(range(fewer)) + more)))
        refine ⟨.ref st, rfl, .inl ⟨rfl, _, SqL.of hst5⟩, .ref a, rfl, vN (d5 + 1), rfl, _, rfl, RgOk.of_le (by omega) (by omega) (by omega) (by omega), fun q nq => ?_⟩
        have eq1 : rgV 0 ((d5 + 1 : Nat) : Int) = (List.range (d5 + 1)).map vN := by
          unfold rgV
          have e0 : (((d5 + 1 : Nat) : Int) - 0).toNat = d5 + 1 := by omega
          rw [e0]
          refine List.map_congr_left fun i _ => ?_
          show V.int (0 + (i : Int)) = V.int (i : Int)
          rw [Int.zero_add]
        rw [eq1]
        have qa : q ≠ a := p5.ne nq
        have sq : Same H5 (upd H5 q (.lst ((List.range (d5 + 1)).map vN))) := same_new nq
        refine ⟨.ref C, rfl, q, C, _, _, rfl, rfl, upd_same, sq _ _ hC, by rw [List.length_map, List.length_map, List.length_range]; exact Nat.le_of_lt (small (by omega)), fun q2 nq2 => ?_⟩
        have sq2 : Same H5 (upd (upd H5 q (.lst ((List.range (d5 + 1)).map vN))) q2 (.lst ((List.range (d5 + 1)).map vN ++ ks.map vN))) := sq.trans (same_new nq2)
        have q2a : q2 ≠ a := (p5.same sq).ne nq2
        refine ⟨a, q2, List.range (d5 + 1) ++ ks, n + 3 + 20 * i + (g - (d5 + 1)), rfl, SqL.of (by rw [upd_same, List.map_append]), by rw [List.length_append, List.length_range]; omega, (p5.same sq2).mono (by omega), by omega, fun H7 p7 ms b7 pp7 perm np7 hp7 => ?_⟩
        have hst7 : H7 st = some (.lst xs) := b7 _ _ sta (sq2 _ _ hst5)
        have lms : (List.range (d5 + 1) ++ ks).length = g := by rw [List.length_append, List.length_range]; omega
        refine ⟨p7, _, rfl, .inl ⟨SqL.of hp7, fun t7 nt7 => ?_⟩⟩
        have ts : TS H3' (upd H7 t7 (.tup (ms.map vN))) := ((p3.ts (m := 0) b4).trans ((p4.ts (m := 0) b5).trans ((Same.ts sq2).trans ((p5.same sq2).ts (m := 0) b7)))).trans (Same.ts (same_new nt7))
        have t7a : t7 ≠ a := pp7.ne nt7
        have t7st : st ≠ t7 := ne_of_none hst7 nt7
        refine ⟨st, xs, _, rfl, rfl, by rw [upd_ne t7st]; exact hst7, small (by have := DpAll.length hss; rw [List.length_map] at this; omega), ?_⟩
        -- groups = fewer
        obtain ⟨sok, top⟩ := mixed_step (g := g) (f := d5 + 1) (by omega) (by omega) lks hks perm
        refine ⟨vN (d5 + 1), rfl, d5 + 1, ss ++ [ms], xs ++ [.ref t7], _, _, _, _, rfl, ?_, ?_, upd_same, ?_, by rw [List.length_append]; simp; omega, ?_, by omega, by omega⟩
        · have big : But a H H7 := But.trans b3 (But.trans b4 (But.trans b5 (But.trans (Same.but sq2) b7)))
          intro bb o nb hbb
          have : bb ≠ st := ne_of_none hbb nst0
          rw [upd_ne this]
          have h7 := big bb o nb hbb
          rw [upd_ne (ne_of_none h7 nt7)]
          exact h7
        · refine ((pp7.upd t7a).upd sta).mono ?_
          rw [lms]
          omega
        · rw [List.map_append]
          refine DpAll.snoc (dpAll_ts (TS.lst ts hst3) _ _ (tup_eSt ss) hss) (dpT_mk ?_)
          refine SqT.of ?_
          rw [upd_ne t7st.symm]
          exact upd_same
        · rw [← top]
          exact StepsTo.snoc hto sok
    · have hg : g = 1 := by
        have : ¬ ((1 : Int) < (g : Int)) := fun h => e (decide_eq_true h)
        omega
      exact ⟨g, ss, xs, _, y6, y7, y8, rfl, b3, p3.mono (by omega), hst3, hss, by omega, hto, g1, g6⟩
  · obtain ⟨g, ss, xs, y5, y6, y7, y8, rfl, b3, p3, hst3, hss, lss, hto, g1, g6⟩ := hpv
    have lx : xs.length = ss.length := by have := DpAll.length hss; rwa [List.length_map] at this
    -- return (many, tuple(steps))
    refine ⟨vN (d + 1), rfl, .ref st, rfl, st, xs, rfl, .inl ⟨SqL.of hst3, fun t1 nt1 => ⟨(by decide : 2 ≤ sizeLine), fun t2 nt2 => ?_⟩⟩⟩
    have s1 : Same H3 (upd H3 t1 (.tup xs)) := same_new nt1
    have s2 : Same H3 (upd (upd H3 t1 (.tup xs)) t2 (.tup [vN (d + 1), .ref t1])) := s1.trans (same_new nt2)
    have t12 : t1 ≠ t2 := ne_of_none upd_same nt2
    refine k _ _ (d + 1, ss) (But.trans b3 (Same.but s2)) ((p3.same s2).mono (by omega)) ?_ ⟨by omega, by omega, by show ss.length ≤ 3; omega, hto.ok⟩ (by show d + 1 ≤ m; omega)
    refine .tup (SqT.of upd_same) (.cons (.int _) (.cons (.tup (SqT.of ?_) (dpAll_ts (Same.ts s2) _ _ (tup_eSt ss) hss)) .nil))
    rw [upd_ne t12]
    exact upd_same
end
end RL
namespace RL
open PySem PySem.Spec PyProof.Rows L2
section
variable {P : Program} {w : World} {K : PySem.W.Frag} {mg : Str → Option Value} {base : Heap}
/-! ### a drawn scheme -/
def sp_scheme (K : PySem.W.Frag) : Sp := fun vs H Q _ => ∃ (a : Addr) (n : Nat), vs = [.ref a] ∧ Pen H a n ∧ n ≤ 700000 ∧
  ∀ (H' : Hp) (v : V) (S : List Att), But a H H' → Pen H' a (n + 400) → Dp K H' v (eS S) → SchOk S → Q v H'
def mostsL : List (List Nat) := [[6], [6, 6], [4, 6], [3, 3, 3], [6, 3, 3], [2, 4, 4], [6, 5, 2]]
theorem mosts_ok : ∀ ms ∈ mostsL, 1 ≤ ms.length ∧ ms.length ≤ 3 ∧ (∀ m ∈ ms, 1 ≤ m ∧ m ≤ 6) ∧ prodN ms ≤ 60 := by decide
theorem prod_le {S : List Att} {at1 : Att} {ms : List Nat} {m : Nat} (h : prodN (S.map (·.1)) ≤ prodN ms) (h1 : at1.1 ≤ m) : prodN ((S ++ [at1]).map (·.1)) ≤ prodN (ms ++ [m]) := by
  rw [List.map_append]
  show prodN (S.map (·.1) ++ [at1.1]) ≤ _
  rw [prodN_snoc, prodN_snoc]
  exact Nat.mul_le_mul h h1
theorem ok_scheme (D : Df K mg "_law_scheme" s__law_scheme) (Z : Zs mg) (C__law_pick : C8.Cal P w K mg base 2 "_law_pick" (sp_pick K) []) (C__law_attribute : C8.Cal P w K mg base 3 "_law_attribute" (sp_attribute K) []) :
    C8.Cal P w K mg base 4 "_law_scheme" (sp_scheme K) [] := by
  refine D.cal sc__law_scheme (fun _ _ _ _ _ _ us hl => match us, hl with | [_], _ => rfl) (fun vs H Q E ⟨a, n, e, _⟩ => by rw [e]; rfl) (fun f cdv A outer s H vs Q E hr h => ?_)
  obtain ⟨a, n, rfl, hp, hn, k⟩ := h
  refine ⟨_, (pss_cons (ps_set (i := 1) sc__law_scheme.nd rfl (.inl rfl) (C8.pe_c C__law_pick hr (by decide) (by rfl) (pa_cons (pv 0) (pa_cons (pe_lst (pa_cons (pe_lst (pa_cons pe_int pa_nil)) (pa_cons (pe_lst (pa_cons pe_int (pa_cons pe_int pa_nil))) (pa_cons (pe_lst (pa_cons pe_int (pa_cons pe_int pa_nil))) (pa_cons (pe_lst (pa_cons pe_int (pa_cons pe_int (pa_cons pe_int pa_nil)))) (pa_cons (pe_lst (pa_cons pe_int (pa_cons pe_int (pa_cons pe_int pa_nil)))) (pa_cons (pe_lst (pa_cons pe_int (pa_cons pe_int (pa_cons pe_int pa_nil)))) (pa_cons (pe_lst (pa_cons pe_int (pa_cons pe_int (pa_cons pe_int pa_nil)))) pa_nil)))))))) pa_nil))))
      (pss_one (ps_ret (pe_callTy call_tuple_of (by rfl) Z.z_tuple (by decide +kernel) (pa_cons (pe_lc (own := [("_law_most", 2)]) rfl sc__law_scheme.nd (pi_list (pv 1)) (blkOk_by (own := [("_law_most", 2)]) (N := N__law_scheme) (sc := defScope s__law_scheme) (by decide +kernel)) (fun _ _ _ _ _ => (pg_name (i := 2) sc__law_scheme.nd rfl (.inl rfl))) (fun _ _ _ _ _ => pts_nil) (fun _ _ _ _ _ => (C8.pe_c C__law_attribute hr (by decide) (by rfl) (pa_cons (pv 0) (pa_cons (pv 2) pa_nil))))) pa_nil))))), ?_⟩
  refine ⟨.ref a, rfl, (by decide : 1 ≤ sizeLine), fun c1 n1 => ⟨(by decide : 2 ≤ sizeLine), fun c2 n2 => ⟨(by decide : 2 ≤ sizeLine), fun c3 n3 => ⟨(by decide : 3 ≤ sizeLine), fun c4 n4 => ⟨(by decide : 3 ≤ sizeLine), fun c5 n5 =>
    ⟨(by decide : 3 ≤ sizeLine), fun c6 n6 => ⟨(by decide : 3 ≤ sizeLine), fun c7 n7 => ⟨(by decide : 7 ≤ sizeLine), fun c8 n8 => ?_⟩⟩⟩⟩⟩⟩⟩⟩
  -- the heap with the eight lists
  have s8 := same_new (o := .lst [.ref c1, .ref c2, .ref c3, .ref c4, .ref c5, .ref c6, .ref c7]) n8
  have s7 := (same_new (o := .lst ([6, 5, 2].map vN)) n7).trans s8
  have s6 := (same_new (o := .lst ([2, 4, 4].map vN)) n6).trans s7
  have s5 := (same_new (o := .lst ([6, 3, 3].map vN)) n5).trans s6
  have s4 := (same_new (o := .lst ([3, 3, 3].map vN)) n4).trans s5
  have s3 := (same_new (o := .lst ([4, 6].map vN)) n3).trans s4
  have s2 := (same_new (o := .lst ([6, 6].map vN)) n2).trans s3
  have s1 := (same_new (o := .lst ([6].map vN)) n1).trans s2
  have g1 := s2 _ _ (upd_same (H := H) (a := c1) (o := .lst ([6].map vN)))
  have g2 := s3 _ _ (upd_same (a := c2) (o := .lst ([6, 6].map vN)))
  have g3 := s4 _ _ (upd_same (a := c3) (o := .lst ([4, 6].map vN)))
  have g4 := s5 _ _ (upd_same (a := c4) (o := .lst ([3, 3, 3].map vN)))
  have g5 := s6 _ _ (upd_same (a := c5) (o := .lst ([6, 3, 3].map vN)))
  have g6 := s7 _ _ (upd_same (a := c6) (o := .lst ([2, 4, 4].map vN)))
  have g7 := s8 _ _ (upd_same (a := c7) (o := .lst ([6, 5, 2].map vN)))
  have q1 := hp.same s1
  have ne : ∀ {x : Addr}, H x = none → x ≠ a := fun hx => hp.ne hx
  have f1 := n1
  have f2 := (same_new (o := .lst ([6].map vN)) n1).free n2
  have s12 := (same_new (o := .lst ([6].map vN)) n1).trans (same_new (o := .lst ([6, 6].map vN)) n2)
  have f3 := s12.free n3
  have s13 := s12.trans (same_new (o := .lst ([4, 6].map vN)) n3)
  have f4 := s13.free n4
  have s14 := s13.trans (same_new (o := .lst ([3, 3, 3].map vN)) n4)
  have f5 := s14.free n5
  have s15 := s14.trans (same_new (o := .lst ([6, 3, 3].map vN)) n5)
  have f6 := s15.free n6
  have s16 := s15.trans (same_new (o := .lst ([2, 4, 4].map vN)) n6)
  have f7 := s16.free n7
  have s17 := s16.trans (same_new (o := .lst ([6, 5, 2].map vN)) n7)
  have f8 := s17.free n8
  refine ⟨a, c8, [.ref c1, .ref c2, .ref c3, .ref c4, .ref c5, .ref c6, .ref c7], n, rfl, SqL.of upd_same, ne f8, by simp, by simp, q1, by omega, fun H2 d x b2 p2 hx => ?_⟩
  have pick : ∃ (c : Addr) (ms : List Nat), x = .ref c ∧ ms ∈ mostsL ∧ c ≠ a ∧ H2 c = some (.lst (ms.map vN)) := by
    match d, hx with
    | 0, hx => exact ⟨c1, [6], (Option.some.inj hx).symm, by decide, ne f1, b2 _ _ (ne f1) g1⟩
    | 1, hx => exact ⟨c2, [6, 6], (Option.some.inj hx).symm, by decide, ne f2, b2 _ _ (ne f2) g2⟩
    | 2, hx => exact ⟨c3, [4, 6], (Option.some.inj hx).symm, by decide, ne f3, b2 _ _ (ne f3) g3⟩
    | 3, hx => exact ⟨c4, [3, 3, 3], (Option.some.inj hx).symm, by decide, ne f4, b2 _ _ (ne f4) g4⟩
    | 4, hx => exact ⟨c5, [6, 3, 3], (Option.some.inj hx).symm, by decide, ne f5, b2 _ _ (ne f5) g5⟩
    | 5, hx => exact ⟨c6, [2, 4, 4], (Option.some.inj hx).symm, by decide, ne f6, b2 _ _ (ne f6) g6⟩
    | 6, hx => exact ⟨c7, [6, 5, 2], (Option.some.inj hx).symm, by decide, ne f7, b2 _ _ (ne f7) g7⟩
    | d + 7, hx => simp at hx
  obtain ⟨c, ms, rfl, hms, ca, hc⟩ := pick
  obtain ⟨l1, l3, hm, hpr⟩ := mosts_ok ms hms
  have b12 : But a H H2 := But.trans (Same.but s1) b2
  -- tuple([attribute(pen, most) for most in mosts])
  refine ⟨.ref c, rfl, c, rfl, ⟨_, SqL.of hc⟩, fun C nC => ?_⟩
  have Ca : C ≠ a := p2.ne nC
  have Cc : C ≠ c := (ne_of_none hc nC).symm
  have nC0 : H C = none := But.back b12 Ca nC
  refine lc_gen (walk_list (xs := ms.map vN)) (by rw [List.length_map]; omega) (fun i acc H3 => But a H2 H3 ∧ Pen H3 a (n + 1 + 100 * i) ∧ ∃ S : List Att, DpAll K H3 acc (S.map eA) ∧ S.length = i ∧ (∀ x ∈ S, AttOk x) ∧ prodN (S.map (·.1)) ≤ prodN (ms.take i))
    ⟨But.new (But.refl a H2) nC, p2.upd Ca, [], .nil, rfl, by simp, by simp [prodN]⟩ (fun i acc H3 _ r => But.seq r.1 ca (SqL.of hc)) (fun i x acc H3 H3' K2 hi lacc hC r kk y => ?_) (fun acc H3 lacc hC r => ?_)
  · obtain ⟨b3, p3, S, hS, lS, hat, hpS⟩ := r
    obtain ⟨rfl, hx⟩ := y
    obtain ⟨m, hm', rfl⟩ := get_map hx
    have hmm := hm m (List.mem_of_getElem? hm')
    rw [List.length_map] at hi
    refine ⟨rfl, .ref a, rfl, vN m, rfl, a, m, n + 1 + 100 * i, rfl, hmm.1, hmm.2, p3, by omega, fun H4 v at1 b4 p4 dv aok ale => ?_⟩
    have t4 : TS H3' H4 := p3.ts (m := 0) b4
    have hC4 : H4 C = some (.lst acc) := b4 _ _ Ca hC
    have t5 : TS H4 (upd H4 C (.lst (acc ++ [v]))) := TS.lst (TS.refl H4) hC4
    refine kk v H4 hC4 ⟨But.new (But.trans b3 b4) nC, (p4.upd Ca).mono (by omega), S ++ [at1], ?_, by rw [List.length_append, lS]; rfl, fun x hx => ?_, ?_⟩
    · rw [List.map_append]
      exact DpAll.snoc (dpAll_ts (t4.trans t5) _ _ (tup_eS S) hS) (dpA_ts t5 dv)
    · rcases List.mem_append.mp hx with hx | hx
      · exact hat x hx
      · rw [List.mem_singleton.mp hx]; exact aok
    · rw [List.take_add_one, hm', Option.toList_some]
      exact prod_le hpS ale
  · obtain ⟨b3, p3, S, hS, lS, hat, hpS⟩ := r
    rw [List.length_map] at lS hpS p3
    rw [List.take_length] at hpS
    refine ⟨C, acc, rfl, .inl ⟨SqL.of hC, fun t nt => ?_⟩⟩
    have s3 : Same H3 (upd H3 t (.tup acc)) := same_new nt
    refine k _ _ S (But.trans b12 (But.trans b3 (Same.but s3))) ((p3.same s3).mono (by omega)) ?_ ⟨by omega, by omega, hat, by omega⟩
    exact .tup (SqT.of upd_same) (dpAll_ts (Same.ts s3) _ _ (tup_eS S) hS)
/-! ### a drawn rollup -/
def sp_rollup (K : PySem.W.Frag) : Sp := fun vs H Q _ => ∃ (a : Addr) (n : Nat) (v : V) (S : List Att), vs = [.ref a, v] ∧ Pen H a n ∧ n ≤ 900000 ∧ Dp K H v (eS S) ∧ S.length ≤ 3 ∧ (∀ x ∈ S, AttOk x) ∧
  ∀ (H' : Hp) (u : V) (r : List Nat), But a H H' → Pen H' a (n + 3) → Dp K H' u (eT r) → RollOk S r → Q u H'
theorem ok_rollup (D : Df K mg "_law_rollup" s__law_rollup) (Z : Zs mg) (C__law_draw : C8.Cal P w K mg base 1 "_law_draw" sp_draw []) : C8.Cal P w K mg base 2 "_law_rollup" (sp_rollup K) [] := by
  refine D.cal sc__law_rollup (fun _ _ _ _ _ _ us hl => match us, hl with | [_, _], _ => rfl) (fun vs H Q E ⟨a, n, v, S, e, _⟩ => by rw [e]; rfl) (fun f cdv A outer s H vs Q E hr h => ?_)
  obtain ⟨a, n, v, S, rfl, hp, hn, hD, l3, hat, k⟩ := h
  obtain ⟨b, xs, rfl, hS, hA⟩ := dpS hD
  have hlen : xs.length = S.length := by rw [(DpAll.length hA), List.length_map]
  refine ⟨_, (pss_one (ps_ret (pe_callTy call_tuple_of (by rfl) Z.z_tuple (by decide +kernel) (pa_cons (pe_lc (own := [("_law_attribute_here", 2)]) rfl sc__law_rollup.nd (pi_tup (pv 1)) (blkOk_by (own := [("_law_attribute_here", 2)]) (N := N__law_rollup) (sc := defScope s__law_rollup) (by decide +kernel)) (fun _ _ _ _ _ => (pg_name (i := 2) sc__law_rollup.nd rfl (.inl rfl))) (fun _ _ _ _ _ => pts_nil) (fun _ _ _ _ _ => (C8.pe_c C__law_draw hr (by decide) (by rfl) (pa_cons (pv 0) (pa_cons (pe_op op_add (pe_callB (call_lenK (K := K) rfl) (by rfl) Z.z_len PySem.boot_len (pa_cons (pe_ix (ixK (K := K) (r := rIxT) rfl ix_tup) (pv 2) pe_int (fun _ _ => rfl)) pa_nil)) pe_int) pa_nil))))) pa_nil)))), ?_⟩
  refine ⟨.ref b, rfl, b, rfl, ⟨_, hS⟩, fun C nC => ?_⟩
  have Ca : C ≠ a := hp.ne nC
  refine lc_gen (walk_tup (xs := xs)) (by omega) (fun i acc H3 => But a H H3 ∧ Pen H3 a (n + i) ∧ TS H H3 ∧ ∃ r : List Nat, acc = r.map vN ∧ r.length = i ∧ ∀ (j : Nat) (x : Att) (l : Nat), S[j]? = some x → r[j]? = some l → l < x.2.length + 1)
    ⟨But.new (But.refl a H) nC, hp.upd Ca, Same.ts (same_new nC), [], rfl, rfl, by simp⟩ (fun i acc H3 _ r => r.2.2.1.sq hS) (fun i x acc H3 H3' K2 hi lacc hC r kk y => ?_) (fun acc H3 lacc hC r => ?_)
  · obtain ⟨b3, p3, t3, r, rfl, lr, hr'⟩ := r
    obtain ⟨rfl, hx⟩ := y
    obtain ⟨d, hd, dx⟩ := DpAll.get (dpAll_ts t3 _ _ (tup_eS S) hA) hx
    obtain ⟨at1, ha1, rfl⟩ := get_map hd
    obtain ⟨p, z, rfl, hp1, dz⟩ := dpA dx
    obtain ⟨b', ys, rfl, hb', hB⟩ := dpSt dz
    have lys : ys.length = at1.2.length := by rw [(DpAll.length hB), List.length_map]
    have a3 := (hat at1 (List.mem_of_getElem? ha1)).2.2.1
    refine ⟨rfl, .ref a, rfl, .ref p, rfl, p, _, _, _, rfl, rfl, hp1, atI_nat (j := 1) rfl, b', ys, rfl, .inr hb', _, _, rfl, rfl, a, at1.2.length + 1, n + i, ?_, by omega, by omega, p3, by omega, fun H4 d4 b4 p4 hd4 => ?_⟩
    · show [V.ref a, V.int ((ys.length : Int) + 1)] = [V.ref a, V.int ((at1.2.length + 1 : Nat) : Int)]
      rw [lys]
      rfl
    have hC4 := b4 _ _ Ca hC
    have t4 : TS H3' H4 := p3.ts (m := 0) b4
    refine kk _ _ hC4 ⟨But.new (But.trans b3 b4) nC, (p4.upd Ca).mono (by omega), t3.trans (t4.trans (TS.lst (TS.refl H4) hC4)), r ++ [d4], by rw [List.map_append]; rfl, by rw [List.length_append, lr]; rfl, fun j x l hj hl => ?_⟩
    by_cases hji : j < r.length
    · rw [List.getElem?_append_left hji] at hl
      exact hr' j x l hj hl
    · rw [List.getElem?_append_right (by omega)] at hl
      have e0 : j - r.length = 0 := by
        cases hz : j - r.length with
        | zero => rfl
        | succ z => rw [hz] at hl; simp at hl
      rw [e0] at hl
      have el : d4 = l := Option.some.inj hl
      have ej : j = i := by omega
      subst ej
      rw [ha1] at hj
      have ex : at1 = x := Option.some.inj hj
      rw [← el, ← ex]
      exact hd4
  · obtain ⟨b3, p3, t3, r, rfl, lr, hr'⟩ := r
    refine ⟨C, _, rfl, .inl ⟨SqL.of hC, fun t nt => ?_⟩⟩
    have s3 : Same H3 (upd H3 t (.tup (r.map vN))) := same_new nt
    exact k _ _ r (But.trans b3 (Same.but s3)) ((p3.same s3).mono (by omega)) (dpT_mk (SqT.of upd_same)) ⟨by omega, hr'⟩
end
end RL
namespace RL
open PySem PySem.Spec PyProof.Rows L2
section
variable {P : Program} {w : World} {K : PySem.W.Frag} {mg : Str → Option Value} {base : Heap}
/-! ### the law's own is_fine -/
def sp_law_is_fine (K : PySem.W.Frag) : Sp := fun vs H Q _ => ∃ (a b : Addr) (r t : List Nat), vs = [.ref a, .ref b] ∧ SqT K H a (r.map vN) ∧ SqT K H b (t.map vN) ∧ r.length = t.length ∧ r.length ≤ 100 ∧ ret H (.bl (leAll r t)) Q
theorem eqv_rep (c : Nat) : PyData.eqv (.list ((List.replicate c (1 : Int)).map PyData.int)) (.list []) = decide (c = 0) := by
  cases c with
  | zero => rfl
  | succ c => rfl
theorem ok_law_is_fine (D : Df K mg "_law_is_fine" s__law_is_fine) (Z : Zs mg) : C8.Cal P w K mg base 1 "_law_is_fine" (sp_law_is_fine K) [] := by
  refine D.cal sc__law_is_fine (fun _ _ _ _ _ _ us hl => match us, hl with | [_, _], _ => rfl) (fun vs H Q E ⟨a, b, r, t, e, _⟩ => by rw [e]; rfl) (fun f cdv A outer s H vs Q E hr h => ?_)
  obtain ⟨a, b, r, t, rfl, hR, hT, hl, hz, q⟩ := h
  refine ⟨_, (pss_one (ps_ret (pe_cmpR (op_eqD hr.units) (pe_lc (own := [("_law_level", 2), ("_law_its", 3)]) (g := (gTup K 2 (gCons (gName 2) (gCons (gName 3) gNil)))) rfl sc__law_is_fine.nd (RZ.pi_zipA (by rfl) Z.z_zip (pa_cons (pv 0) (pa_cons (pv 1) pa_nil))) (blkOk_by (own := [("_law_level", 2), ("_law_its", 3)]) (N := N__law_is_fine) (sc := defScope s__law_is_fine) (by decide +kernel)) (fun _ _ _ _ _ => (pg_tup rfl (pgs_cons (pg_name (i := 2) sc__law_is_fine.nd rfl (.inl rfl)) (pgs_cons (pg_name (i := 3) sc__law_is_fine.nd rfl (.inl rfl)) pgs_nil)))) (fun _ _ _ _ _ => (pts_one (pt_cmpR op_gt (pv 2) (pv 3) (nomark _)))) (fun _ _ _ _ _ => pe_int)) (pe_lst pa_nil) (nomark _)))), ?_⟩
  refine ⟨.ref a, rfl, .ref b, rfl, a, b, _, _, rfl, .inr ⟨hR, hT, fun D hD => ?_⟩⟩
  refine lc_it (walk_zipT (xs := r.map vN) (ys := t.map vN) (by rw [List.length_map, List.length_map, hl])) (fun i H' => Same H H' ∧ ∃ c : Nat, H' D = some (.lst ((List.replicate c (1 : Int)).map V.int)) ∧ c ≤ i ∧ (c = 0 ↔ ∀ j < i, r.getD j 0 ≤ t.getD j 0))
    ⟨same_new hD, 0, upd_same, Nat.le_refl _, by simp⟩ (fun i H' _ p => ⟨Same.sqT p.1 hR, Same.sqT p.1 hT⟩) (fun i x H' H2 hi hp y => ?_) (fun H' hp => ?_)
  · obtain ⟨e, c, hc, lc, iff⟩ := hp
    obtain ⟨T, x1, x2, rfl, nT, rfl, hx, hy⟩ := y
    obtain ⟨n, hn, rfl⟩ := get_map hx
    obtain ⟨m, hm, rfl⟩ := get_map hy
    have sT : Same H' (upd H' T (.tup [vN n, vN m])) := same_new nT
    rw [List.length_map] at hi
    refine ⟨T, _, rfl, SqT.of upd_same, rfl, _, _, rfl, _, _, rfl, rfl, rfl, ?_⟩
    refine ⟨_, rfl, _, rfl, _, _, rfl, rfl, _, rfl, ite2 (fun hgt => ?_) (fun hgt => ?_)⟩
    · have lt : m < n := by have := of_decide_eq_true hgt; omega
      refine ⟨_, sT _ _ hc, small (by rw [List.length_map, List.length_replicate]; omega), Same.mut (e.trans sT) hD, c + 1, ?_, by omega, ?_⟩
      · rw [upd_same, List.replicate_succ', List.map_append]
        rfl
      · constructor
        · intro h; omega
        · intro h
          have := h i (by omega)
          rw [getD_of hn, getD_of hm] at this
          omega
    · have le : n ≤ m := by
        have : ¬ ((m : Int) < (n : Int)) := fun h => hgt (decide_eq_true h)
        omega
      refine ⟨e.trans sT, c, sT _ _ hc, by omega, ?_⟩
      rw [iff]
      constructor
      · intro h j hj
        by_cases hji : j = i
        · subst hji
          rw [getD_of hn, getD_of hm]
          exact le
        · exact h j (by omega)
      · exact fun h j hj => h j (by omega)
  · obtain ⟨e, c, hc, lc, iff⟩ := hp
    rw [List.length_map] at lc iff
    refine ⟨Nat.zero_le _, fun z nz => ?_⟩
    have sz : Same H' (upd H' z (.lst [])) := same_new nz
    refine ⟨.list ((List.replicate c (1 : Int)).map PyData.int), .list [], .lst (SqL.of (sz _ _ hc)) (dpI_mk _), .lst (SqL.of upd_same) .nil, (listD_ok _).1, (listD_ok []).1, ?_⟩
    rw [eqv_rep]
    have el : decide (c = 0) = leAll r t := by
      unfold leAll
      rw [Bool.eq_iff_iff, decide_eq_true_eq, List.all_eq_true, iff]
      constructor
      · intro h x hx
        exact decide_eq_true (h x (List.mem_range.mp hx))
      · intro h j hj
        exact of_decide_eq_true (h j (List.mem_range.mpr hj))
    rw [el]
    exact q _ (e.trans sz)
/-! ### the same by their texts -/
def sp_same (K : PySem.W.Frag) : Sp := fun vs H Q _ => ∃ (x y : V) (d : PyData), vs = [x, y] ∧ Dp K H x d ∧ Dp K H y d ∧ isDisplay d = true ∧ d.showable = true ∧ d.hasDict = false ∧ d.depth ≤ 50 ∧ d.shown.length ≤ sizeLine ∧ ret H (.bl true) Q
structure SameG (P : Program) (w : World) (K : PySem.W.Frag) (mg : Str → Option Value) (base : Heap) (f : Addr) (fd : FuncData) : Prop where
  G : FnG P w K mg base 1 f fd ["_law_actual", "_law_due"] (sp_same K)
  g : mg "_law_same" = some (.ref f)
  k : PySem.W.keepIn K (.ref f) = true
  b : Binds K fd ["_law_actual", "_law_due"] []
theorem ok_same (D : Df K mg "_law_same" s__law_same) (Z : Zs mg) : ∃ f fd, SameG P w K mg base f fd := by
  obtain ⟨f, fd, F, g⟩ := D.ex
  refine ⟨f, fd, ?_, g, F.kp, F.binds (fun _ _ _ _ _ _ us hl => match us, hl with | [_, _], _ => rfl)⟩
  refine fnG F sc__law_same (fun vs H Q E ⟨x, y, d, e, _⟩ => by rw [e]; rfl) (fun cdv A outer s H vs Q E gd0 hr h => ?_)
  obtain ⟨x, y, d, rfl, hx, hy, i1, i2, i3, i4, i5, q⟩ := h
  have gd := guards_deeper (env := envOfC "_law_same" (defScope s__law_same) s.heap.objs.size f cdv) gd0
  refine ⟨_, (pss_one (ps_ret (pe_cmpR op_eq (pe_callB (call_repr gd hr.units) (by rfl) Z.z_repr (by decide +kernel) (pa_cons (pv 0) pa_nil)) (pe_callB (call_repr gd hr.units) (by rfl) Z.z_repr (by decide +kernel) (pa_cons (pv 1) pa_nil)) (nomark _)))), ?_⟩
  exact ⟨x, rfl, x, d, rfl, hx, i1, i2, i3, i4, i5, y, rfl, y, d, rfl, hy, i1, i2, i3, i4, i5, rfl, qT rfl (q H (Same.refl H))⟩
end
end RL
namespace RL
open PySem PySem.Spec PyProof.Rows L2
section
variable {P : Program} {w : World} {K : PySem.W.Frag} {mg : Str → Option Value} {base : Heap}
/-! ### the law -/
theorem minL_len (r t : List Nat) : (minL r t).length = r.length := by unfold minL; rw [List.length_map, List.length_range]
theorem maxL_len (r t : List Nat) : (maxL r t).length = r.length := by unfold maxL; rw [List.length_map, List.length_range]
theorem roll_small {S : List Att} {r : List Nat} (hS : SchOk S) (h : RollOk S r) : ∀ n ∈ r, n ≤ 3 := by
  intro n hn
  obtain ⟨i, hi⟩ := List.mem_iff_getElem?.mp hn
  have hlt : i < r.length := (List.getElem?_eq_some_iff.mp hi).1
  have hs : i < S.length := by rw [← h.1]; exact hlt
  have := h.2 i S[i] n (List.getElem?_eq_getElem hs) hi
  have a3 := (hS.2.2.1 S[i] (List.getElem_mem hs)).2.2.1
  omega
theorem getD_small {r : List Nat} (h : ∀ n ∈ r, n ≤ 3) (i : Nat) : r.getD i 0 ≤ 3 := by
  rw [List.getD_eq_getElem?_getD]
  cases e : r[i]? with
  | none => exact Nat.zero_le _
  | some n => exact h n (List.mem_of_getElem? e)
theorem fits3 {b : Bool} {r t : List Nat} (lr : r.length ≤ 3) (hr : ∀ n ∈ r, n ≤ 3) (ht : ∀ n ∈ t, n ≤ 3) : Fits (.list [.bool b, eT (minL r t), eT (maxL r t)]) := by
  have s1 : ∀ n ∈ minL r t, n < 2 ^ 30 := fun n hn => by
    obtain ⟨i, _, rfl⟩ := List.mem_map.mp hn
    have := getD_small hr i
    omega
  have s2 : ∀ n ∈ maxL r t, n < 2 ^ 30 := fun n hn => by
    obtain ⟨i, _, rfl⟩ := List.mem_map.mp hn
    have := getD_small hr i
    have := getD_small ht i
    omega
  obtain ⟨a1, a2⟩ := plain_eT s1
  obtain ⟨b1, b2⟩ := plain_eT s2
  refine .of rfl ?_ ?_ ?_
  · show (true && (plainAll ((minL r t).map eN) && (plainAll ((maxL r t).map eN) && true))) = true
    rw [a1, b1]
    rfl
  · show max 0 (max (eT (minL r t)).depth (max (eT (maxL r t)).depth 0)) + 1 ≤ 50
    rw [depth_eT, depth_eT]
    decide
  · show 5 + 2 + ((wtAll ((minL r t).map eN) + 3) + 2 + ((wtAll ((maxL r t).map eN) + 3) + 2 + 0)) + 3 ≤ 1000000
    rw [minL_len] at a2
    rw [maxL_len] at b2
    omega
def sp_law (K : PySem.W.Frag) : Sp := fun vs H Q _ => ∃ (a : Addr) (ns : List Int), vs = [.ref a] ∧ SqL K H a (ns.map V.int) ∧ ∀ H', Q (.bl true) H'
theorem ok_law {f : Addr} {fd : FuncData} (F : Fun K "law" "law" s_law f fd) (Z : Zs mg) {f_s : Addr} {fd_s : FuncData} (SG : SameG P w K mg base f_s fd_s)
    (C__law_cell_at : C8.Cal P w K mg base 1 "_law_cell_at" (sp_cell_at K) []) (C__law_pen : C8.Cal P w K mg base 1 "_law_pen" sp_pen []) (C__law_scheme : C8.Cal P w K mg base 4 "_law_scheme" (sp_scheme K) [])
    (C__law_rollup : C8.Cal P w K mg base 2 "_law_rollup" (sp_rollup K) []) (C__law_is_fine : C8.Cal P w K mg base 1 "_law_is_fine" (sp_law_is_fine K) [])
    (C_is_fine : C8.Cal P w K mg base 10 "is_fine" (sp_is_fine K) []) (C_finer : C8.Cal P w K mg base 10 "finer" (sp_finer K) []) (C_coarser : C8.Cal P w K mg base 10 "coarser" (sp_coarser K) []) :
    FnG P w K mg base 20 f fd ["_law_script"] (sp_law K) := by
  have G__law_same := SG.G
  have g__law_same := SG.g
  have k__law_same := SG.k
  have b__law_same := SG.b
  refine fnG F sc_law (fun vs H Q E ⟨a, ns, e, _⟩ => by rw [e]; rfl) (fun cdv A outer s H vs Q E gd0 hr h => ?_)
  obtain ⟨a, ns, rfl, hS, q⟩ := h
  have gd := guards_deeper (env := envOfC "law" (defScope s_law) s.heap.objs.size f cdv) gd0
  refine ⟨_, (pss_cons (ps_for PassesOwn.never rfl (pi_range1 (by rfl) Z.z_range (pa_cons (pe_callB (call_max2 rfl) (by rfl) Z.z_max (by decide +kernel) (pa_cons pe_int (pa_cons (pe_callB (call_min2 rfl) (by rfl) Z.z_min (by decide +kernel) (pa_cons (pe_callB call_len_seq (by rfl) Z.z_len PySem.boot_len (pa_cons (pv 0) pa_nil)) (pa_cons pe_int pa_nil))) pa_nil))) pa_nil)) (pg_name (i := 1) sc_law.nd rfl (.inl rfl)) (pss_cons (ps_set (i := 2) sc_law.nd rfl (.inl rfl) (C8.pe_c C__law_pen hr (by decide) (by rfl) (pa_cons (C8.pe_c C__law_cell_at hr (by decide) (by rfl) (pa_cons (pv 0) (pa_cons (pv 1) pa_nil))) pa_nil)))
      (pss_one (ps_for PassesOwn.never rfl (pi_range1 (by rfl) Z.z_range (pa_cons pe_int pa_nil)) (pg_name (i := 3) sc_law.nd rfl (.inl rfl)) (pss_cons (ps_set (i := 4) sc_law.nd rfl (.inl rfl) (C8.pe_c C__law_scheme hr (by decide) (by rfl) (pa_cons (pv 2) pa_nil)))
      (pss_one (ps_for PassesOwn.never rfl (pi_range1 (by rfl) Z.z_range (pa_cons pe_int pa_nil)) (pg_name (i := 5) sc_law.nd rfl (.inl rfl)) (pss_cons (ps_par (i := 6) (j := 7) rfl sc_law.nd rfl rfl (by decide) rfl rfl (pa_cons (C8.pe_c C__law_rollup hr (by decide) (by rfl) (pa_cons (pv 2) (pa_cons (pv 4) pa_nil))) (pa_cons (C8.pe_c C__law_rollup hr (by decide) (by rfl) (pa_cons (pv 2) (pa_cons (pv 4) pa_nil))) pa_nil)) (by rfl))
      (pss_cons (ps_set (i := 8) sc_law.nd rfl (.inl rfl) (pe_callTy call_tuple_of (by rfl) Z.z_tuple (by decide +kernel) (pa_cons (pe_lc (own := [("_law_level", 13), ("_law_its", 14)]) (g := (gTup K 2 (gCons (gName 13) (gCons (gName 14) gNil)))) rfl sc_law.nd (RZ.pi_zipA (by rfl) Z.z_zip (pa_cons (pv 6) (pa_cons (pv 7) pa_nil))) (blkOk_by (own := [("_law_level", 13), ("_law_its", 14)]) (N := N_law) (sc := defScope s_law) (by decide +kernel)) (fun _ _ _ _ _ => (pg_tup rfl (pgs_cons (pg_name (i := 13) sc_law.nd rfl (.inl rfl)) (pgs_cons (pg_name (i := 14) sc_law.nd rfl (.inl rfl)) pgs_nil)))) (fun _ _ _ _ _ => pts_nil) (fun _ _ _ _ _ => (pe_ix (ixK (K := K) (r := rIxL) rfl ix_list) (pe_lst (pa_cons (pv 13) (pa_cons (pv 14) pa_nil))) (pe_callTy call_int1 (by rfl) Z.z_int (by decide +kernel) (pa_cons (pe_cmpR op_lt (pv 14) (pv 13) (nomark _)) pa_nil)) (fun _ _ => rfl)))) pa_nil)))
      (pss_cons (ps_set (i := 9) sc_law.nd rfl (.inl rfl) (pe_callTy call_tuple_of (by rfl) Z.z_tuple (by decide +kernel) (pa_cons (pe_lc (own := [("_law_level", 13), ("_law_its", 14)]) (g := (gTup K 2 (gCons (gName 13) (gCons (gName 14) gNil)))) rfl sc_law.nd (RZ.pi_zipA (by rfl) Z.z_zip (pa_cons (pv 6) (pa_cons (pv 7) pa_nil))) (blkOk_by (own := [("_law_level", 13), ("_law_its", 14)]) (N := N_law) (sc := defScope s_law) (by decide +kernel)) (fun _ _ _ _ _ => (pg_tup rfl (pgs_cons (pg_name (i := 13) sc_law.nd rfl (.inl rfl)) (pgs_cons (pg_name (i := 14) sc_law.nd rfl (.inl rfl)) pgs_nil)))) (fun _ _ _ _ _ => pts_nil) (fun _ _ _ _ _ => (pe_ix (ixK (K := K) (r := rIxL) rfl ix_list) (pe_lst (pa_cons (pv 13) (pa_cons (pv 14) pa_nil))) (pe_callTy call_int1 (by rfl) Z.z_int (by decide +kernel) (pa_cons (pe_cmpR op_gt (pv 14) (pv 13) (nomark _)) pa_nil)) (fun _ _ => rfl)))) pa_nil)))
      (pss_cons (ps_set (i := 10) sc_law.nd rfl (.inl rfl) (pe_lst (pa_cons (C8.pe_c C__law_is_fine hr (by decide) (by rfl) (pa_cons (pv 6) (pa_cons (pv 7) pa_nil))) (pa_cons (pv 8) (pa_cons (pv 9) pa_nil)))))
      (pss_one (ps_for PassesOwn.never rfl (pi_range1 (by rfl) Z.z_range (pa_cons pe_int pa_nil)) (pg_name (i := 11) sc_law.nd rfl (.inl rfl)) (pss_cons (ps_set (i := 12) sc_law.nd rfl (.inl rfl) (pe_lst (pa_cons (C8.pe_c C_is_fine hr (by decide) (by rfl) (pa_cons (pv 4) (pa_cons (pv 6) (pa_cons (pv 7) pa_nil)))) (pa_cons (C8.pe_c C_finer hr (by decide) (by rfl) (pa_cons (pv 4) (pa_cons (pv 6) (pa_cons (pv 7) pa_nil)))) (pa_cons (C8.pe_c C_coarser hr (by decide) (by rfl) (pa_cons (pv 4) (pa_cons (pv 6) (pa_cons (pv 7) pa_nil)))) pa_nil)))))
      (pss_one (ps_if (pt_not (pt_val (pe_callG G__law_same gd (hr.mono (by decide)) (by rfl) g__law_same k__law_same b__law_same (pa_cons (pv 12) (pa_cons (pv 10) pa_nil))))) (pss_one (ps_ret pe_bl)) pss_nil))))))))))))))))
      (pss_one (ps_ret pe_bl))), ?_⟩
  -- for k in range(max(1, min(len(script), 3)))
  refine ⟨.ref a, rfl, a, _, rfl, .inl hS, _, _, rfl, _, _, rfl, _, rfl, ?_, ?_, ?_⟩
  · split <;> split <;> omega
  · split <;> split <;> omega
  refine for_it walk_range (fun i σ H1 => ∃ y1 y2 y3 y4 y5 y6 y7 y8 y9 y10 y11 y12 y13 y14, σ = [some (.ref a), y1, y2, y3, y4, y5, y6, y7, y8, y9, y10, y11, y12, y13, y14] ∧ SqL K H1 a (ns.map V.int))
    ⟨none, none, none, none, none, none, none, none, none, none, none, none, none, none, rfl, hS⟩ (fun _ _ _ _ _ => trivial) (fun i x σ H1 H1' hi hp y => ?_) (fun σ H1 _ => q H1)
  obtain ⟨y1, y2, y3, y4, y5, y6, y7, y8, y9, y10, y11, y12, y13, y14, rfl, hS1⟩ := hp
  obtain ⟨rfl, rfl⟩ := y
  have ei : V.int (0 + (i : Int)) = vN i := by rw [Int.zero_add]
  -- pen = pen(cell_at(script, k))
  refine ⟨.ref a, rfl, _, rfl, a, ns, i, by rw [← ei]; rfl, hS1, fun z H2 e2 => ⟨z, rfl, fun H3 p e3 np hp3 => ?_⟩⟩
  have hS3 : SqL K H3 a (ns.map V.int) := e3.seq (e2.seq hS1)
  have pa : ∀ {H4 : Hp}, But p H2 H4 → SqL K H4 a (ns.map V.int) := fun {H4} b4 => by
    by_cases hap : a = p
    · subst hap
      rcases e2.seq hS1 with (h | ⟨o, h⟩) | h
      · rw [np] at h; cases h
      · rw [np] at h; cases h
      · exact .inr h
    · exact But.seq b4 hap (e2.seq hS1)
  have b3 : But p H2 H3 := Same.but e3
  -- for lap in range(5)
  refine ⟨5, rfl, by decide, by decide, ?_⟩
  refine for_it walk_range (fun j σ H4 => ∃ y3 y4 y5 y6 y7 y8 y9 y10 y11 y12 y13 y14, σ = [some (.ref a), some (.int (0 + (i : Int))), some (.ref p), y3, y4, y5, y6, y7, y8, y9, y10, y11, y12, y13, y14] ∧ But p H2 H4 ∧ Pen H4 p (1000 * j))
    ⟨_, _, _, _, _, _, _, _, _, _, _, _, rfl, b3, by simpa using hp3⟩ (fun _ _ _ _ _ => trivial) (fun j x σ H4 H4' hj hp y => ?_) (fun σ H4 hp => ?_)
  rotate_left
  · obtain ⟨y3, y4, y5, y6, y7, y8, y9, y10, y11, y12, y13, y14, rfl, b4, _⟩ := hp
    exact ⟨_, _, _, _, _, _, _, _, _, _, _, _, _, _, rfl, pa b4⟩
  obtain ⟨y3, y4, y5, y6, y7, y8, y9, y10, y11, y12, y13, y14, rfl, b4, p4⟩ := hp
  obtain ⟨rfl, rfl⟩ := y
  have hj5 : j < 5 := hj
  -- scheme = scheme(pen)
  refine ⟨.ref p, rfl, p, 1000 * j, rfl, p4, by omega, fun H5 v S b5 p5 dS okS => ?_⟩
  -- for turn in range(6)
  refine ⟨6, rfl, by decide, by decide, ?_⟩
  refine for_it walk_range (fun t σ H6 => ∃ y3 y5 y6 y7 y8 y9 y10 y11 y12 y13 y14, σ = [some (.ref a), some (.int (0 + (i : Int))), some (.ref p), y3, some v, y5, y6, y7, y8, y9, y10, y11, y12, y13, y14] ∧ But p H2 H6 ∧ Pen H6 p (1000 * j + 400 + 10 * t) ∧ Dp K H6 v (eS S))
    ⟨_, _, _, _, _, _, _, _, _, _, _, rfl, But.trans b4 b5, by simpa using p5, dS⟩ (fun _ _ _ _ _ => trivial) (fun t x σ H6 H6' ht hp y => ?_) (fun σ H6 hp => ?_)
  rotate_left
  · obtain ⟨y3, y5, y6, y7, y8, y9, y10, y11, y12, y13, y14, rfl, b6, p6, _⟩ := hp
    exact ⟨_, _, _, _, _, _, _, _, _, _, _, _, rfl, b6, p6.mono (by have : ((6 : Int)).toNat = 6 := rfl; omega)⟩
  obtain ⟨y3, y5, y6, y7, y8, y9, y10, y11, y12, y13, y14, rfl, b6, p6, d6⟩ := hp
  obtain ⟨rfl, rfl⟩ := y
  have ht6 : t < 6 := ht
  -- one, other = rollup(..), rollup(..)
  refine ⟨.ref p, rfl, v, rfl, p, _, v, S, rfl, p6, by omega, d6, okS.2.1, okS.2.2.1, fun H7 u1 r1 b7 p7 du1 ok1 => ?_⟩
  have t67 : TS H6' H7 := p6.ts (m := 0) b7
  refine ⟨.ref p, rfl, v, rfl, p, _, v, S, rfl, p7, by omega, dpS_ts t67 d6, okS.2.1, okS.2.2.1, fun H8 u2 r2 b8 p8 du2 ok2 => ⟨_, _, rfl, ?_⟩⟩
  have t78 : TS H7 H8 := p7.ts (m := 0) b8
  have du1' := dpT_ts t78 du1
  have dv8 := dpS_ts (t67.trans t78) d6
  obtain ⟨c1, rfl, h1⟩ := dpT du1'
  obtain ⟨c2, rfl, h2⟩ := dpT du2
  have l1 := ok1.1
  have l2 := ok2.1
  have l3 := okS.2.1
  have sm1 := roll_small okS ok1
  have sm2 := roll_small okS ok2
  -- low
  refine ⟨.ref c1, rfl, .ref c2, rfl, c1, c2, _, _, rfl, .inr ⟨h1, h2, fun D nD => ?_⟩⟩
  refine lc_pure (walk_zipT (xs := r1.map vN) (ys := r2.map vN) (by rw [List.length_map, List.length_map]; omega)) (by rw [List.length_map]; omega) (fun i => vN (min (r1.getD i 0) (r2.getD i 0))) nD (fun H' e => ⟨Same.sqT e h1, Same.sqT e h2⟩) (fun i x H' H2' K2 hi e k y => ?_) (fun H9 e9 eD => ?_)
  · obtain ⟨T, x1, x2, rfl, nT, rfl, hx, hy⟩ := y
    obtain ⟨n, hn, rfl⟩ := get_map hx
    obtain ⟨m, hm, rfl⟩ := get_map hy
    refine ⟨T, _, rfl, SqT.of upd_same, rfl, _, _, rfl, _, _, rfl, rfl, rfl, ?_⟩
    refine ⟨_, rfl, _, rfl, (by decide : 2 ≤ sizeLine), fun g ng => ⟨_, rfl, _, rfl, _, _, rfl, rfl, .inr ⟨_, rfl, ?_⟩⟩⟩
    refine ⟨g, [vN n, vN m], _, vN (min n m), rfl, rfl, SqL.of upd_same, ?_, k _ _ (by rw [getD_of hn, getD_of hm]) ((same_new nT).trans (same_new ng))⟩
    by_cases hlt : (m : Int) < (n : Int)
    · rw [decide_eq_true hlt, Nat.min_eq_right (by omega)]
      rfl
    · rw [decide_eq_false hlt, Nat.min_eq_left (by omega)]
      rfl
  refine ⟨D, _, rfl, .inl ⟨SqL.of eD, fun lo nlo => ?_⟩⟩
  have e10 : Same H8 (upd H9 lo (.tup ((List.range (r1.map vN).length).map fun i => vN (min (r1.getD i 0) (r2.getD i 0))))) := e9.trans (same_new nlo)
  have hlo : Dp K (upd H9 lo (.tup ((List.range (r1.map vN).length).map fun i => vN (min (r1.getD i 0) (r2.getD i 0))))) (.ref lo) (eT (minL r1 r2)) := dpT_mk (SqT.of (by rw [upd_same, List.length_map]; unfold minL; rw [List.map_map]; rfl))
  generalize upd H9 lo (.tup ((List.range (r1.map vN).length).map fun i => vN (min (r1.getD i 0) (r2.getD i 0)))) = H10 at e10 hlo
  -- high
  refine ⟨.ref c1, rfl, .ref c2, rfl, c1, c2, _, _, rfl, .inr ⟨Same.sqT e10 h1, Same.sqT e10 h2, fun D nD => ?_⟩⟩
  refine lc_pure (walk_zipT (xs := r1.map vN) (ys := r2.map vN) (by rw [List.length_map, List.length_map]; omega)) (by rw [List.length_map]; omega) (fun i => vN (max (r1.getD i 0) (r2.getD i 0))) nD (fun H' e => ⟨Same.sqT (e10.trans e) h1, Same.sqT (e10.trans e) h2⟩) (fun i x H' H2' K2 hi e k y => ?_) (fun H11 e11 eD => ?_)
  · obtain ⟨T, x1, x2, rfl, nT, rfl, hx, hy⟩ := y
    obtain ⟨n, hn, rfl⟩ := get_map hx
    obtain ⟨m, hm, rfl⟩ := get_map hy
    refine ⟨T, _, rfl, SqT.of upd_same, rfl, _, _, rfl, _, _, rfl, rfl, rfl, ?_⟩
    refine ⟨_, rfl, _, rfl, (by decide : 2 ≤ sizeLine), fun g ng => ⟨_, rfl, _, rfl, _, _, rfl, rfl, .inr ⟨_, rfl, ?_⟩⟩⟩
    refine ⟨g, [vN n, vN m], _, vN (max n m), rfl, rfl, SqL.of upd_same, ?_, k _ _ (by rw [getD_of hn, getD_of hm]) ((same_new nT).trans (same_new ng))⟩
    by_cases hlt : (n : Int) < (m : Int)
    · rw [decide_eq_true hlt, Nat.max_eq_right (by omega)]
      rfl
    · rw [decide_eq_false hlt, Nat.max_eq_left (by omega)]
      rfl
  refine ⟨D, _, rfl, .inl ⟨SqL.of eD, fun hi2 nhi => ?_⟩⟩
  have e12 : Same H10 (upd H11 hi2 (.tup ((List.range (r1.map vN).length).map fun i => vN (max (r1.getD i 0) (r2.getD i 0))))) := e11.trans (same_new nhi)
  have hhi : Dp K (upd H11 hi2 (.tup ((List.range (r1.map vN).length).map fun i => vN (max (r1.getD i 0) (r2.getD i 0))))) (.ref hi2) (eT (maxL r1 r2)) := dpT_mk (SqT.of (by rw [upd_same, List.length_map]; unfold maxL; rw [List.map_map]; rfl))
  generalize upd H11 hi2 (.tup ((List.range (r1.map vN).length).map fun i => vN (max (r1.getD i 0) (r2.getD i 0)))) = H12 at e12 hhi
  have e812 : Same H8 H12 := e10.trans e12
  -- due = [is_fine(one, other), low, high]
  refine ⟨.ref c1, rfl, .ref c2, rfl, c1, c2, r1, r2, rfl, Same.sqT e812 h1, Same.sqT e812 h2, by omega, by omega, fun H13 e13 => ?_⟩
  refine ⟨_, rfl, _, rfl, (by decide : 3 ≤ sizeLine), fun du ndu => ?_⟩
  have e14 : Same H12 (upd H13 du (.lst [.bl (leAll r1 r2), .ref lo, .ref hi2])) := e13.trans (same_new ndu)
  have hdu : upd H13 du (.lst [.bl (leAll r1 r2), .ref lo, .ref hi2]) du = some (.lst [.bl (leAll r1 r2), .ref lo, .ref hi2]) := upd_same
  generalize upd H13 du (.lst [.bl (leAll r1 r2), .ref lo, .ref hi2]) = H14 at e14 hdu
  have e814 : Same H8 H14 := e812.trans e14
  have ddu : ∀ {H' : Hp}, Same H14 H' → Dp K H' (.ref du) (.list [.bool (leAll r1 r2), eT (minL r1 r2), eT (maxL r1 r2)]) := fun e => .lst (SqL.of (e _ _ hdu)) (.cons (.bl _) (.cons (dpT_ts (Same.ts ((e12.trans e14).trans e)) hlo) (.cons (dpT_ts (Same.ts (e14.trans e)) hhi) .nil)))
  -- for again in range(2)
  refine ⟨2, rfl, by decide, by decide, ?_⟩
  refine for_it walk_range (fun g σ H15 => ∃ y3 y5 y11 y12 y13 y14, σ = [some (.ref a), some (.int (0 + (i : Int))), some (.ref p), y3, some v, y5, some (.ref c1), some (.ref c2), some (.ref lo), some (.ref hi2), some (.ref du), y11, y12, y13, y14] ∧ Same H14 H15)
    ⟨_, _, _, _, _, _, rfl, Same.refl _⟩ (fun _ _ _ _ _ => trivial) (fun g x σ H15 H15' hg hp y => ?_) (fun σ H15 hp => ?_)
  · obtain ⟨y3, y5, y11, y12, y13, y14, rfl, e15⟩ := hp
    obtain ⟨rfl, rfl⟩ := y
    have e815 := e814.trans e15
    -- told = [is_fine(..), finer(..), coarser(..)]
    have dv := dpS_ts (Same.ts e815) dv8
    have dx := dpT_ts (Same.ts e815) du1'
    have dy := dpT_ts (Same.ts e815) du2
    refine ⟨v, rfl, .ref c1, rfl, .ref c2, rfl, v, _, _, S, r1, r2, rfl, dv, dx, dy, okS, ok1, ok2, fun H16 e16 => ?_⟩
    refine ⟨v, rfl, .ref c1, rfl, .ref c2, rfl, v, _, _, S, r1, r2, rfl, dpS_ts (Same.ts e16) dv, dpT_ts (Same.ts e16) dx, dpT_ts (Same.ts e16) dy, okS, ok1, ok2, fun H17 w1 e17 dw1 => ?_⟩
    have e1617 := e16.trans e17
    refine ⟨v, rfl, .ref c1, rfl, .ref c2, rfl, v, _, _, S, r1, r2, rfl, dpS_ts (Same.ts e1617) dv, dpT_ts (Same.ts e1617) dx, dpT_ts (Same.ts e1617) dy, okS, ok1, ok2, fun H18 w2 e18 dw2 => ?_⟩
    refine ⟨(by decide : 3 ≤ sizeLine), fun to nto => ?_⟩
    have e19 : Same H18 (upd H18 to (.lst [.bl (leAll r1 r2), w1, w2])) := same_new nto
    have e1519 : Same H15' (upd H18 to (.lst [.bl (leAll r1 r2), w1, w2])) := (e1617.trans e18).trans e19
    -- if not same(told, due)
    have ff := fits3 (b := leAll r1 r2) (r := r1) (t := r2) (by omega) sm1 sm2
    refine ⟨.ref to, rfl, .ref du, rfl, .ref to, .ref du, _, rfl, .lst (SqL.of upd_same) (.cons (.bl _) (.cons (dpT_ts (Same.ts (e18.trans e19)) dw1) (.cons (dpT_ts (Same.ts e19) dw2) .nil))), ddu (e15.trans e1519), ff.disp, ff.sh, ff.nd, ff.dp, ff.sz, fun H20 e20 => ⟨true, rfl, iteF ?_⟩⟩
    exact ⟨_, _, _, _, _, _, rfl, (e15.trans e1519).trans e20⟩
  · obtain ⟨y3, y5, y11, y12, y13, y14, rfl, e15⟩ := hp
    have e815 := e814.trans e15
    refine ⟨_, _, _, _, _, _, _, _, _, _, _, rfl, But.trans b6 (But.trans b7 (But.trans b8 (Same.but e815))), (p8.same e815).mono (by omega), dpS_ts (Same.ts e815) dv8⟩
end
end RL
namespace RL
open PySem PySem.Spec PyProof.Rows L2
theorem df_mk {K : PySem.W.Frag} {h : Heap} {mg : Str → Option Value} {x : Str} {st : Stmt} {f : Addr} {oc : Value} {od an : Option Addr} {osl : Array (Option Value)} {kV doc pm cdv ct : Value} (X : K.In h) (G : h.Ns mainGlobals mg)
    (a : PySem.W.nsIn K mainGlobals x = some (some (.ref f))) (l : K.lookup f = some ⟨oc, od, .func (PySem.W.fnOf x x (defArgs st) (defBody st) (defScope st) .none kV doc pm an cdv ct), osl⟩)
    (c : PySem.W.codeIn K cdv x = true) (k : PySem.W.keepIn K (.ref f) = true) : Df K mg x st := ⟨⟨f, _, fun_mk l c k, PySem.W.mg_of X G a⟩⟩
theorem law_end {K : PySem.W.Frag} {mg : Str → Option Value} {fa : Addr} (D : Df K mg "law" s_law) (e : mg "law" = some (.ref fa)) : ∃ fd, Fun K "law" "law" s_law fa fd ∧ ∀ (s : Shared) (u : Value), BindsTo s fd ⟨[u], []⟩ [("_law_script", u)] := by
  obtain ⟨f, fd, F, g⟩ := D.ex
  rw [g] at e
  cases e
  refine ⟨fd, F, ?_⟩
  obtain ⟨oc, od, kV, doc, pm, an, cdv, ct, osl, rfl, lk, hcd⟩ := F.ex
  exact fun s u => .of_eq rfl
theorem zs_mk {K : PySem.W.Frag} {h : Heap} {mg : Str → Option Value} (X : K.In h) (G : h.Ns mainGlobals mg)
    (z_isinstance : PySem.W.nsIn K mainGlobals "isinstance" = some none)
    (z_int : PySem.W.nsIn K mainGlobals "int" = some none)
    (z_bool : PySem.W.nsIn K mainGlobals "bool" = some none)
    (z_tuple : PySem.W.nsIn K mainGlobals "tuple" = some none)
    (z_list : PySem.W.nsIn K mainGlobals "list" = some none)
    (z_set : PySem.W.nsIn K mainGlobals "set" = some none)
    (z_len : PySem.W.nsIn K mainGlobals "len" = some none)
    (z_all : PySem.W.nsIn K mainGlobals "all" = some none)
    (z_zip : PySem.W.nsIn K mainGlobals "zip" = some none)
    (z_sorted : PySem.W.nsIn K mainGlobals "sorted" = some none)
    (z_range : PySem.W.nsIn K mainGlobals "range" = some none)
    (z_max : PySem.W.nsIn K mainGlobals "max" = some none)
    (z_min : PySem.W.nsIn K mainGlobals "min" = some none)
    (z_sum : PySem.W.nsIn K mainGlobals "sum" = some none)
    (z_repr : PySem.W.nsIn K mainGlobals "repr" = some none)
    (z_any : PySem.W.nsIn K mainGlobals "any" = some none)
    (z_enumerate : PySem.W.nsIn K mainGlobals "enumerate" = some none)
    (z_str : PySem.W.nsIn K mainGlobals "str" = some none)
    : Zs mg := ⟨PySem.W.mg_none_of X G z_isinstance, PySem.W.mg_none_of X G z_int, PySem.W.mg_none_of X G z_bool, PySem.W.mg_none_of X G z_tuple, PySem.W.mg_none_of X G z_list, PySem.W.mg_none_of X G z_set, PySem.W.mg_none_of X G z_len, PySem.W.mg_none_of X G z_all, PySem.W.mg_none_of X G z_zip, PySem.W.mg_none_of X G z_sorted, PySem.W.mg_none_of X G z_range, PySem.W.mg_none_of X G z_max, PySem.W.mg_none_of X G z_min, PySem.W.mg_none_of X G z_sum, PySem.W.mg_none_of X G z_repr, PySem.W.mg_none_of X G z_any, PySem.W.mg_none_of X G z_enumerate, PySem.W.mg_none_of X G z_str⟩
theorem law_all {P : Program} {w : World} {K : PySem.W.Frag} {mg : Str → Option Value} {fa : Addr} (e : mg "law" = some (.ref fa)) (Z : Zs mg)
    {t_MOST_ATTRIBUTES : Tok} (m_MOST_ATTRIBUTES : mg "MOST_ATTRIBUTES" = some (.int 3 t_MOST_ATTRIBUTES))
    {t_MOST_VALUES : Tok} (m_MOST_VALUES : mg "MOST_VALUES" = some (.int 6 t_MOST_VALUES))
    {t_MOST_STEPS : Tok} (m_MOST_STEPS : mg "MOST_STEPS" = some (.int 3 t_MOST_STEPS))
    {t_MOST_CELLS : Tok} (m_MOST_CELLS : mg "MOST_CELLS" = some (.int 60 t_MOST_CELLS))
    (D_is_integer : Df K mg "is_integer" s_is_integer)
    (D_is_number_below : Df K mg "is_number_below" s_is_number_below)
    (D_are_integers : Df K mg "are_integers" s_are_integers)
    (D_are_numbers_below : Df K mg "are_numbers_below" s_are_numbers_below)
    (D_is_step : Df K mg "is_step" s_is_step)
    (D_are_steps : Df K mg "are_steps" s_are_steps)
    (D_is_attribute : Df K mg "is_attribute" s_is_attribute)
    (D_multiplied : Df K mg "multiplied" s_multiplied)
    (D_level_counts : Df K mg "level_counts" s_level_counts)
    (D_has_levels_up_to : Df K mg "has_levels_up_to" s_has_levels_up_to)
    (D_greater_levels : Df K mg "greater_levels" s_greater_levels)
    (D_is_rollup : Df K mg "is_rollup" s_is_rollup)
    (D_check_scheme : Df K mg "check_scheme" s_check_scheme)
    (D_check_rollup : Df K mg "check_rollup" s_check_rollup)
    (D_check_rollup_of : Df K mg "check_rollup_of" s_check_rollup_of)
    (D_check_two_rollups_of : Df K mg "check_two_rollups_of" s_check_two_rollups_of)
    (D_is_scheme : Df K mg "is_scheme" s_is_scheme)
    (D_is_fine : Df K mg "is_fine" s_is_fine)
    (D_finer : Df K mg "finer" s_finer)
    (D_coarser : Df K mg "coarser" s_coarser)
    (D__law_cell_at : Df K mg "_law_cell_at" s__law_cell_at)
    (D__law_pen : Df K mg "_law_pen" s__law_pen)
    (D__law_draw : Df K mg "_law_draw" s__law_draw)
    (D__law_pick : Df K mg "_law_pick" s__law_pick)
    (D__law_same : Df K mg "_law_same" s__law_same)
    (D__law_mixed : Df K mg "_law_mixed" s__law_mixed)
    (D__law_attribute : Df K mg "_law_attribute" s__law_attribute)
    (D__law_scheme : Df K mg "_law_scheme" s__law_scheme)
    (D__law_rollup : Df K mg "_law_rollup" s__law_rollup)
    (D__law_is_fine : Df K mg "_law_is_fine" s__law_is_fine)
    (D_law : Df K mg "law" s_law)
    : ∃ fd : FuncData, (∀ (s : Shared) (u : Value), BindsTo s fd ⟨[u], []⟩ [("_law_script", u)]) ∧ ∀ base : Heap, FnG P w K mg base 20 fa fd ["_law_script"] (sp_law K) := by
  obtain ⟨fd, F, hb⟩ := law_end D_law e
  refine ⟨fd, hb, fun base => ?_⟩
  have C_is_integer := ok_is_integer (P := P) (w := w) (base := base) D_is_integer Z
  have C_is_number_below := ok_is_number_below (P := P) (w := w) (base := base) D_is_number_below C_is_integer
  have C_are_integers := ok_are_integers (P := P) (w := w) (base := base) D_are_integers Z C_is_integer
  have C_are_numbers_below := ok_are_numbers_below (P := P) (w := w) (base := base) D_are_numbers_below Z C_is_number_below
  have C_is_step := ok_is_step (P := P) (w := w) (base := base) D_is_step Z C_are_integers
  have C_are_steps := ok_are_steps (P := P) (w := w) (base := base) D_are_steps Z m_MOST_STEPS C_is_step
  have C_is_attribute := ok_is_attribute (P := P) (w := w) (base := base) D_is_attribute Z m_MOST_VALUES C_is_integer C_are_steps
  have C_multiplied := ok_multiplied (P := P) (w := w) (base := base) D_multiplied
  have C_level_counts := ok_level_counts (P := P) (w := w) (base := base) D_level_counts Z
  have C_has_levels_up_to := ok_has_levels_up_to (P := P) (w := w) (base := base) D_has_levels_up_to Z
  have C_is_scheme := ok_is_scheme (P := P) (w := w) (base := base) D_is_scheme Z m_MOST_ATTRIBUTES m_MOST_CELLS C_is_attribute C_multiplied
  have C_check_scheme := ok_check_scheme (P := P) (w := w) (base := base) D_check_scheme C_is_scheme
  have C_is_rollup := ok_is_rollup (P := P) (w := w) (base := base) D_is_rollup C_are_numbers_below C_level_counts
  have C_check_rollup := ok_check_rollup (P := P) (w := w) (base := base) D_check_rollup C_is_rollup
  have C_check_rollup_of := ok_check_rollup_of (P := P) (w := w) (base := base) D_check_rollup_of C_check_scheme C_check_rollup
  have C_check_two_rollups_of := ok_check_two_rollups_of (P := P) (w := w) (base := base) D_check_two_rollups_of C_check_rollup_of C_check_rollup
  have C_is_fine := ok_is_fine (P := P) (w := w) (base := base) D_is_fine C_check_two_rollups_of C_has_levels_up_to
  have C_finer := ok_finer (P := P) (w := w) (base := base) D_finer Z C_check_two_rollups_of
  have C_greater_levels := ok_greater_levels (P := P) (w := w) (base := base) D_greater_levels Z
  have C_coarser := ok_coarser (P := P) (w := w) (base := base) D_coarser C_check_two_rollups_of C_greater_levels
  have C__law_cell_at := ok_cell_at (P := P) (w := w) (base := base) D__law_cell_at Z
  have C__law_pen := ok_pen (P := P) (w := w) (base := base) D__law_pen Z
  have C__law_draw := ok_draw (P := P) (w := w) (base := base) D__law_draw
  have C__law_pick := ok_pick (P := P) (w := w) (base := base) D__law_pick Z C__law_draw
  have C__law_mixed := ok_mixed (P := P) (w := w) (base := base) D__law_mixed Z C__law_draw
  have C__law_attribute := ok_attribute (P := P) (w := w) (base := base) D__law_attribute Z C__law_draw C__law_mixed
  have C__law_scheme := ok_scheme (P := P) (w := w) (base := base) D__law_scheme Z C__law_pick C__law_attribute
  have C__law_rollup := ok_rollup (P := P) (w := w) (base := base) D__law_rollup Z C__law_draw
  have C__law_is_fine := ok_law_is_fine (P := P) (w := w) (base := base) D__law_is_fine Z
  obtain ⟨f_s, fd_s, SG⟩ := ok_same (P := P) (w := w) (base := base) D__law_same Z
  exact ok_law F Z SG C__law_cell_at C__law_pen C__law_scheme C__law_rollup C__law_is_fine C_is_fine C_finer C_coarser
theorem all_mk {P : Program} {w : World} {K : PySem.W.Frag} {h : Heap} {mg : Str → Option Value} {fa : Addr} (X : K.In h) (G : h.Ns mainGlobals mg) (e : mg "law" = some (.ref fa))
    {t_MOST_ATTRIBUTES : Tok} (m_MOST_ATTRIBUTES : PySem.W.nsIn K mainGlobals "MOST_ATTRIBUTES" = some (some (.int 3 t_MOST_ATTRIBUTES)))
    {t_MOST_VALUES : Tok} (m_MOST_VALUES : PySem.W.nsIn K mainGlobals "MOST_VALUES" = some (some (.int 6 t_MOST_VALUES)))
    {t_MOST_STEPS : Tok} (m_MOST_STEPS : PySem.W.nsIn K mainGlobals "MOST_STEPS" = some (some (.int 3 t_MOST_STEPS)))
    {t_MOST_CELLS : Tok} (m_MOST_CELLS : PySem.W.nsIn K mainGlobals "MOST_CELLS" = some (some (.int 60 t_MOST_CELLS)))
    (z_isinstance : PySem.W.nsIn K mainGlobals "isinstance" = some none)
    (z_int : PySem.W.nsIn K mainGlobals "int" = some none)
    (z_bool : PySem.W.nsIn K mainGlobals "bool" = some none)
    (z_tuple : PySem.W.nsIn K mainGlobals "tuple" = some none)
    (z_list : PySem.W.nsIn K mainGlobals "list" = some none)
    (z_set : PySem.W.nsIn K mainGlobals "set" = some none)
    (z_len : PySem.W.nsIn K mainGlobals "len" = some none)
    (z_all : PySem.W.nsIn K mainGlobals "all" = some none)
    (z_zip : PySem.W.nsIn K mainGlobals "zip" = some none)
    (z_sorted : PySem.W.nsIn K mainGlobals "sorted" = some none)
    (z_range : PySem.W.nsIn K mainGlobals "range" = some none)
    (z_max : PySem.W.nsIn K mainGlobals "max" = some none)
    (z_min : PySem.W.nsIn K mainGlobals "min" = some none)
    (z_sum : PySem.W.nsIn K mainGlobals "sum" = some none)
    (z_repr : PySem.W.nsIn K mainGlobals "repr" = some none)
    (z_any : PySem.W.nsIn K mainGlobals "any" = some none)
    (z_enumerate : PySem.W.nsIn K mainGlobals "enumerate" = some none)
    (z_str : PySem.W.nsIn K mainGlobals "str" = some none)
    {f_is_integer : Addr} {od_is_integer an_is_integer : Option Addr} {sl_is_integer : Array (Option Value)} {oc_is_integer kV_is_integer dc_is_integer pm_is_integer cd_is_integer ct_is_integer : Value}
    (a_is_integer : PySem.W.nsIn K mainGlobals "is_integer" = some (some (.ref f_is_integer))) (l_is_integer : K.lookup f_is_integer = some ⟨oc_is_integer, od_is_integer, .func (PySem.W.fnOf "is_integer" "is_integer" (defArgs s_is_integer) (defBody s_is_integer) (defScope s_is_integer) .none kV_is_integer dc_is_integer pm_is_integer an_is_integer cd_is_integer ct_is_integer), sl_is_integer⟩)
    (c_is_integer : PySem.W.codeIn K cd_is_integer "is_integer" = true) (k_is_integer : PySem.W.keepIn K (.ref f_is_integer) = true)
    {f_is_number_below : Addr} {od_is_number_below an_is_number_below : Option Addr} {sl_is_number_below : Array (Option Value)} {oc_is_number_below kV_is_number_below dc_is_number_below pm_is_number_below cd_is_number_below ct_is_number_below : Value}
    (a_is_number_below : PySem.W.nsIn K mainGlobals "is_number_below" = some (some (.ref f_is_number_below))) (l_is_number_below : K.lookup f_is_number_below = some ⟨oc_is_number_below, od_is_number_below, .func (PySem.W.fnOf "is_number_below" "is_number_below" (defArgs s_is_number_below) (defBody s_is_number_below) (defScope s_is_number_below) .none kV_is_number_below dc_is_number_below pm_is_number_below an_is_number_below cd_is_number_below ct_is_number_below), sl_is_number_below⟩)
    (c_is_number_below : PySem.W.codeIn K cd_is_number_below "is_number_below" = true) (k_is_number_below : PySem.W.keepIn K (.ref f_is_number_below) = true)
    {f_are_integers : Addr} {od_are_integers an_are_integers : Option Addr} {sl_are_integers : Array (Option Value)} {oc_are_integers kV_are_integers dc_are_integers pm_are_integers cd_are_integers ct_are_integers : Value}
    (a_are_integers : PySem.W.nsIn K mainGlobals "are_integers" = some (some (.ref f_are_integers))) (l_are_integers : K.lookup f_are_integers = some ⟨oc_are_integers, od_are_integers, .func (PySem.W.fnOf "are_integers" "are_integers" (defArgs s_are_integers) (defBody s_are_integers) (defScope s_are_integers) .none kV_are_integers dc_are_integers pm_are_integers an_are_integers cd_are_integers ct_are_integers), sl_are_integers⟩)
    (c_are_integers : PySem.W.codeIn K cd_are_integers "are_integers" = true) (k_are_integers : PySem.W.keepIn K (.ref f_are_integers) = true)
    {f_are_numbers_below : Addr} {od_are_numbers_below an_are_numbers_below : Option Addr} {sl_are_numbers_below : Array (Option Value)} {oc_are_numbers_below kV_are_numbers_below dc_are_numbers_below pm_are_numbers_below cd_are_numbers_below ct_are_numbers_below : Value}
    (a_are_numbers_below : PySem.W.nsIn K mainGlobals "are_numbers_below" = some (some (.ref f_are_numbers_below))) (l_are_numbers_below : K.lookup f_are_numbers_below = some ⟨oc_are_numbers_below, od_are_numbers_below, .func (PySem.W.fnOf "are_numbers_below" "are_numbers_below" (defArgs s_are_numbers_below) (defBody s_are_numbers_below) (defScope s_are_numbers_below) .none kV_are_numbers_below dc_are_numbers_below pm_are_numbers_below an_are_numbers_below cd_are_numbers_below ct_are_numbers_below), sl_are_numbers_below⟩)
    (c_are_numbers_below : PySem.W.codeIn K cd_are_numbers_below "are_numbers_below" = true) (k_are_numbers_below : PySem.W.keepIn K (.ref f_are_numbers_below) = true)
    {f_is_step : Addr} {od_is_step an_is_step : Option Addr} {sl_is_step : Array (Option Value)} {oc_is_step kV_is_step dc_is_step pm_is_step cd_is_step ct_is_step : Value}
    (a_is_step : PySem.W.nsIn K mainGlobals "is_step" = some (some (.ref f_is_step))) (l_is_step : K.lookup f_is_step = some ⟨oc_is_step, od_is_step, .func (PySem.W.fnOf "is_step" "is_step" (defArgs s_is_step) (defBody s_is_step) (defScope s_is_step) .none kV_is_step dc_is_step pm_is_step an_is_step cd_is_step ct_is_step), sl_is_step⟩)
    (c_is_step : PySem.W.codeIn K cd_is_step "is_step" = true) (k_is_step : PySem.W.keepIn K (.ref f_is_step) = true)
    {f_are_steps : Addr} {od_are_steps an_are_steps : Option Addr} {sl_are_steps : Array (Option Value)} {oc_are_steps kV_are_steps dc_are_steps pm_are_steps cd_are_steps ct_are_steps : Value}
    (a_are_steps : PySem.W.nsIn K mainGlobals "are_steps" = some (some (.ref f_are_steps))) (l_are_steps : K.lookup f_are_steps = some ⟨oc_are_steps, od_are_steps, .func (PySem.W.fnOf "are_steps" "are_steps" (defArgs s_are_steps) (defBody s_are_steps) (defScope s_are_steps) .none kV_are_steps dc_are_steps pm_are_steps an_are_steps cd_are_steps ct_are_steps), sl_are_steps⟩)
    (c_are_steps : PySem.W.codeIn K cd_are_steps "are_steps" = true) (k_are_steps : PySem.W.keepIn K (.ref f_are_steps) = true)
    {f_is_attribute : Addr} {od_is_attribute an_is_attribute : Option Addr} {sl_is_attribute : Array (Option Value)} {oc_is_attribute kV_is_attribute dc_is_attribute pm_is_attribute cd_is_attribute ct_is_attribute : Value}
    (a_is_attribute : PySem.W.nsIn K mainGlobals "is_attribute" = some (some (.ref f_is_attribute))) (l_is_attribute : K.lookup f_is_attribute = some ⟨oc_is_attribute, od_is_attribute, .func (PySem.W.fnOf "is_attribute" "is_attribute" (defArgs s_is_attribute) (defBody s_is_attribute) (defScope s_is_attribute) .none kV_is_attribute dc_is_attribute pm_is_attribute an_is_attribute cd_is_attribute ct_is_attribute), sl_is_attribute⟩)
    (c_is_attribute : PySem.W.codeIn K cd_is_attribute "is_attribute" = true) (k_is_attribute : PySem.W.keepIn K (.ref f_is_attribute) = true)
    {f_multiplied : Addr} {od_multiplied an_multiplied : Option Addr} {sl_multiplied : Array (Option Value)} {oc_multiplied kV_multiplied dc_multiplied pm_multiplied cd_multiplied ct_multiplied : Value}
    (a_multiplied : PySem.W.nsIn K mainGlobals "multiplied" = some (some (.ref f_multiplied))) (l_multiplied : K.lookup f_multiplied = some ⟨oc_multiplied, od_multiplied, .func (PySem.W.fnOf "multiplied" "multiplied" (defArgs s_multiplied) (defBody s_multiplied) (defScope s_multiplied) .none kV_multiplied dc_multiplied pm_multiplied an_multiplied cd_multiplied ct_multiplied), sl_multiplied⟩)
    (c_multiplied : PySem.W.codeIn K cd_multiplied "multiplied" = true) (k_multiplied : PySem.W.keepIn K (.ref f_multiplied) = true)
    {f_level_counts : Addr} {od_level_counts an_level_counts : Option Addr} {sl_level_counts : Array (Option Value)} {oc_level_counts kV_level_counts dc_level_counts pm_level_counts cd_level_counts ct_level_counts : Value}
    (a_level_counts : PySem.W.nsIn K mainGlobals "level_counts" = some (some (.ref f_level_counts))) (l_level_counts : K.lookup f_level_counts = some ⟨oc_level_counts, od_level_counts, .func (PySem.W.fnOf "level_counts" "level_counts" (defArgs s_level_counts) (defBody s_level_counts) (defScope s_level_counts) .none kV_level_counts dc_level_counts pm_level_counts an_level_counts cd_level_counts ct_level_counts), sl_level_counts⟩)
    (c_level_counts : PySem.W.codeIn K cd_level_counts "level_counts" = true) (k_level_counts : PySem.W.keepIn K (.ref f_level_counts) = true)
    {f_has_levels_up_to : Addr} {od_has_levels_up_to an_has_levels_up_to : Option Addr} {sl_has_levels_up_to : Array (Option Value)} {oc_has_levels_up_to kV_has_levels_up_to dc_has_levels_up_to pm_has_levels_up_to cd_has_levels_up_to ct_has_levels_up_to : Value}
    (a_has_levels_up_to : PySem.W.nsIn K mainGlobals "has_levels_up_to" = some (some (.ref f_has_levels_up_to))) (l_has_levels_up_to : K.lookup f_has_levels_up_to = some ⟨oc_has_levels_up_to, od_has_levels_up_to, .func (PySem.W.fnOf "has_levels_up_to" "has_levels_up_to" (defArgs s_has_levels_up_to) (defBody s_has_levels_up_to) (defScope s_has_levels_up_to) .none kV_has_levels_up_to dc_has_levels_up_to pm_has_levels_up_to an_has_levels_up_to cd_has_levels_up_to ct_has_levels_up_to), sl_has_levels_up_to⟩)
    (c_has_levels_up_to : PySem.W.codeIn K cd_has_levels_up_to "has_levels_up_to" = true) (k_has_levels_up_to : PySem.W.keepIn K (.ref f_has_levels_up_to) = true)
    {f_greater_levels : Addr} {od_greater_levels an_greater_levels : Option Addr} {sl_greater_levels : Array (Option Value)} {oc_greater_levels kV_greater_levels dc_greater_levels pm_greater_levels cd_greater_levels ct_greater_levels : Value}
    (a_greater_levels : PySem.W.nsIn K mainGlobals "greater_levels" = some (some (.ref f_greater_levels))) (l_greater_levels : K.lookup f_greater_levels = some ⟨oc_greater_levels, od_greater_levels, .func (PySem.W.fnOf "greater_levels" "greater_levels" (defArgs s_greater_levels) (defBody s_greater_levels) (defScope s_greater_levels) .none kV_greater_levels dc_greater_levels pm_greater_levels an_greater_levels cd_greater_levels ct_greater_levels), sl_greater_levels⟩)
    (c_greater_levels : PySem.W.codeIn K cd_greater_levels "greater_levels" = true) (k_greater_levels : PySem.W.keepIn K (.ref f_greater_levels) = true)
    {f_is_rollup : Addr} {od_is_rollup an_is_rollup : Option Addr} {sl_is_rollup : Array (Option Value)} {oc_is_rollup kV_is_rollup dc_is_rollup pm_is_rollup cd_is_rollup ct_is_rollup : Value}
    (a_is_rollup : PySem.W.nsIn K mainGlobals "is_rollup" = some (some (.ref f_is_rollup))) (l_is_rollup : K.lookup f_is_rollup = some ⟨oc_is_rollup, od_is_rollup, .func (PySem.W.fnOf "is_rollup" "is_rollup" (defArgs s_is_rollup) (defBody s_is_rollup) (defScope s_is_rollup) .none kV_is_rollup dc_is_rollup pm_is_rollup an_is_rollup cd_is_rollup ct_is_rollup), sl_is_rollup⟩)
    (c_is_rollup : PySem.W.codeIn K cd_is_rollup "is_rollup" = true) (k_is_rollup : PySem.W.keepIn K (.ref f_is_rollup) = true)
    {f_check_scheme : Addr} {od_check_scheme an_check_scheme : Option Addr} {sl_check_scheme : Array (Option Value)} {oc_check_scheme kV_check_scheme dc_check_scheme pm_check_scheme cd_check_scheme ct_check_scheme : Value}
    (a_check_scheme : PySem.W.nsIn K mainGlobals "check_scheme" = some (some (.ref f_check_scheme))) (l_check_scheme : K.lookup f_check_scheme = some ⟨oc_check_scheme, od_check_scheme, .func (PySem.W.fnOf "check_scheme" "check_scheme" (defArgs s_check_scheme) (defBody s_check_scheme) (defScope s_check_scheme) .none kV_check_scheme dc_check_scheme pm_check_scheme an_check_scheme cd_check_scheme ct_check_scheme), sl_check_scheme⟩)
    (c_check_scheme : PySem.W.codeIn K cd_check_scheme "check_scheme" = true) (k_check_scheme : PySem.W.keepIn K (.ref f_check_scheme) = true)
    {f_check_rollup : Addr} {od_check_rollup an_check_rollup : Option Addr} {sl_check_rollup : Array (Option Value)} {oc_check_rollup kV_check_rollup dc_check_rollup pm_check_rollup cd_check_rollup ct_check_rollup : Value}
    (a_check_rollup : PySem.W.nsIn K mainGlobals "check_rollup" = some (some (.ref f_check_rollup))) (l_check_rollup : K.lookup f_check_rollup = some ⟨oc_check_rollup, od_check_rollup, .func (PySem.W.fnOf "check_rollup" "check_rollup" (defArgs s_check_rollup) (defBody s_check_rollup) (defScope s_check_rollup) .none kV_check_rollup dc_check_rollup pm_check_rollup an_check_rollup cd_check_rollup ct_check_rollup), sl_check_rollup⟩)
    (c_check_rollup : PySem.W.codeIn K cd_check_rollup "check_rollup" = true) (k_check_rollup : PySem.W.keepIn K (.ref f_check_rollup) = true)
    {f_check_rollup_of : Addr} {od_check_rollup_of an_check_rollup_of : Option Addr} {sl_check_rollup_of : Array (Option Value)} {oc_check_rollup_of kV_check_rollup_of dc_check_rollup_of pm_check_rollup_of cd_check_rollup_of ct_check_rollup_of : Value}
    (a_check_rollup_of : PySem.W.nsIn K mainGlobals "check_rollup_of" = some (some (.ref f_check_rollup_of))) (l_check_rollup_of : K.lookup f_check_rollup_of = some ⟨oc_check_rollup_of, od_check_rollup_of, .func (PySem.W.fnOf "check_rollup_of" "check_rollup_of" (defArgs s_check_rollup_of) (defBody s_check_rollup_of) (defScope s_check_rollup_of) .none kV_check_rollup_of dc_check_rollup_of pm_check_rollup_of an_check_rollup_of cd_check_rollup_of ct_check_rollup_of), sl_check_rollup_of⟩)
    (c_check_rollup_of : PySem.W.codeIn K cd_check_rollup_of "check_rollup_of" = true) (k_check_rollup_of : PySem.W.keepIn K (.ref f_check_rollup_of) = true)
    {f_check_two_rollups_of : Addr} {od_check_two_rollups_of an_check_two_rollups_of : Option Addr} {sl_check_two_rollups_of : Array (Option Value)} {oc_check_two_rollups_of kV_check_two_rollups_of dc_check_two_rollups_of pm_check_two_rollups_of cd_check_two_rollups_of ct_check_two_rollups_of : Value}
    (a_check_two_rollups_of : PySem.W.nsIn K mainGlobals "check_two_rollups_of" = some (some (.ref f_check_two_rollups_of))) (l_check_two_rollups_of : K.lookup f_check_two_rollups_of = some ⟨oc_check_two_rollups_of, od_check_two_rollups_of, .func (PySem.W.fnOf "check_two_rollups_of" "check_two_rollups_of" (defArgs s_check_two_rollups_of) (defBody s_check_two_rollups_of) (defScope s_check_two_rollups_of) .none kV_check_two_rollups_of dc_check_two_rollups_of pm_check_two_rollups_of an_check_two_rollups_of cd_check_two_rollups_of ct_check_two_rollups_of), sl_check_two_rollups_of⟩)
    (c_check_two_rollups_of : PySem.W.codeIn K cd_check_two_rollups_of "check_two_rollups_of" = true) (k_check_two_rollups_of : PySem.W.keepIn K (.ref f_check_two_rollups_of) = true)
    {f_is_scheme : Addr} {od_is_scheme an_is_scheme : Option Addr} {sl_is_scheme : Array (Option Value)} {oc_is_scheme kV_is_scheme dc_is_scheme pm_is_scheme cd_is_scheme ct_is_scheme : Value}
    (a_is_scheme : PySem.W.nsIn K mainGlobals "is_scheme" = some (some (.ref f_is_scheme))) (l_is_scheme : K.lookup f_is_scheme = some ⟨oc_is_scheme, od_is_scheme, .func (PySem.W.fnOf "is_scheme" "is_scheme" (defArgs s_is_scheme) (defBody s_is_scheme) (defScope s_is_scheme) .none kV_is_scheme dc_is_scheme pm_is_scheme an_is_scheme cd_is_scheme ct_is_scheme), sl_is_scheme⟩)
    (c_is_scheme : PySem.W.codeIn K cd_is_scheme "is_scheme" = true) (k_is_scheme : PySem.W.keepIn K (.ref f_is_scheme) = true)
    {f_is_fine : Addr} {od_is_fine an_is_fine : Option Addr} {sl_is_fine : Array (Option Value)} {oc_is_fine kV_is_fine dc_is_fine pm_is_fine cd_is_fine ct_is_fine : Value}
    (a_is_fine : PySem.W.nsIn K mainGlobals "is_fine" = some (some (.ref f_is_fine))) (l_is_fine : K.lookup f_is_fine = some ⟨oc_is_fine, od_is_fine, .func (PySem.W.fnOf "is_fine" "is_fine" (defArgs s_is_fine) (defBody s_is_fine) (defScope s_is_fine) .none kV_is_fine dc_is_fine pm_is_fine an_is_fine cd_is_fine ct_is_fine), sl_is_fine⟩)
    (c_is_fine : PySem.W.codeIn K cd_is_fine "is_fine" = true) (k_is_fine : PySem.W.keepIn K (.ref f_is_fine) = true)
    {f_finer : Addr} {od_finer an_finer : Option Addr} {sl_finer : Array (Option Value)} {oc_finer kV_finer dc_finer pm_finer cd_finer ct_finer : Value}
    (a_finer : PySem.W.nsIn K mainGlobals "finer" = some (some (.ref f_finer))) (l_finer : K.lookup f_finer = some ⟨oc_finer, od_finer, .func (PySem.W.fnOf "finer" "finer" (defArgs s_finer) (defBody s_finer) (defScope s_finer) .none kV_finer dc_finer pm_finer an_finer cd_finer ct_finer), sl_finer⟩)
    (c_finer : PySem.W.codeIn K cd_finer "finer" = true) (k_finer : PySem.W.keepIn K (.ref f_finer) = true)
    {f_coarser : Addr} {od_coarser an_coarser : Option Addr} {sl_coarser : Array (Option Value)} {oc_coarser kV_coarser dc_coarser pm_coarser cd_coarser ct_coarser : Value}
    (a_coarser : PySem.W.nsIn K mainGlobals "coarser" = some (some (.ref f_coarser))) (l_coarser : K.lookup f_coarser = some ⟨oc_coarser, od_coarser, .func (PySem.W.fnOf "coarser" "coarser" (defArgs s_coarser) (defBody s_coarser) (defScope s_coarser) .none kV_coarser dc_coarser pm_coarser an_coarser cd_coarser ct_coarser), sl_coarser⟩)
    (c_coarser : PySem.W.codeIn K cd_coarser "coarser" = true) (k_coarser : PySem.W.keepIn K (.ref f_coarser) = true)
    {f__law_cell_at : Addr} {od__law_cell_at an__law_cell_at : Option Addr} {sl__law_cell_at : Array (Option Value)} {oc__law_cell_at kV__law_cell_at dc__law_cell_at pm__law_cell_at cd__law_cell_at ct__law_cell_at : Value}
    (a__law_cell_at : PySem.W.nsIn K mainGlobals "_law_cell_at" = some (some (.ref f__law_cell_at))) (l__law_cell_at : K.lookup f__law_cell_at = some ⟨oc__law_cell_at, od__law_cell_at, .func (PySem.W.fnOf "_law_cell_at" "_law_cell_at" (defArgs s__law_cell_at) (defBody s__law_cell_at) (defScope s__law_cell_at) .none kV__law_cell_at dc__law_cell_at pm__law_cell_at an__law_cell_at cd__law_cell_at ct__law_cell_at), sl__law_cell_at⟩)
    (c__law_cell_at : PySem.W.codeIn K cd__law_cell_at "_law_cell_at" = true) (k__law_cell_at : PySem.W.keepIn K (.ref f__law_cell_at) = true)
    {f__law_pen : Addr} {od__law_pen an__law_pen : Option Addr} {sl__law_pen : Array (Option Value)} {oc__law_pen kV__law_pen dc__law_pen pm__law_pen cd__law_pen ct__law_pen : Value}
    (a__law_pen : PySem.W.nsIn K mainGlobals "_law_pen" = some (some (.ref f__law_pen))) (l__law_pen : K.lookup f__law_pen = some ⟨oc__law_pen, od__law_pen, .func (PySem.W.fnOf "_law_pen" "_law_pen" (defArgs s__law_pen) (defBody s__law_pen) (defScope s__law_pen) .none kV__law_pen dc__law_pen pm__law_pen an__law_pen cd__law_pen ct__law_pen), sl__law_pen⟩)
    (c__law_pen : PySem.W.codeIn K cd__law_pen "_law_pen" = true) (k__law_pen : PySem.W.keepIn K (.ref f__law_pen) = true)
    {f__law_draw : Addr} {od__law_draw an__law_draw : Option Addr} {sl__law_draw : Array (Option Value)} {oc__law_draw kV__law_draw dc__law_draw pm__law_draw cd__law_draw ct__law_draw : Value}
    (a__law_draw : PySem.W.nsIn K mainGlobals "_law_draw" = some (some (.ref f__law_draw))) (l__law_draw : K.lookup f__law_draw = some ⟨oc__law_draw, od__law_draw, .func (PySem.W.fnOf "_law_draw" "_law_draw" (defArgs s__law_draw) (defBody s__law_draw) (defScope s__law_draw) .none kV__law_draw dc__law_draw pm__law_draw an__law_draw cd__law_draw ct__law_draw), sl__law_draw⟩)
    (c__law_draw : PySem.W.codeIn K cd__law_draw "_law_draw" = true) (k__law_draw : PySem.W.keepIn K (.ref f__law_draw) = true)
    {f__law_pick : Addr} {od__law_pick an__law_pick : Option Addr} {sl__law_pick : Array (Option Value)} {oc__law_pick kV__law_pick dc__law_pick pm__law_pick cd__law_pick ct__law_pick : Value}
    (a__law_pick : PySem.W.nsIn K mainGlobals "_law_pick" = some (some (.ref f__law_pick))) (l__law_pick : K.lookup f__law_pick = some ⟨oc__law_pick, od__law_pick, .func (PySem.W.fnOf "_law_pick" "_law_pick" (defArgs s__law_pick) (defBody s__law_pick) (defScope s__law_pick) .none kV__law_pick dc__law_pick pm__law_pick an__law_pick cd__law_pick ct__law_pick), sl__law_pick⟩)
    (c__law_pick : PySem.W.codeIn K cd__law_pick "_law_pick" = true) (k__law_pick : PySem.W.keepIn K (.ref f__law_pick) = true)
    {f__law_same : Addr} {od__law_same an__law_same : Option Addr} {sl__law_same : Array (Option Value)} {oc__law_same kV__law_same dc__law_same pm__law_same cd__law_same ct__law_same : Value}
    (a__law_same : PySem.W.nsIn K mainGlobals "_law_same" = some (some (.ref f__law_same))) (l__law_same : K.lookup f__law_same = some ⟨oc__law_same, od__law_same, .func (PySem.W.fnOf "_law_same" "_law_same" (defArgs s__law_same) (defBody s__law_same) (defScope s__law_same) .none kV__law_same dc__law_same pm__law_same an__law_same cd__law_same ct__law_same), sl__law_same⟩)
    (c__law_same : PySem.W.codeIn K cd__law_same "_law_same" = true) (k__law_same : PySem.W.keepIn K (.ref f__law_same) = true)
    {f__law_mixed : Addr} {od__law_mixed an__law_mixed : Option Addr} {sl__law_mixed : Array (Option Value)} {oc__law_mixed kV__law_mixed dc__law_mixed pm__law_mixed cd__law_mixed ct__law_mixed : Value}
    (a__law_mixed : PySem.W.nsIn K mainGlobals "_law_mixed" = some (some (.ref f__law_mixed))) (l__law_mixed : K.lookup f__law_mixed = some ⟨oc__law_mixed, od__law_mixed, .func (PySem.W.fnOf "_law_mixed" "_law_mixed" (defArgs s__law_mixed) (defBody s__law_mixed) (defScope s__law_mixed) .none kV__law_mixed dc__law_mixed pm__law_mixed an__law_mixed cd__law_mixed ct__law_mixed), sl__law_mixed⟩)
    (c__law_mixed : PySem.W.codeIn K cd__law_mixed "_law_mixed" = true) (k__law_mixed : PySem.W.keepIn K (.ref f__law_mixed) = true)
    {f__law_attribute : Addr} {od__law_attribute an__law_attribute : Option Addr} {sl__law_attribute : Array (Option Value)} {oc__law_attribute kV__law_attribute dc__law_attribute pm__law_attribute cd__law_attribute ct__law_attribute : Value}
    (a__law_attribute : PySem.W.nsIn K mainGlobals "_law_attribute" = some (some (.ref f__law_attribute))) (l__law_attribute : K.lookup f__law_attribute = some ⟨oc__law_attribute, od__law_attribute, .func (PySem.W.fnOf "_law_attribute" "_law_attribute" (defArgs s__law_attribute) (defBody s__law_attribute) (defScope s__law_attribute) .none kV__law_attribute dc__law_attribute pm__law_attribute an__law_attribute cd__law_attribute ct__law_attribute), sl__law_attribute⟩)
    (c__law_attribute : PySem.W.codeIn K cd__law_attribute "_law_attribute" = true) (k__law_attribute : PySem.W.keepIn K (.ref f__law_attribute) = true)
    {f__law_scheme : Addr} {od__law_scheme an__law_scheme : Option Addr} {sl__law_scheme : Array (Option Value)} {oc__law_scheme kV__law_scheme dc__law_scheme pm__law_scheme cd__law_scheme ct__law_scheme : Value}
    (a__law_scheme : PySem.W.nsIn K mainGlobals "_law_scheme" = some (some (.ref f__law_scheme))) (l__law_scheme : K.lookup f__law_scheme = some ⟨oc__law_scheme, od__law_scheme, .func (PySem.W.fnOf "_law_scheme" "_law_scheme" (defArgs s__law_scheme) (defBody s__law_scheme) (defScope s__law_scheme) .none kV__law_scheme dc__law_scheme pm__law_scheme an__law_scheme cd__law_scheme ct__law_scheme), sl__law_scheme⟩)
    (c__law_scheme : PySem.W.codeIn K cd__law_scheme "_law_scheme" = true) (k__law_scheme : PySem.W.keepIn K (.ref f__law_scheme) = true)
    {f__law_rollup : Addr} {od__law_rollup an__law_rollup : Option Addr} {sl__law_rollup : Array (Option Value)} {oc__law_rollup kV__law_rollup dc__law_rollup pm__law_rollup cd__law_rollup ct__law_rollup : Value}
    (a__law_rollup : PySem.W.nsIn K mainGlobals "_law_rollup" = some (some (.ref f__law_rollup))) (l__law_rollup : K.lookup f__law_rollup = some ⟨oc__law_rollup, od__law_rollup, .func (PySem.W.fnOf "_law_rollup" "_law_rollup" (defArgs s__law_rollup) (defBody s__law_rollup) (defScope s__law_rollup) .none kV__law_rollup dc__law_rollup pm__law_rollup an__law_rollup cd__law_rollup ct__law_rollup), sl__law_rollup⟩)
    (c__law_rollup : PySem.W.codeIn K cd__law_rollup "_law_rollup" = true) (k__law_rollup : PySem.W.keepIn K (.ref f__law_rollup) = true)
    {f__law_is_fine : Addr} {od__law_is_fine an__law_is_fine : Option Addr} {sl__law_is_fine : Array (Option Value)} {oc__law_is_fine kV__law_is_fine dc__law_is_fine pm__law_is_fine cd__law_is_fine ct__law_is_fine : Value}
    (a__law_is_fine : PySem.W.nsIn K mainGlobals "_law_is_fine" = some (some (.ref f__law_is_fine))) (l__law_is_fine : K.lookup f__law_is_fine = some ⟨oc__law_is_fine, od__law_is_fine, .func (PySem.W.fnOf "_law_is_fine" "_law_is_fine" (defArgs s__law_is_fine) (defBody s__law_is_fine) (defScope s__law_is_fine) .none kV__law_is_fine dc__law_is_fine pm__law_is_fine an__law_is_fine cd__law_is_fine ct__law_is_fine), sl__law_is_fine⟩)
    (c__law_is_fine : PySem.W.codeIn K cd__law_is_fine "_law_is_fine" = true) (k__law_is_fine : PySem.W.keepIn K (.ref f__law_is_fine) = true)
    {f_law : Addr} {od_law an_law : Option Addr} {sl_law : Array (Option Value)} {oc_law kV_law dc_law pm_law cd_law ct_law : Value}
    (a_law : PySem.W.nsIn K mainGlobals "law" = some (some (.ref f_law))) (l_law : K.lookup f_law = some ⟨oc_law, od_law, .func (PySem.W.fnOf "law" "law" (defArgs s_law) (defBody s_law) (defScope s_law) .none kV_law dc_law pm_law an_law cd_law ct_law), sl_law⟩)
    (c_law : PySem.W.codeIn K cd_law "law" = true) (k_law : PySem.W.keepIn K (.ref f_law) = true)
    : ∃ fd : FuncData, (∀ (s : Shared) (u : Value), BindsTo s fd ⟨[u], []⟩ [("_law_script", u)]) ∧ ∀ base : Heap, K.In base → base.Ns mainGlobals mg → FnG P w K mg base 20 fa fd ["_law_script"] (sp_law K) := by
  have Z := zs_mk X G z_isinstance z_int z_bool z_tuple z_list z_set z_len z_all z_zip z_sorted z_range z_max z_min z_sum z_repr z_any z_enumerate z_str
  obtain ⟨fd, hb, hF⟩ := law_all (P := P) (w := w) e Z (PySem.W.mg_of X G m_MOST_ATTRIBUTES) (PySem.W.mg_of X G m_MOST_VALUES) (PySem.W.mg_of X G m_MOST_STEPS) (PySem.W.mg_of X G m_MOST_CELLS) (df_mk X G a_is_integer l_is_integer c_is_integer k_is_integer) (df_mk X G a_is_number_below l_is_number_below c_is_number_below k_is_number_below) (df_mk X G a_are_integers l_are_integers c_are_integers k_are_integers) (df_mk X G a_are_numbers_below l_are_numbers_below c_are_numbers_below k_are_numbers_below) (df_mk X G a_is_step l_is_step c_is_step k_is_step) (df_mk X G a_are_steps l_are_steps c_are_steps k_are_steps) (df_mk X G a_is_attribute l_is_attribute c_is_attribute k_is_attribute) (df_mk X G a_multiplied l_multiplied c_multiplied k_multiplied) (df_mk X G a_level_counts l_level_counts c_level_counts k_level_counts) (df_mk X G a_has_levels_up_to l_has_levels_up_to c_has_levels_up_to k_has_levels_up_to) (df_mk X G a_greater_levels l_greater_levels c_greater_levels k_greater_levels) (df_mk X G a_is_rollup l_is_rollup c_is_rollup k_is_rollup) (df_mk X G a_check_scheme l_check_scheme c_check_scheme k_check_scheme) (df_mk X G a_check_rollup l_check_rollup c_check_rollup k_check_rollup) (df_mk X G a_check_rollup_of l_check_rollup_of c_check_rollup_of k_check_rollup_of) (df_mk X G a_check_two_rollups_of l_check_two_rollups_of c_check_two_rollups_of k_check_two_rollups_of) (df_mk X G a_is_scheme l_is_scheme c_is_scheme k_is_scheme) (df_mk X G a_is_fine l_is_fine c_is_fine k_is_fine) (df_mk X G a_finer l_finer c_finer k_finer) (df_mk X G a_coarser l_coarser c_coarser k_coarser) (df_mk X G a__law_cell_at l__law_cell_at c__law_cell_at k__law_cell_at) (df_mk X G a__law_pen l__law_pen c__law_pen k__law_pen) (df_mk X G a__law_draw l__law_draw c__law_draw k__law_draw) (df_mk X G a__law_pick l__law_pick c__law_pick k__law_pick) (df_mk X G a__law_same l__law_same c__law_same k__law_same) (df_mk X G a__law_mixed l__law_mixed c__law_mixed k__law_mixed) (df_mk X G a__law_attribute l__law_attribute c__law_attribute k__law_attribute) (df_mk X G a__law_scheme l__law_scheme c__law_scheme k__law_scheme) (df_mk X G a__law_rollup l__law_rollup c__law_rollup k__law_rollup) (df_mk X G a__law_is_fine l__law_is_fine c__law_is_fine k__law_is_fine) (df_mk X G a_law l_law c_law k_law)
  exact ⟨fd, hb, fun base _ _ => hF base⟩
end RL
open PySem PySem.W PyProof.Rows
set_option maxHeartbeats 0 in
theorem PySem.Challenge.cw_rolluplevels_k03_order_of_rollups_holds : PySem.Challenge.rw_rolluplevels_k03_order_of_rollups.Holds := by
  w_on; o_law; k_head; (case hw => w_witness2)
  k_fill
  refine RL.walkG (l := PySem.Challenge.rw_rolluplevels_k03_order_of_rollups) (n := 63) (k := 20) (x := "_law_script") (sp := RL.sp_law) rfl (by decide) rfl ⟨rfl, by decide, by decide⟩ (fun w h Y => PySem.W.kIn_of Y) ?F (fun K H a ns hl hS => ⟨a, ns, rfl, hS, fun _ => rfl⟩)
  case F =>
    intro w mg fa h KX G hmg
    refine' RL.all_mk KX G hmg ?m_MOST_ATTRIBUTES ?m_MOST_VALUES ?m_MOST_STEPS ?m_MOST_CELLS ?z_isinstance ?z_int ?z_bool ?z_tuple ?z_list ?z_set ?z_len ?z_all ?z_zip ?z_sorted ?z_range ?z_max ?z_min ?z_sum ?z_repr ?z_any ?z_enumerate ?z_str ?a_is_integer ?l_is_integer ?c_is_integer ?k_is_integer ?a_is_number_below ?l_is_number_below ?c_is_number_below ?k_is_number_below ?a_are_integers ?l_are_integers ?c_are_integers ?k_are_integers ?a_are_numbers_below ?l_are_numbers_below ?c_are_numbers_below ?k_are_numbers_below ?a_is_step ?l_is_step ?c_is_step ?k_is_step ?a_are_steps ?l_are_steps ?c_are_steps ?k_are_steps ?a_is_attribute ?l_is_attribute ?c_is_attribute ?k_is_attribute ?a_multiplied ?l_multiplied ?c_multiplied ?k_multiplied ?a_level_counts ?l_level_counts ?c_level_counts ?k_level_counts ?a_has_levels_up_to ?l_has_levels_up_to ?c_has_levels_up_to ?k_has_levels_up_to ?a_greater_levels ?l_greater_levels ?c_greater_levels ?k_greater_levels ?a_is_rollup ?l_is_rollup ?c_is_rollup ?k_is_rollup ?a_check_scheme ?l_check_scheme ?c_check_scheme ?k_check_scheme ?a_check_rollup ?l_check_rollup ?c_check_rollup ?k_check_rollup ?a_check_rollup_of ?l_check_rollup_of ?c_check_rollup_of ?k_check_rollup_of ?a_check_two_rollups_of ?l_check_two_rollups_of ?c_check_two_rollups_of ?k_check_two_rollups_of ?a_is_scheme ?l_is_scheme ?c_is_scheme ?k_is_scheme ?a_is_fine ?l_is_fine ?c_is_fine ?k_is_fine ?a_finer ?l_finer ?c_finer ?k_finer ?a_coarser ?l_coarser ?c_coarser ?k_coarser ?a__law_cell_at ?l__law_cell_at ?c__law_cell_at ?k__law_cell_at ?a__law_pen ?l__law_pen ?c__law_pen ?k__law_pen ?a__law_draw ?l__law_draw ?c__law_draw ?k__law_draw ?a__law_pick ?l__law_pick ?c__law_pick ?k__law_pick ?a__law_same ?l__law_same ?c__law_same ?k__law_same ?a__law_mixed ?l__law_mixed ?c__law_mixed ?k__law_mixed ?a__law_attribute ?l__law_attribute ?c__law_attribute ?k__law_attribute ?a__law_scheme ?l__law_scheme ?c__law_scheme ?k__law_scheme ?a__law_rollup ?l__law_rollup ?c__law_rollup ?k__law_rollup ?a__law_is_fine ?l__law_is_fine ?c__law_is_fine ?k__law_is_fine ?a_law ?l_law ?c_law ?k_law
    (case m_MOST_ATTRIBUTES => k_is); (case m_MOST_VALUES => k_is); (case m_MOST_STEPS => k_is); (case m_MOST_CELLS => k_is)
    (case z_isinstance => k_is); (case z_int => k_is); (case z_bool => k_is); (case z_tuple => k_is); (case z_list => k_is); (case z_set => k_is); (case z_len => k_is); (case z_all => k_is); (case z_zip => k_is); (case z_sorted => k_is); (case z_range => k_is); (case z_max => k_is); (case z_min => k_is); (case z_sum => k_is); (case z_repr => k_is); (case z_any => k_is); (case z_enumerate => k_is); (case z_str => k_is)
    (case a_is_integer => k_is); (case l_is_integer => k_is); (case c_is_integer => k_is); (case k_is_integer => k_is)
    (case a_is_number_below => k_is); (case l_is_number_below => k_is); (case c_is_number_below => k_is); (case k_is_number_below => k_is)
    (case a_are_integers => k_is); (case l_are_integers => k_is); (case c_are_integers => k_is); (case k_are_integers => k_is)
    (case a_are_numbers_below => k_is); (case l_are_numbers_below => k_is); (case c_are_numbers_below => k_is); (case k_are_numbers_below => k_is)
    (case a_is_step => k_is); (case l_is_step => k_is); (case c_is_step => k_is); (case k_is_step => k_is)
    (case a_are_steps => k_is); (case l_are_steps => k_is); (case c_are_steps => k_is); (case k_are_steps => k_is)
    (case a_is_attribute => k_is); (case l_is_attribute => k_is); (case c_is_attribute => k_is); (case k_is_attribute => k_is)
    (case a_multiplied => k_is); (case l_multiplied => k_is); (case c_multiplied => k_is); (case k_multiplied => k_is)
    (case a_level_counts => k_is); (case l_level_counts => k_is); (case c_level_counts => k_is); (case k_level_counts => k_is)
    (case a_has_levels_up_to => k_is); (case l_has_levels_up_to => k_is); (case c_has_levels_up_to => k_is); (case k_has_levels_up_to => k_is)
    (case a_greater_levels => k_is); (case l_greater_levels => k_is); (case c_greater_levels => k_is); (case k_greater_levels => k_is)
    (case a_is_rollup => k_is); (case l_is_rollup => k_is); (case c_is_rollup => k_is); (case k_is_rollup => k_is)
    (case a_check_scheme => k_is); (case l_check_scheme => k_is); (case c_check_scheme => k_is); (case k_check_scheme => k_is)
    (case a_check_rollup => k_is); (case l_check_rollup => k_is); (case c_check_rollup => k_is); (case k_check_rollup => k_is)
    (case a_check_rollup_of => k_is); (case l_check_rollup_of => k_is); (case c_check_rollup_of => k_is); (case k_check_rollup_of => k_is)
    (case a_check_two_rollups_of => k_is); (case l_check_two_rollups_of => k_is); (case c_check_two_rollups_of => k_is); (case k_check_two_rollups_of => k_is)
    (case a_is_scheme => k_is); (case l_is_scheme => k_is); (case c_is_scheme => k_is); (case k_is_scheme => k_is)
    (case a_is_fine => k_is); (case l_is_fine => k_is); (case c_is_fine => k_is); (case k_is_fine => k_is)
    (case a_finer => k_is); (case l_finer => k_is); (case c_finer => k_is); (case k_finer => k_is)
    (case a_coarser => k_is); (case l_coarser => k_is); (case c_coarser => k_is); (case k_coarser => k_is)
    (case a__law_cell_at => k_is); (case l__law_cell_at => k_is); (case c__law_cell_at => k_is); (case k__law_cell_at => k_is)
    (case a__law_pen => k_is); (case l__law_pen => k_is); (case c__law_pen => k_is); (case k__law_pen => k_is)
    (case a__law_draw => k_is); (case l__law_draw => k_is); (case c__law_draw => k_is); (case k__law_draw => k_is)
    (case a__law_pick => k_is); (case l__law_pick => k_is); (case c__law_pick => k_is); (case k__law_pick => k_is)
    (case a__law_same => k_is); (case l__law_same => k_is); (case c__law_same => k_is); (case k__law_same => k_is)
    (case a__law_mixed => k_is); (case l__law_mixed => k_is); (case c__law_mixed => k_is); (case k__law_mixed => k_is)
    (case a__law_attribute => k_is); (case l__law_attribute => k_is); (case c__law_attribute => k_is); (case k__law_attribute => k_is)
    (case a__law_scheme => k_is); (case l__law_scheme => k_is); (case c__law_scheme => k_is); (case k__law_scheme => k_is)
    (case a__law_rollup => k_is); (case l__law_rollup => k_is); (case c__law_rollup => k_is); (case k__law_rollup => k_is)
    (case a__law_is_fine => k_is); (case l__law_is_fine => k_is); (case c__law_is_fine => k_is); (case k__law_is_fine => k_is)
    (case a_law => k_is); (case l_law => k_is); (case c_law => k_is); (case k_law => k_is)
