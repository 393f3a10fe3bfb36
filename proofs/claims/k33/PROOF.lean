import PyProof.Rows.All
import Wide.All
import OpenK.AllK
import Wide.FinOn
import KE.DataMinMax
import KE.GoesMore
import KE.GoesZip
import HandS.ForMost
import HandS.Walk
import HandS.Zip
import HandS.Conv
import HandS.IsInst
import HandS.Strs
import HandS.SetFor
import HandS.Wide
import HandS.Flow
import HandS.TupMul
import HandS.TupAny
import HandS.Codes
import HandS.Star
import HandS.Dict
import HandS.Words
import KE.KDictKeyed
import KE.DataCmp
import KE.DataEq
import KE.DataAny
import KE.DataFind
import KE.DataIsa
import HandS.Deep
import HandS.TupSets
import KE.KIndexOf
import KE.DatumIndex
import HandS.WideBits
import HandS.SortKw
import HandS.Style
import KE.KUnpackStar
import KE.KDictCopyH
import HandS.DictComp
import PySem.Challenge.RW_rolluplevels_k33_plans_by_hand
set_option Elab.async false
set_option linter.all false
set_option maxRecDepth 100000
set_option maxHeartbeats 4000000
namespace RL
open PySem PySem.Spec PyProof.Rows L2

/-! ### repr of nested data, where nothing is being shown already -/
def rRepr (K : PySem.W.Frag) : List V → Hp → VK → Prop := fun xs H Q =>
  ∃ x d, xs = [x] ∧ Dp K H x d ∧ isDisplay d = true ∧ d.showable = true ∧ d.hasDict = false ∧ d.depth ≤ 50 ∧ d.shown.length ≤ sizeLine ∧ Q (.str d.shown) H
theorem call_repr {X : Cx} (hg : X.A.guards = some []) (hu : X.A.units + 64 < cLine) : CallR X (.builtin "repr") (rRepr X.K) := by
  intro pins s σ H xs us Q I r h
  obtain ⟨x, d, rfl, hd, disp, sh, nd, dp, sz, q⟩ := h
  obtain ⟨u, rfl, r1⟩ := vals1 r
  obtain ⟨as, rd⟩ := Dp.reads I d x _ hd r1
  obtain ⟨a, rfl⟩ := isRef_of_reads rd disp
  exact repr_of_reads' rd sh (PyData.noDict_hsm nd) hg (by omega) (fun _ _ e => e) (fun h' u tk hk => ⟨.str _, H, I.kept hk, ⟨u, rfl⟩, q⟩) sz

/-! ### max of a tuple, of a list of ints, told as a fold -/
def rMaxD (K : PySem.W.Frag) : List V → Hp → VK → Prop := fun vs H Q =>
  ∃ (a : Addr) (n : Int) (ns : List Int), vs = [V.ref a] ∧ (SqT K H a ((n :: ns).map V.int) ∨ SqL K H a ((n :: ns).map V.int)) ∧ Q (.int (ns.foldl max n)) H
theorem readsAll_ints {h : Heap} : ∀ {ns : List Int} {us : List Value}, Vals (ns.map V.int) us → ∃ as, ReadsAll h us (ns.map PyData.int) as
  | [], _, r => by cases r; exact ⟨_, .nil⟩
  | n :: ns, _, r => by
    cases r with
    | cons r1 r2 =>
      obtain ⟨t, rfl⟩ := r1
      obtain ⟨as, q⟩ := readsAll_ints r2
      exact ⟨_, .cons (.int n t) q⟩
theorem alike_ints (ns : List Int) : PySem.W.AlikeAll (ns.map PyData.int) := by
  refine ⟨fun x hx y hy => ?_, fun x hx => ?_⟩
  · obtain ⟨a, _, rfl⟩ := List.mem_map.mp hx
    obtain ⟨b, _, rfl⟩ := List.mem_map.mp hy
    rfl
  · obtain ⟨a, _, rfl⟩ := List.mem_map.mp hx
    exact fun z => nomatch z
theorem depth_ints : ∀ ns : List Int, PyData.depthAll (ns.map PyData.int) = 0
  | [] => rfl
  | n :: ns => by
    show max (PyData.depth (.int n)) (PyData.depthAll (ns.map PyData.int)) = 0
    rw [depth_ints ns]
    rfl
theorem cr_maxD {X : Cx} (hc : X.calm = true) (hu : X.A.units + 64 < cLine) : CallR X (.builtin "max") (rMaxD X.K) := by
  intro pins s σ H vs us Q I r h
  obtain ⟨a, n, ns, rfl, hs, q⟩ := h
  rw [Vals.ref1 r]
  have hd : PyData.depthAll (PyData.int n :: ns.map PyData.int) = 0 := depth_ints (n :: ns)
  have fin : ∀ (v : Value) (h' : Heap) (tk : Nat) (bs : List Addr), Reads h' v (PySem.W.maxD (.int n) (ns.map PyData.int)) bs → (∀ b o, s.heap.get? b = some o → h'.get? b = some o) →
      EP X pins σ Q v { s with heap := h', toks := tk } := fun v h' tk bs rd hk => by
    rw [PySem.W.maxD_ints] at rd
    cases rd with
    | int i t => exact ⟨.int _, H, I.kept hk, ⟨t, rfl⟩, q⟩
  rcases hs with hs | hs
  · obtain ⟨its, rv, hl, _⟩ := I.tuple hs
    obtain ⟨as, rd⟩ := readsAll_ints (h := s.heap) rv
    exact PySem.W.max_tuple_data (I.ok.hd hc) hl (by simpa using rd) (alike_ints (n :: ns)) (by rw [hd]; omega) fun _ v h' tk bs _ r hk => fin v h' tk bs r hk
  · obtain ⟨its, rv, hl, _⟩ := I.list hs
    obtain ⟨as, rd⟩ := readsAll_ints (h := s.heap) rv
    exact PySem.W.max_list_data (I.ok.hd hc) hl.isList (by simpa using rd) (alike_ints (n :: ns)) (by rw [hd]; omega) fun _ v h' tk bs _ r hk => fin v h' tk bs r hk

/-! ### set(t) of a tuple of ints -/
def rSetT (K : PySem.W.Frag) (w : World) : List V → Hp → VK → Prop := fun xs H Q =>
  ∃ (a : Addr) (ns : List Int), xs = [V.ref a] ∧ SqT K H a (ns.map V.int) ∧ ns.length < 60 ∧ ∀ p c, H p = none → c ≤ ns.length → Q (.ref p) (upd H p (SetO w p (fun j => decide (j ∈ ns)) c))
theorem cr_setT {X : Cx} (hc : X.calm = true) : CallR X (.type "set") (rSetT X.K X.w) := by
  intro pins s σ H vs us Q I r h
  obtain ⟨a, ns, rfl, hs, hn, q⟩ := h
  rw [Vals.ref1 r]
  obtain ⟨its, rv, hl, _⟩ := I.tuple hs
  have hb : ns.length + 1 < scanBound := Nat.lt_of_lt_of_le (Nat.add_lt_add_right hn 1) (by decide)
  refine call_set_tupI ns (I.ok.hd hc) hl (by simpa using rv.ints) hb fun h' tk c R hle hk => ?_
  exact ⟨.ref _, _, I.laid (t' := tk) hk (Nat.le_refl _) (setO_new R), rfl, q _ c (I.hok.fresh (Nat.le_refl _)) hle⟩

/-! ### zip of a tuple and a list -/
def ItzM (K : PySem.W.Frag) (a b : Addr) : It :=
  ⟨fun i H => ∃ (xs ys : List V) (x y : V), SqT K H a xs ∧ SqL K H b ys ∧ xs[i]? = some x ∧ ys[i]? = some y,
    fun i H v H' => ∃ T x y, v = .ref T ∧ H T = none ∧ H' = upd H T (.tup [x, y]) ∧ (∀ xs, SqT K H a xs → xs[i]? = some x) ∧ ∀ ys, SqL K H b ys → ys[i]? = some y,
    fun i H => ∃ xs ys : List V, SqT K H a xs ∧ SqL K H b ys ∧ i ≤ xs.length ∧ i ≤ ys.length ∧ (i = xs.length ∨ i = ys.length)⟩
theorem sepM {z TI TO i1 i2 a b : Addr} (D : ZipApart z TI TO i1 i2 a b) : ZipSep2 z TI TO i1 i2 [i1, a] [i2, b] where
  TIz := D.TIz
  TOz := D.TOz
  TITO := D.TITO
  TIi1 := D.TIi1
  mem1 := by simp
  zf1 := by simp only [List.mem_cons, List.not_mem_nil, or_false, not_or]; exact ⟨D.i1z.symm, D.l1z.symm⟩
  Tf1 := by simp only [List.mem_cons, List.not_mem_nil, or_false, not_or]; exact ⟨D.TOi1, D.l1TO.symm⟩
  TIi2 := D.TIi2
  mem2 := by simp
  zf2 := by simp only [List.mem_cons, List.not_mem_nil, or_false, not_or]; exact ⟨D.i2z.symm, D.l2z.symm⟩
  Tf2 := by simp only [List.mem_cons, List.not_mem_nil, or_false, not_or]; exact ⟨D.TOi2, D.l2TO.symm⟩
  sep1_2 := by simp only [List.mem_cons, List.not_mem_nil, or_false, not_or]; exact ⟨D.i12, D.l2i1.symm⟩
  sep2_1 := by simp only [List.mem_cons, List.not_mem_nil, or_false, not_or]; exact ⟨D.i12.symm, D.l1i2.symm⟩
theorem turn_zipM {P : Program} {w : World} {K : PySem.W.Frag} {elts : List Expr} {kk : Nat} {tpos : Pos} {a b z TI TO i1 i2 : Addr} (D : ZipApart z TI TO i1 i2 a b) :
    Turn P w K (.Tuple elts kk tpos) (ItzM K a b) [z, TI, TO, i1, i2] z
      (fun i h => IsZip h z TI TO .none ∧ IsPair h TI (.ref i1) (.ref i2) ∧ (∃ x y, IsPair h TO x y) ∧ h.IsTupleIter i1 a i ∧ h.IsListIter i2 b i) where
  mem := List.mem_cons_self
  obj := fun i h st c hc => by
    obtain ⟨hz, hTI, ⟨x, y, hTO⟩, ⟨o1, e1, _, d1⟩, ⟨o2, e2, _, d2⟩⟩ := st
    simp only [List.mem_cons, List.not_mem_nil, or_false] at hc
    rcases hc with rfl | rfl | rfl | rfl | rfl
    · exact ⟨_, hz, fun _ q => nomatch q⟩
    · exact ⟨_, hTI, fun _ q => nomatch q⟩
    · exact ⟨_, hTO, fun _ q => nomatch q⟩
    · exact ⟨o1, e1, fun _ q => by rw [d1] at q; cases q⟩
    · exact ⟨o2, e2, fun _ q => by rw [d2] at q; cases q⟩
  keep := fun i h h' st k => by
    obtain ⟨hz, hTI, ⟨x, y, hTO⟩, h1, h2⟩ := st
    have m1 : i1 ∈ [z, TI, TO, i1, i2] := by simp
    have m2 : i2 ∈ [z, TI, TO, i1, i2] := by simp
    exact ⟨k z (by simp) _ hz, k TI (by simp) _ hTI, ⟨x, y, k TO (by simp) _ hTO⟩, h1.at (k i1 m1), h2.at (k i2 m2)⟩
  item := by
    intro X hP hw hK hc i pins s σ H E I hf st hg
    subst hP hw hK
    obtain ⟨hz, hTI, ⟨x0, y0, hTO⟩, h1, h2⟩ := st
    obtain ⟨xs, ys, x, y, qx, qy, gx, gy⟩ := hg
    obtain ⟨its, rv, p, _⟩ := I.tuple qx
    obtain ⟨its2, rv2, p2, _⟩ := I.list qy
    have lx := rv.length
    have ly := rv2.length
    obtain ⟨bx, _⟩ := List.getElem?_eq_some_iff.mp gx
    obtain ⟨byy, _⟩ := List.getElem?_eq_some_iff.mp gy
    have hzl : z < s.heap.objs.size := Heap.lt_size hz
    have hh : X.A.in1.handled = none := I.ok.hd hc
    refine wpAny_pyNext_zipD2_item (sepM D) (Draws.tuple hh i1 a D.l1i1 its.toArray) (Draws.list hh i2 b D.l2i2 its2.toArray) hz hTI hTO ⟨h1, p⟩ ⟨h2, p2.isList⟩ (by simp; omega) (by simp; omega) fun u u2 h' tk g1 g2 z' TO' s1 s2 hT hsz hk => ?_
    obtain ⟨w1, hw1, ru⟩ := rv.get gx
    obtain ⟨w2, hw2, ru2⟩ := rv2.get gy
    have e1 : w1 = u := by
      have g1' : its[i]? = some u := by simpa using g1
      exact Option.some.inj (hw1.symm.trans g1')
    have e2 : w2 = u2 := by
      have g2' : its2[i]? = some u2 := by simpa using g2
      exact Option.some.inj (hw2.symm.trans g2')
    subst e1 e2
    refine ⟨_, rfl, wpAny_letOwnedTupleGo_zip (s := { s with heap := h', toks := tk }) z' fun h'' z'' sb => ?_⟩
    have hT2 : h''.get? s.heap.objs.size = some { cls := .type "tuple", data := .seq #[w1, w2] } := (sb.2 _ (Nat.ne_of_gt hzl)).trans hT
    have new : ObjOk X.prog X.w (upd H s.heap.objs.size (.tup [x, y])) h'' s.heap.objs.size (.tup [x, y]) :=
      ⟨by show 2 ≤ sizeLine; decide, [w1, w2], .cons ru (.cons ru2 .nil), ⟨_, hT2, rfl, _, rfl⟩⟩
    have far : ∀ c o, c ∉ [z, TI, TO, i1, i2] → s.heap.get? c = some o → h''.get? c = some o := fun c o hb q => by
      simp only [List.mem_cons, List.not_mem_nil, or_false, not_or] at hb
      exact (sb.2 c hb.1).trans (hk c o hb.1 hb.2.2.1 hb.2.2.2.1 hb.2.2.2.2 q)
    have I1 := I.turnedNew (t' := tk) (ch := [z, TI, TO, i1, i2]) far hf (Nat.le_refl _) new
    refine ⟨.ref s.heap.objs.size, _, I1, rfl, ⟨_, x, y, rfl, I.hok.fresh (Nat.le_refl _), rfl, fun l hl => by rw [I.tuple_inj hl qx]; exact gx, fun l hl => by rw [I.list_inj hl qy]; exact gy⟩, ⟨z'', ?_, ⟨w1, w2, ?_⟩, ?_, ?_⟩, fun c hcm => ?_⟩
    · exact (sb.2 _ D.TIz).trans (hk _ _ D.TIz D.TITO D.TIi1 D.TIi2 hTI)
    · exact (sb.2 _ D.TOz).trans TO'
    · exact s1.1.at fun o q => (sb.2 _ D.i1z).trans q
    · exact s2.1.at fun o q => (sb.2 _ D.i2z).trans q
    · have hlt : c < s.heap.objs.size := by
        simp only [List.mem_cons, List.not_mem_nil, or_false] at hcm
        rcases hcm with rfl | rfl | rfl | rfl | rfl
        · exact hzl
        · exact Heap.lt_size hTI
        · exact Heap.lt_size hTO
        · obtain ⟨_, e, _⟩ := h1; exact Heap.lt_size e
        · obtain ⟨_, e, _⟩ := h2; exact Heap.lt_size e
      rw [upd_ne (Nat.ne_of_lt hlt)]
      exact (hf c hcm).1
  done := by
    intro X hP hw hK hc i pins s σ H E I hf st hg
    subst hP hw hK
    obtain ⟨hz, hTI, ⟨x0, y0, hTO⟩, h1, h2⟩ := st
    obtain ⟨xs, ys, qx, qy, le1, le2, hend⟩ := hg
    obtain ⟨its, rv, p, _⟩ := I.tuple qx
    obtain ⟨its2, rv2, p2, _⟩ := I.list qy
    have lx := rv.length
    have ly := rv2.length
    have hh : X.A.in1.handled = none := I.ok.hd hc
    refine wpAny_pyNext_zipD2_end (sepM D) (Draws.tuple hh i1 a D.l1i1 its.toArray) (Draws.list hh i2 b D.l2i2 its2.toArray) hz hTI hTO ⟨h1, p⟩ ⟨h2, p2.isList⟩ (by simp; omega) (by simp; omega) (by simp; omega) fun h' tk hk => ?_
    refine ⟨rfl, I.turnedL (t' := tk) (ch := [z, TI, TO, i1, i2]) (fun c o hb q => ?_) hf⟩
    simp only [List.mem_cons, List.not_mem_nil, or_false, not_or] at hb
    exact hk c o hb.1 hb.2.2.1 hb.2.2.2.1 hb.2.2.2.2 q
  self := fun A i s Q E st h => wpAny_pyIter_zip st.1 h

def iZipM (K : PySem.W.Frag) (ta : TA) : TI := fun σ H R => ta σ H fun vs H1 => ∃ a b xs ys, vs = [.ref a, .ref b] ∧ SqT K H1 a xs ∧ SqL K H1 b ys ∧ R (ItzM K a b) H1
theorem pi_zipM {X : Cx} {e e2 : Expr} {ta : TA} {p pos tpos : Pos} {elts : List Expr} {kk : Nat} (hg : Gl X "zip") (hm : X.mg "zip" = none) (ha : PA X [e, e2] ta)
    (hs : starEach [e, e2] X.env = (false, eval e X.env) :: starEach [e2] X.env := by rfl) (hpl : (backTo pos (starEach [e2] X.env)).any (·.1) = false := by rfl) :
    PI X (.Tuple elts kk tpos) (.Call (.Name "zip" p) [e, e2] [] pos) (iZipM X.K ta) := by
  refine ⟨fun pins s σ H R I h => Call_ (ld_blt I hg hm PyProof.Rows.boot_zip (PyProof.Rows.callWith_type1 (thn (ha.run pos pins s σ H _ I h) ?_) hs hpl))⟩
  intro us s1 ⟨vs, H1, I1, r1, a, b, xs, ys, ex, qx, qy, q⟩
  subst ex
  cases r1 with
  | cons ra rr =>
    cases rr with
    | cons rb rr =>
      cases rr
      cases ra
      cases rb
      obtain ⟨its, rv, p1, _⟩ := I1.tuple qx
      obtain ⟨its2, rv2, p2, _⟩ := I1.list qy
      obtain ⟨o1, ho1, _⟩ := id p1
      refine zip_begins2 (begins_tuple a its.toArray) (begins_list b its2.toArray) p1 p2.isList fun h' hz hTI hTO h1 h2 hsz hk => wpAny_pyIter_zip hz ?_
      have D := PySem.W.ktu_apart s1.heap.objs.size a b (Heap.lt_size ho1) p2.lt
      refine ⟨s1.heap.objs.size + 4, [s1.heap.objs.size + 4, s1.heap.objs.size + 2, s1.heap.objs.size + 3, s1.heap.objs.size, s1.heap.objs.size + 1], _, _, H1, rfl, I1.kept (t' := s1.toks) hk, turn_zipM D, ⟨hz, hTI, ⟨_, _, hTO⟩, ⟨_, h1, rfl, rfl⟩, ⟨_, h2, rfl, rfl⟩⟩, fun c hcm => ?_, q⟩
      have hle : s1.heap.objs.size ≤ c := by
        simp only [List.mem_cons, List.not_mem_nil, or_false] at hcm
        rcases hcm with rfl | rfl | rfl | rfl | rfl
        · exact Nat.le_add_right _ _
        · exact Nat.le_add_right _ _
        · exact Nat.le_add_right _ _
        · exact Nat.le_refl _
        · exact Nat.le_add_right _ _
      exact I1.fpOk hle (I1.hok.fresh hle)
section
variable {K : PySem.W.Frag} {a b : Addr} {xs ys : List V}
theorem walk_zipM (hl : xs.length = ys.length) : Walk (ItzM K a b) xs.length (fun H => SqT K H a xs ∧ SqL K H b ys) (YPair (fun i => xs[i]?) (fun i => ys[i]?)) := by
  refine ⟨fun i _ hi q => ?_, fun _ q => ⟨xs, ys, q.1, q.2, Nat.le_refl _, by omega, .inl rfl⟩, fun i H v H' _ q y => ?_⟩
  · have h2 : i < ys.length := by omega
    exact ⟨xs, ys, xs[i], ys[i], q.1, q.2, by simp [hi], by simp [h2]⟩
  · obtain ⟨T, x, z, h1, h2, h3, h4, h5⟩ := y
    exact ⟨T, x, z, h1, h2, h3, h4 xs q.1, h5 ys q.2⟩
theorem walk_zipT (hl : xs.length = ys.length) : Walk (RZ.ItzT K a b) xs.length (fun H => SqT K H a xs ∧ SqT K H b ys) (YPair (fun i => xs[i]?) (fun i => ys[i]?)) := by
  refine ⟨fun i _ hi q => ?_, fun _ q => ⟨xs, ys, q.1, q.2, .inl (Nat.le_refl _)⟩, fun i H v H' _ q y => ?_⟩
  · have h2 : i < ys.length := by omega
    exact ⟨xs, ys, xs[i], ys[i], q.1, q.2, by simp [hi], by simp [h2]⟩
  · obtain ⟨T, x, z, h1, h2, h3, h4, h5⟩ := y
    exact ⟨T, x, z, h1, h2, h3, h4 xs q.1, h5 ys q.2⟩
end
end RL
namespace RL
open PySem PySem.Spec PyProof.Rows L2

/-! ### zip of several tuples of one length -/
theorem forIn_zipIdx {β : Type} {M : Model} {A : Around} {E : Value → Shared → Prop} (body : Value × Nat → β → Sem (ForInStep β)) (b0 : β) (Iv : Nat → Shared → Prop) (Q : β → Shared → Prop) :
    ∀ (xs : List Value) (k : Nat) (s : Shared), Iv k s → (∀ j x s, xs[j]? = some x → Iv (k + j) s → wpAny M A (body (x, k + j) b0) (fun r s' => r = .yield b0 ∧ Iv (k + j + 1) s') E s) →
      (∀ s', Iv (k + xs.length) s' → Q b0 s') → wpAny M A (forIn (xs.zipIdx k) b0 body) Q E s
  | [], k, s, h0, _, hd => by
    simp only [List.zipIdx_nil, List.forIn_nil]
    exact wpAny_pure (hd s (by simpa using h0))
  | x :: xs, k, s, h0, hs, hd => by
    simp only [List.zipIdx_cons, List.forIn_cons]
    refine wpAny_bind (wpAny_mono (hs 0 x s rfl (by simpa using h0)) (fun r s' ⟨e, h1⟩ => ?_) fun _ _ z => z)
    subst e
    refine forIn_zipIdx body b0 Iv Q xs (k + 1) s' (by simpa using h1) (fun j y s2 hj h2 => ?_) fun s2 h2 => hd s2 ?_
    · have e1 : k + 1 + j = k + (j + 1) := by omega
      rw [e1] at h2 ⊢
      exact hs (j + 1) y s2 (by simpa using hj) h2
    · rw [List.length_cons]
      have e1 : k + (xs.length + 1) = k + 1 + xs.length := by omega
      rw [e1]
      exact h2

abbrev tupN (h : Heap) (T : Addr) (vs : List Value) : Prop := h.get? T = some { cls := .type "tuple", data := .seq vs.toArray }
structure ZA (z TI TO : Addr) (its src : List Addr) : Prop where
  TIz : TI ≠ z
  TOz : TO ≠ z
  TITO : TI ≠ TO
  iz : ∀ t ∈ its, t ≠ z
  iTI : ∀ t ∈ its, t ≠ TI
  iTO : ∀ t ∈ its, t ≠ TO
  nd : its.Nodup
  sz : ∀ l ∈ src, l ≠ z
  sTO : ∀ l ∈ src, l ≠ TO
  si : ∀ l ∈ src, ∀ t ∈ its, l ≠ t
  len : its.length = src.length
def ZSt (z TI TO : Addr) (its src : List Addr) (i : Nat) (h : Heap) : Prop :=
  IsZip h z TI TO .none ∧ tupN h TI (its.map Value.ref) ∧ (∃ cur : List Value, cur.length = its.length ∧ tupN h TO cur) ∧ ∀ (k : Nat) (t l : Addr), its[k]? = some t → src[k]? = some l → h.IsTupleIter t l i

section
variable {prog : Program} {w : World} {A : Around} {E : Value → Shared → Prop} {s : Shared} {z TI TO : Addr} {its src : List Addr} {i : Nat}
theorem zipN_next {Q : Value → Shared → Prop} {vs : List Value} (D : ZA z TI TO its src) (st : ZSt z TI TO its src i s.heap) (h0 : 0 < its.length) (h9 : its.length ≤ 100) (lv : vs.length = its.length)
    (hsrc : ∀ (k : Nat) (l : Addr) (v : Value), src[k]? = some l → vs[k]? = some v → ∃ arr : Array Value, s.heap.IsTuple l arr ∧ arr[i]? = some v)
    (hQ : ∀ h', IsZip h' z TI TO (rawInt s.heap.objs.size) → tupN h' TI (its.map Value.ref) → tupN h' TO vs → (∀ (k : Nat) (t l : Addr), its[k]? = some t → src[k]? = some l → h'.IsTupleIter t l (i + 1)) →
      tupN h' s.heap.objs.size vs → (∀ c o, c ≠ z → c ≠ TO → c ∉ its → s.heap.get? c = some o → h'.get? c = some o) → Q (.ref s.heap.objs.size) { s with heap := h' }) :
    wpAny (model prog w) A (Builtin.«zip.__next__» ⟨[.ref z], []⟩) (fun fin s' => ∃ v, fin = .done (.ret v) ∧ Q v s') E s := by
  obtain ⟨hz, hTI, ⟨cur, lc, hTO⟩, hit⟩ := st
  obtain ⟨hp, g, d, tk, os⟩ := s
  show wpAny _ _ (field (.ref z) 2 >>= _) _ _ _
  refine wpAny_bind (wpAny_field hz rfl (x := .bool false) rfl ?_)
  show wpAny _ _ (field (.ref z) 3 >>= _) _ _ _
  refine wpAny_bind (wpAny_field hz rfl (x := .ref TI) rfl ?_)
  refine wpAny_bind (wpAny_seqItems hTI rfl ?_)
  have ne : ((its.map Value.ref).toArray.isEmpty) = false := by
    cases its with
    | nil => simp at h0
    | cons t r => rfl
  simp only [ne]
  show wpAny _ _ (Builtin.SmallTypes.ownedTupleIsFree (.ref z) >>= _) _ _ _
  refine wpAny_bind ?_
  unfold Builtin.SmallTypes.ownedTupleIsFree
  refine wpAny_bind (wpAny_field hz rfl (x := .none) rfl (wpAny_pure ?_))
  simp only [if_true]
  refine wpAny_bind (wpAny_rule ?_)
  refine wpAny_bind (wpAny_field hz rfl (x := .ref TO) rfl ?_)
  refine wpAny_bind (wpAny_setField_rec hz (by simp) fun g0 hz0 hs0 => ?_)
  replace hz0 : IsZip g0 z TI TO .ellipsis := hz0
  replace hs0 : Heap.SameBut z hp g0 := hs0
  refine wpAny_bind (forIn_zipIdx _ _ (fun k s' => ∃ h' : Heap, s' = ⟨h', g, d, tk, os⟩ ∧ IsZip h' z TI TO .ellipsis ∧ tupN h' TO (vs.take k ++ cur.drop k) ∧ h'.objs.size = hp.objs.size ∧
      (∀ c o, c ≠ z → c ≠ TO → c ∉ its → hp.get? c = some o → h'.get? c = some o) ∧
      ∀ (j : Nat) (t l : Addr), its[j]? = some t → src[j]? = some l → h'.IsTupleIter t l (if j < k then i + 1 else i)) _ _ 0 _ ?_ ?_ ?_)
  · refine ⟨g0, rfl, hz0, hs0.extBut _ _ D.TOz (by simpa using hTO), hs0.1, fun c o c1 _ _ e => hs0.extBut _ _ c1 e, fun j t l hj hl => ?_⟩
    rw [if_neg (Nat.not_lt_zero j)]
    exact (hit j t l hj hl).extBut hs0.extBut (D.iz t (List.mem_of_getElem? hj))
  · rintro k x s1 hx ⟨h1, rfl, z1, to1, sz1, kp1, it1⟩
    rw [Nat.zero_add] at to1 it1 ⊢
    have hx2 : (its.map Value.ref)[k]? = some x := by simpa using hx
    rw [List.getElem?_map] at hx2
    obtain ⟨t, ht, rfl⟩ := Option.map_eq_some_iff.mp hx2
    have hk : k < its.length := (List.getElem?_eq_some_iff.mp ht).1
    have hks : k < src.length := by rw [← D.len]; exact hk
    have hkv : k < vs.length := by omega
    have hkc : k < cur.length := by omega
    have gl : src[k]? = some src[k] := List.getElem?_eq_getElem hks
    have gv : vs[k]? = some vs[k] := List.getElem?_eq_getElem hkv
    have mt : t ∈ its := List.mem_of_getElem? ht
    have ml : src[k] ∈ src := List.getElem_mem hks
    obtain ⟨arr, ha, hai⟩ := hsrc k _ _ gl gv
    have ha1 : h1.IsTuple src[k] arr := ha.at fun o e => kp1 _ o (D.sz _ ml) (D.sTO _ ml) (fun hm => D.si _ ml _ hm rfl) e
    have i1 := it1 k t _ ht gl
    rw [if_neg (Nat.lt_irrefl k)] at i1
    refine wpAny_bind (wpAny_onRaise ?_)
    show wpAny _ _ (Builtin.SmallTypes.nextOf (.ref t) >>= _) _ _ ⟨h1, g, d, tk, os⟩
    refine wpAny_bind (wpAny_nextOf_tuple_item i1 ha1 hai fun h2 i2 s2 => wpAny_pure ?_)
    replace s2 : Heap.SameBut t h1 h2 := s2
    have to2 : tupN h2 TO (vs.take k ++ cur.drop k) := s2.extBut _ _ (D.iTO t mt).symm to1
    refine wpAny_bind (wpAny_seqItems (s := ⟨h2, g, d, tk, os⟩) to2 rfl ?_)
    have lcat : (vs.take k ++ cur.drop k).length = its.length := by rw [List.length_append, List.length_take, List.length_drop]; omega
    have zz : (vs.take k ++ cur.drop k).toArray.size ≤ sizeLine := by rw [List.size_toArray, lcat]; exact Nat.le_trans h9 (by decide)
    refine wpAny_bind (wpAny_updateSeq (s := ⟨h2, g, d, tk, os⟩) to2 rfl ?_ zz (by rw [Array.size_setIfInBounds]; omega))
    have s3 : Heap.SameBut TO h2 (h2.update TO (Obj.mapSeq fun x => x.setIfInBounds k vs[k])) := Heap.SameBut.update ..
    refine wpAny_bind (wpAny_letGo (wpAny_pure ⟨rfl, _, rfl, ?_, ?_, ?_, ?_, ?_⟩))
    · exact s3.extBut _ _ D.TOz.symm (s2.extBut _ _ (D.iz t mt).symm z1)
    · show (h2.update TO (Obj.mapSeq fun x => x.setIfInBounds k vs[k])).get? TO = _
      rw [Heap.get?_update_self _ to2 rfl]
      have e1 : (vs.take k ++ cur.drop k).set k vs[k] = vs.take (k + 1) ++ cur.drop (k + 1) := by
        rw [List.set_append_right _ _ (by rw [List.length_take]; omega), List.length_take, Nat.min_eq_left (by omega), Nat.sub_self, List.drop_eq_getElem_cons hkc, List.set_cons_zero, List.take_add_one, gv, Option.toList_some, List.append_assoc]
        rfl
      have e2 : (vs.take k ++ cur.drop k).toArray.setIfInBounds k vs[k] = (vs.take (k + 1) ++ cur.drop (k + 1)).toArray := by rw [List.setIfInBounds_toArray, e1]
      have e3 : ((vs.take (k + 1) ++ cur.drop (k + 1)).toArray.size == (vs.take k ++ cur.drop k).toArray.size) = true := by
        rw [beq_iff_eq, List.size_toArray, List.size_toArray, lcat, List.length_append, List.length_take, List.length_drop]
        omega
      simp only [Obj.mapSeq, e2, e3, if_true]
    · exact s3.1.trans (s2.1.trans sz1)
    · intro c o c1 c2 c3 e
      exact s3.extBut _ _ c2 (s2.extBut _ _ (fun q => c3 (q ▸ mt)) (kp1 c o c1 c2 c3 e))
    · intro j t' l hj hl
      have mt' : t' ∈ its := List.mem_of_getElem? hj
      by_cases hjk : j = k
      · subst hjk
        rw [ht] at hj
        rw [gl] at hl
        cases hj
        cases hl
        rw [if_pos (Nat.lt_succ_self j)]
        exact i2.at fun o e => s3.extBut _ _ (D.iTO t mt) e
      · have i3 := it1 j t' l hj hl
        have e3 : (if j < k then i + 1 else i) = (if j < k + 1 then i + 1 else i) := by
          by_cases hlt : j < k
          · rw [if_pos hlt, if_pos (by omega)]
          · rw [if_neg hlt, if_neg (by omega)]
        rw [e3] at i3
        have tne : t' ≠ t := fun q => by
          subst q
          have hj' := (List.getElem?_eq_some_iff.mp hj)
          have ht' := (List.getElem?_eq_some_iff.mp ht)
          obtain ⟨b1, q1⟩ := hj'
          obtain ⟨b2, q2⟩ := ht'
          exact hjk ((List.getElem_inj D.nd).mp (q1.trans q2.symm))
        exact i3.at fun o e => s3.extBut _ _ (D.iTO t' mt') (s2.extBut _ _ tne e)
  · rintro s1 ⟨h1, rfl, z1, to1, sz1, kp1, it1⟩
    rw [Nat.zero_add] at to1 it1
    have el : ((its.map Value.ref).toArray.toList).length = its.length := by simp
    rw [el] at to1 it1
    rw [← lv, List.take_length, lv, ← lc, List.drop_length, List.append_nil] at to1
    refine wpAny_bind (wpAny_seqItems (s := ⟨h1, g, d, tk, os⟩) to1 rfl ?_)
    refine wpAny_bind (wpAny_newTuple ?_ (by rw [List.toList_toArray, lv]; exact Nat.le_trans h9 (by decide)))
    show wpAny _ _ (Builtin.SmallTypes.ownedTupleHandOut (.ref z) (.ref h1.objs.size) >>= _) _ _ ⟨h1.push { cls := .type "tuple", data := .seq vs.toArray }, g, d, tk, os⟩
    refine wpAny_bind ?_
    unfold Builtin.SmallTypes.ownedTupleHandOut
    have zlt : z < h1.objs.size := Heap.lt_size z1
    have z6 : IsZip (h1.push { cls := .type "tuple", data := .seq vs.toArray }) z TI TO .ellipsis := Heap.get?_push_of_some _ z1
    refine wpAny_bind (wpAny_setField_rec z6 (by simp) fun h7 z7 s7 => ?_)
    replace z7 : IsZip h7 z TI TO (rawInt h1.objs.size) := z7
    refine wpAny_setField_rec z7 (by simp) fun h8 z8 s8 => ?_
    replace z8 : IsZip h8 z TI TO (rawInt h1.objs.size) := z8
    replace s7 : Heap.SameBut z (h1.push { cls := .type "tuple", data := .seq vs.toArray }) h7 := s7
    replace s8 : Heap.SameBut z h7 h8 := s8
    have up : ∀ c o, c ≠ z → h1.get? c = some o → h8.get? c = some o := fun c o c1 e => s8.extBut _ _ c1 (s7.extBut _ _ c1 (Heap.get?_push_of_some _ e))
    have nu : tupN h8 h1.objs.size vs := s8.extBut _ _ (Nat.ne_of_gt zlt) (s7.extBut _ _ (Nat.ne_of_gt zlt) (Heap.get?_push_size _ rfl))
    rw [sz1] at z8 nu
    refine wpAny_pure ⟨_, rfl, ?_⟩
    show Q (.ref h1.objs.size) ⟨h8, g, d, tk, os⟩
    rw [sz1]
    refine hQ h8 z8 (up _ _ D.TIz (kp1 _ _ D.TIz D.TITO (fun hm => D.iTI _ hm rfl) hTI)) (up _ _ D.TOz to1) (fun k t l hk hl => ?_) nu fun c o c1 c2 c3 e => up c o c1 (kp1 c o c1 c2 c3 e)
    have := it1 k t l hk hl
    rw [if_pos (List.getElem?_eq_some_iff.mp hk).1] at this
    exact this.at fun o e => up _ o (D.iz t (List.mem_of_getElem? hk)) e
/-- no item left: the first one says so -/
theorem zipN_stop {Q : Fin → Shared → Prop} (hh : A.handled = none) (D : ZA z TI TO its src) (st : ZSt z TI TO its src i s.heap) (h0 : 0 < its.length)
    {l0 : Addr} {arr : Array Value} (hl : src[0]? = some l0) (ha : s.heap.IsTuple l0 arr) (hn : arr[i]? = none)
    (hE : ∀ h' e, (∀ c o, c ≠ z → c ≠ TO → c ∉ its → s.heap.get? c = some o → h'.get? c = some o) → (∃ o, h'.get? e = some o ∧ o.cls = .type "StopIteration") → E (.ref e) { s with heap := h' }) :
    wpAny (model prog w) A (Builtin.«zip.__next__» ⟨[.ref z], []⟩) Q E s := by
  obtain ⟨hz, hTI, ⟨cur, lc, hTO⟩, hit⟩ := st
  obtain ⟨hp, g, d, tk, os⟩ := s
  cases its with
  | nil => simp at h0
  | cons t r =>
    have mt : t ∈ t :: r := List.mem_cons_self
    have ml : l0 ∈ src := List.mem_of_getElem? hl
    show wpAny _ _ (field (.ref z) 2 >>= _) _ _ _
    refine wpAny_bind (wpAny_field hz rfl (x := .bool false) rfl ?_)
    show wpAny _ _ (field (.ref z) 3 >>= _) _ _ _
    refine wpAny_bind (wpAny_field hz rfl (x := .ref TI) rfl ?_)
    refine wpAny_bind (wpAny_seqItems hTI rfl ?_)
    have ne : (((t :: r).map Value.ref).toArray.isEmpty) = false := rfl
    simp only [ne]
    show wpAny _ _ (Builtin.SmallTypes.ownedTupleIsFree (.ref z) >>= _) _ _ _
    refine wpAny_bind ?_
    unfold Builtin.SmallTypes.ownedTupleIsFree
    refine wpAny_bind (wpAny_field hz rfl (x := .none) rfl (wpAny_pure ?_))
    simp only [if_true]
    refine wpAny_bind (wpAny_rule ?_)
    refine wpAny_bind (wpAny_field hz rfl (x := .ref TO) rfl ?_)
    refine wpAny_bind (wpAny_setField_rec hz (by simp) fun g0 hz0 hs0 => ?_)
    replace hz0 : IsZip g0 z TI TO .ellipsis := hz0
    replace hs0 : Heap.SameBut z hp g0 := hs0
    refine wpAny_bind ?_
    simp only [List.map_cons, List.zipIdx_cons, List.forIn_cons]
    refine wpAny_bind (wpAny_bind (wpAny_onRaise ?_))
    show wpAny _ _ (Builtin.SmallTypes.nextOf (.ref t) >>= _) _ _ ⟨g0, g, d, tk, os⟩
    refine wpAny_bind (wpAny_nextOf_tuple_end hh ((hit 0 t l0 rfl hl).extBut hs0.extBut (D.iz t mt)) (ha.extBut hs0.extBut (D.sz l0 ml)) hn fun h2 e s2 he => ?_)
    replace s2 : Heap.ExtBut t g0 h2 := s2
    obtain ⟨oe, hoe, hce⟩ := he
    replace hoe : h2.get? e = some oe := hoe
    have z2 : IsZip h2 z TI TO .ellipsis := s2 _ _ (D.iz t mt).symm hz0
    have ez : e ≠ z := fun x => by
      subst x
      rw [z2] at hoe
      cases hoe
      simp at hce
    refine wpAny_setField_rec (s := ⟨h2, g, d, tk, os⟩) z2 (by simp) fun h3 _ s3 => ?_
    replace s3 : Heap.SameBut z h2 h3 := s3
    exact hE h3 e (fun c o c1 c2 c3 x => s3.extBut _ _ c1 (s2 _ _ (fun q => c3 (q ▸ mt)) (hs0.extBut _ _ c1 x))) ⟨oe, s3.extBut _ _ ez hoe, hce⟩

theorem pyNext_zipN {Q : Option Value → Shared → Prop} {vs : List Value} (D : ZA z TI TO its src) (st : ZSt z TI TO its src i s.heap) (h0 : 0 < its.length) (h9 : its.length ≤ 100) (lv : vs.length = its.length)
    (hsrc : ∀ (k : Nat) (l : Addr) (v : Value), src[k]? = some l → vs[k]? = some v → ∃ arr : Array Value, s.heap.IsTuple l arr ∧ arr[i]? = some v)
    (hQ : ∀ h', IsZip h' z TI TO (rawInt s.heap.objs.size) → tupN h' TI (its.map Value.ref) → tupN h' TO vs → (∀ (k : Nat) (t l : Addr), its[k]? = some t → src[k]? = some l → h'.IsTupleIter t l (i + 1)) →
      tupN h' s.heap.objs.size vs → (∀ c o, c ≠ z → c ≠ TO → c ∉ its → s.heap.get? c = some o → h'.get? c = some o) → Q (some (.ref s.heap.objs.size)) { s with heap := h' }) :
    wpAny (model prog w) A (pyNext (.ref z)) Q E s := by
  have hT : s.TypeIs (.ref z) "zip" := ⟨_, st.1, rfl⟩
  unfold pyNext
  refine wpAny_bind (wpAny_attempt (wpAny_callSpecial?_slot (name := Str.ofString "__next__") hT F.slot_zip_next (wpAny_call_entry F.slot_zip_next hT F.entry_zip_next ?_ (F.args_zip_next_1 _))))
  exact zipN_next D st h0 h9 lv hsrc fun h' a1 a2 a3 a4 a5 a6 => wpAny_pure (hQ h' a1 a2 a3 a4 a5 a6)
theorem pyNext_zipN_end {Q : Option Value → Shared → Prop} (hh : A.handled = none) (D : ZA z TI TO its src) (st : ZSt z TI TO its src i s.heap) (h0 : 0 < its.length)
    {l0 : Addr} {arr : Array Value} (hl : src[0]? = some l0) (ha : s.heap.IsTuple l0 arr) (hn : arr[i]? = none)
    (hQ : ∀ h', (∀ c o, c ≠ z → c ≠ TO → c ∉ its → s.heap.get? c = some o → h'.get? c = some o) → Q none { s with heap := h' }) : wpAny (model prog w) A (pyNext (.ref z)) Q E s := by
  have hT : s.TypeIs (.ref z) "zip" := ⟨_, st.1, rfl⟩
  unfold pyNext
  refine wpAny_bind (wpAny_attempt (wpAny_callSpecial?_slot (name := Str.ofString "__next__") hT F.slot_zip_next (wpAny_call_entry F.slot_zip_next hT F.entry_zip_next ?_ (F.args_zip_next_1 _))))
  refine zipN_stop (by exact hh) D st h0 hl ha hn fun h' e hk ⟨o, ho, hc⟩ => ?_
  exact wpAny_bind (wpAny_isInstance (T := "StopIteration") (b := true) ⟨o, ho, hc⟩ isSubtype_stop (wpAny_pure (hQ _ hk)))
end
/-! ### zip of four tuples begins -/
theorem tc_zip4 (a b c d : Value) : checkTypeCall "zip" ⟨[a, b, c, d], []⟩ = pure () := by kernel_rfl
theorem nc_zip4 (a b c d : Value) : checkBuiltinCall "zip.__new__" ⟨[.type "zip", a, b, c, d], []⟩ = pure () := by kernel_rfl
theorem oi_zip4 (o a b c d : Value) : argsOk "object.__init__" ⟨[o, a, b, c, d], []⟩ := by unfold argsOk; kernel_rfl
abbrev itO (l : Addr) : Obj := { cls := .type "tuple_iterator", data := .fields #[.ref l, .int 0 0] }
abbrev z4a (h : Heap) (l1 l2 l3 l4 : Addr) : Heap := (((h.push (itO l1)).push (itO l2)).push (itO l3)).push (itO l4)
abbrev z4b (h : Heap) (l1 l2 l3 l4 : Addr) : Heap := (z4a h l1 l2 l3 l4).push { cls := .type "tuple", data := .seq #[.ref h.objs.size, .ref (h.push (itO l1)).objs.size, .ref ((h.push (itO l1)).push (itO l2)).objs.size, .ref (((h.push (itO l1)).push (itO l2)).push (itO l3)).objs.size] }
abbrev z4c (h : Heap) (l1 l2 l3 l4 : Addr) : Heap := (z4b h l1 l2 l3 l4).push { cls := .type "tuple", data := .seq #[.none, .none, .none, .none] }
abbrev z4d (h : Heap) (l1 l2 l3 l4 : Addr) : Heap := (z4c h l1 l2 l3 l4).push { cls := .type "zip", data := .fields #[.none, .bool false, .bool false, .ref (z4a h l1 l2 l3 l4).objs.size, .ref (z4b h l1 l2 l3 l4).objs.size] }
theorem meets_zip4 (l1 l2 l3 l4 : Addr) (b1 b2 b3 b4 : Array Value) :
    Meets (Builtin.«zip.__new__» ⟨[.type "zip", .ref l1, .ref l2, .ref l3, .ref l4], []⟩) (fun _ R s => (s.heap.IsTuple l1 b1 ∧ s.heap.IsTuple l2 b2 ∧ s.heap.IsTuple l3 b3 ∧ s.heap.IsTuple l4 b4) ∧
      R (.ok (.ret (.ref (z4c s.heap l1 l2 l3 l4).objs.size))) { s with heap := z4d s.heap l1 l2 l3 l4 }) :=
  .of_wp fun prog w A R s h => by
    obtain ⟨hp, g, d, tk, os⟩ := s
    obtain ⟨⟨h1, h2, h3, h4⟩, h⟩ := h
    have hsub := sub_zip
    have q1 : Heap.IsTuple (Shared.heap ⟨hp, g, d, tk, os⟩) l1 b1 := h1
    have q2 : Heap.IsTuple (Shared.heap ⟨hp.push (itO l1), g, d, tk, os⟩) l2 b2 := Heap.IsTuple.push h2 _
    have q3 : Heap.IsTuple (Shared.heap ⟨(hp.push (itO l1)).push (itO l2), g, d, tk, os⟩) l3 b3 := Heap.IsTuple.push (Heap.IsTuple.push h3 _) _
    have q4 : Heap.IsTuple (Shared.heap ⟨((hp.push (itO l1)).push (itO l2)).push (itO l3), g, d, tk, os⟩) l4 b4 := Heap.IsTuple.push (Heap.IsTuple.push (Heap.IsTuple.push h4 _) _) _
    wp_walk using wpAny_pyIter_tuple q1, wpAny_pyIter_tuple q2, wpAny_pyIter_tuple q3, wpAny_pyIter_tuple q4
    exact ⟨_, rfl, h⟩
section
variable {prog : Program} {w : World} {A : Around} {E : Value → Shared → Prop} {s : Shared}
theorem call_zip4 {l1 l2 l3 l4 : Addr} {b1 b2 b3 b4 : Array Value} {Q : Value → Shared → Prop} (h1 : s.heap.IsTuple l1 b1) (h2 : s.heap.IsTuple l2 b2) (h3 : s.heap.IsTuple l3 b3) (h4 : s.heap.IsTuple l4 b4)
    (h : ∀ h', ZSt (s.heap.objs.size + 6) (s.heap.objs.size + 4) (s.heap.objs.size + 5) [s.heap.objs.size, s.heap.objs.size + 1, s.heap.objs.size + 2, s.heap.objs.size + 3] [l1, l2, l3, l4] 0 h' →
      (∀ c o, s.heap.get? c = some o → h'.get? c = some o) → Q (.ref (s.heap.objs.size + 6)) { s with heap := h' }) :
    wpAny (model prog w) A (call (.type "zip") [.ref l1, .ref l2, .ref l3, .ref l4]) Q E s := by
  refine callType_new F.called_zip (by decide) (tc_zip4 _ _ _ _) (nc_zip4 _ _ _ _) (fun obj => oi_zip4 obj _ _ _ _) F.entry_zip_new (meets_zip4 l1 l2 l3 l4 b1 b2 b3 b4) ⟨⟨h1, h2, h3, h4⟩, ?_⟩
  have n1 : (s.heap.push (itO l1)).objs.size = s.heap.objs.size + 1 := Heap.size_push ..
  have n2 : ((s.heap.push (itO l1)).push (itO l2)).objs.size = s.heap.objs.size + 2 := by rw [Heap.size_push, n1]
  have n3 : (((s.heap.push (itO l1)).push (itO l2)).push (itO l3)).objs.size = s.heap.objs.size + 3 := by rw [Heap.size_push, n2]
  have n4 : (z4a s.heap l1 l2 l3 l4).objs.size = s.heap.objs.size + 4 := by rw [Heap.size_push, n3]
  have n5 : (z4b s.heap l1 l2 l3 l4).objs.size = s.heap.objs.size + 5 := by rw [Heap.size_push, n4]
  have n6 : (z4c s.heap l1 l2 l3 l4).objs.size = s.heap.objs.size + 6 := by rw [Heap.size_push, n5]
  have up1 : ∀ {hh : Heap} {o : Obj} {c : Addr} {x : Obj}, hh.get? c = some x → (hh.push o).get? c = some x := fun e => Heap.get?_push_of_some _ e
  have g6 : (z4d s.heap l1 l2 l3 l4).get? (z4c s.heap l1 l2 l3 l4).objs.size = some { cls := .type "zip", data := .fields #[.none, .bool false, .bool false, .ref (z4a s.heap l1 l2 l3 l4).objs.size, .ref (z4b s.heap l1 l2 l3 l4).objs.size] } := Heap.get?_push_size _ rfl
  have g5 : (z4d s.heap l1 l2 l3 l4).get? (z4b s.heap l1 l2 l3 l4).objs.size = some { cls := .type "tuple", data := .seq #[.none, .none, .none, .none] } := up1 (Heap.get?_push_size _ rfl)
  have g4 : (z4d s.heap l1 l2 l3 l4).get? (z4a s.heap l1 l2 l3 l4).objs.size = some { cls := .type "tuple", data := .seq #[.ref s.heap.objs.size, .ref (s.heap.push (itO l1)).objs.size, .ref ((s.heap.push (itO l1)).push (itO l2)).objs.size, .ref (((s.heap.push (itO l1)).push (itO l2)).push (itO l3)).objs.size] } := up1 (up1 (Heap.get?_push_size _ rfl))
  have g3 : (z4d s.heap l1 l2 l3 l4).get? (((s.heap.push (itO l1)).push (itO l2)).push (itO l3)).objs.size = some (itO l4) := up1 (up1 (up1 (Heap.get?_push_size _ rfl)))
  have g2 : (z4d s.heap l1 l2 l3 l4).get? ((s.heap.push (itO l1)).push (itO l2)).objs.size = some (itO l3) := up1 (up1 (up1 (up1 (Heap.get?_push_size _ rfl))))
  have g1 : (z4d s.heap l1 l2 l3 l4).get? (s.heap.push (itO l1)).objs.size = some (itO l2) := up1 (up1 (up1 (up1 (up1 (Heap.get?_push_size _ rfl)))))
  have g0 : (z4d s.heap l1 l2 l3 l4).get? s.heap.objs.size = some (itO l1) := up1 (up1 (up1 (up1 (up1 (up1 (Heap.get?_push_size _ rfl))))))
  rw [n6, n5, n4] at g6
  rw [n5] at g5
  rw [n4, n3, n2, n1] at g4
  rw [n3] at g3
  rw [n2] at g2
  rw [n1] at g1
  show _ ∧ _
  rw [n6]
  refine ⟨⟨_, g6, rfl⟩, h _ ⟨g6, g4, ⟨[.none, .none, .none, .none], rfl, g5⟩, fun k t l hk hl => ?_⟩ fun c o e => up1 (up1 (up1 (up1 (up1 (up1 (up1 e))))))⟩
  match k, hk, hl with
  | 0, hk, hl => cases hk; cases hl; exact ⟨_, g0, rfl, rfl⟩
  | 1, hk, hl => cases hk; cases hl; exact ⟨_, g1, rfl, rfl⟩
  | 2, hk, hl => cases hk; cases hl; exact ⟨_, g2, rfl, rfl⟩
  | 3, hk, hl => cases hk; cases hl; exact ⟨_, g3, rfl, rfl⟩
  | k + 4, hk, hl => simp at hk
end
theorem nne {a b : Nat} (h : a < b ∨ b < a) : a ≠ b := by omega
theorem apart4 {N l1 l2 l3 l4 : Nat} (h1 : l1 < N) (h2 : l2 < N) (h3 : l3 < N) (h4 : l4 < N) : ZA (N + 6) (N + 4) (N + 5) [N, N + 1, N + 2, N + 3] [l1, l2, l3, l4] := by
  have four : ∀ {P : Nat → Prop} {a b c d : Nat}, P a → P b → P c → P d → ∀ t ∈ [a, b, c, d], P t := fun {P a b c d} p1 p2 p3 p4 t ht => by
    simp only [List.mem_cons, List.not_mem_nil, or_false] at ht
    rcases ht with rfl | rfl | rfl | rfl <;> assumption
  refine ⟨nne (by omega), nne (by omega), nne (by omega), ?_, ?_, ?_, ?_, ?_, ?_, ?_, rfl⟩
  · exact four (P := fun t => t ≠ N + 6) (nne (by omega)) (nne (by omega)) (nne (by omega)) (nne (by omega))
  · exact four (P := fun t => t ≠ N + 4) (nne (by omega)) (nne (by omega)) (nne (by omega)) (nne (by omega))
  · exact four (P := fun t => t ≠ N + 5) (nne (by omega)) (nne (by omega)) (nne (by omega)) (nne (by omega))
  · have : ([N, N + 1, N + 2, N + 3] : List Nat).Nodup := by
      simp only [List.nodup_cons, List.mem_cons, List.not_mem_nil, or_false, not_or, List.nodup_nil, and_true, not_false_iff]
      exact ⟨⟨by omega, by omega, by omega⟩, ⟨by omega, by omega⟩, by omega⟩
    exact this
  · exact four (P := fun t => t ≠ N + 6) (nne (by omega)) (nne (by omega)) (nne (by omega)) (nne (by omega))
  · exact four (P := fun t => t ≠ N + 5) (nne (by omega)) (nne (by omega)) (nne (by omega)) (nne (by omega))
  · have one : ∀ l : Nat, l < N → ∀ t ∈ [N, N + 1, N + 2, N + 3], l ≠ t := fun l hl => four (P := fun t => l ≠ t) (nne (by omega)) (nne (by omega)) (nne (by omega)) (nne (by omega))
    exact four (P := fun l => ∀ t ∈ [N, N + 1, N + 2, N + 3], l ≠ t) (one l1 h1) (one l2 h2) (one l3 h3) (one l4 h4)

/-! ### over the layer -/
def ItzN (K : PySem.W.Frag) (src : List Addr) : It :=
  ⟨fun i H => ∃ xss : List (List V), xss.length = src.length ∧ ∀ (k : Nat) (l : Addr) (xs : List V), src[k]? = some l → xss[k]? = some xs → SqT K H l xs ∧ i < xs.length,
    fun i H v H' => ∃ (T : Addr) (ys : List V), v = .ref T ∧ H T = none ∧ H' = upd H T (.tup ys) ∧ ys.length = src.length ∧ ∀ (k : Nat) (l : Addr) (xs : List V), src[k]? = some l → SqT K H l xs → xs[i]? = ys[k]?,
    fun i H => ∃ (l0 : Addr) (xs : List V), src[0]? = some l0 ∧ SqT K H l0 xs ∧ i = xs.length⟩
theorem itemsN {X : Cx} {pins : List (Addr × Obj)} {σ : L2.St} {H : Hp} {s : Shared} {i : Nat} (I : Inv X pins σ H s) : ∀ (src : List Addr) (xss : List (List V)), xss.length = src.length →
    (∀ (k : Nat) (l : Addr) (xs : List V), src[k]? = some l → xss[k]? = some xs → SqT X.K H l xs ∧ i < xs.length) →
    ∃ (ys : List V) (vs : List Value), ys.length = src.length ∧ Vals ys vs ∧ (∀ (k : Nat) (l : Addr) (v : Value), src[k]? = some l → vs[k]? = some v → ∃ arr : Array Value, s.heap.IsTuple l arr ∧ arr[i]? = some v) ∧
      ∀ (k : Nat) (l : Addr) (xs : List V), src[k]? = some l → xss[k]? = some xs → xs[i]? = ys[k]?
  | [], [], _, _ => ⟨[], [], rfl, .nil, fun k l v hk => by simp at hk, fun k l xs hk => by simp at hk⟩
  | [], _ :: _, h, _ => by simp at h
  | _ :: _, [], h, _ => by simp at h
  | l0 :: src, x0 :: xss, hl, h => by
    obtain ⟨ys, vs, e1, e2, e3, e4⟩ := itemsN I src xss (by simpa using hl) fun k l xs hk hx => h (k + 1) l xs (by simpa using hk) (by simpa using hx)
    obtain ⟨q, hi⟩ := h 0 l0 x0 rfl rfl
    obtain ⟨its, rv, p, _⟩ := I.tuple q
    have gx : x0[i]? = some x0[i] := List.getElem?_eq_getElem hi
    obtain ⟨u, hu, ru⟩ := rv.get gx
    refine ⟨x0[i] :: ys, u :: vs, by simp [e1], .cons ru e2, fun k l v hk hv => ?_, fun k l xs hk hx => ?_⟩
    · cases k with
      | zero => cases hk; cases hv; exact ⟨_, p, by simpa using hu⟩
      | succ k => exact e3 k l v (by simpa using hk) (by simpa using hv)
    · cases k with
      | zero => cases hk; cases hx; exact gx
      | succ k => exact e4 k l xs (by simpa using hk) (by simpa using hx)
theorem turn_zipN {P : Program} {w : World} {K : PySem.W.Frag} {elts : List Expr} {kk : Nat} {tpos : Pos} {z TI TO : Addr} {its src : List Addr} (D : ZA z TI TO its src) (h0 : 0 < its.length) (h9 : its.length ≤ 100) :
    Turn P w K (.Tuple elts kk tpos) (ItzN K src) (z :: TI :: TO :: its) z (ZSt z TI TO its src) where
  mem := List.mem_cons_self
  obj := fun i h st c hc => by
    obtain ⟨hz, hTI, ⟨cur, lc, hTO⟩, hit⟩ := st
    rcases List.mem_cons.mp hc with rfl | hc
    · exact ⟨_, hz, fun _ q => nomatch q⟩
    rcases List.mem_cons.mp hc with rfl | hc
    · exact ⟨_, hTI, fun _ q => nomatch q⟩
    rcases List.mem_cons.mp hc with rfl | hc
    · exact ⟨_, hTO, fun _ q => nomatch q⟩
    obtain ⟨k, hk⟩ := List.mem_iff_getElem?.mp hc
    have hlt : k < src.length := by rw [← D.len]; exact (List.getElem?_eq_some_iff.mp hk).1
    obtain ⟨o, e, _, d⟩ := hit k c _ hk (List.getElem?_eq_getElem hlt)
    exact ⟨o, e, fun _ q => by rw [d] at q; cases q⟩
  keep := fun i h h' st k => by
    obtain ⟨hz, hTI, ⟨cur, lc, hTO⟩, hit⟩ := st
    refine ⟨k z (by simp) _ hz, k TI (by simp) _ hTI, ⟨cur, lc, k TO (by simp) _ hTO⟩, fun j t l hj hl => ?_⟩
    have mt : t ∈ z :: TI :: TO :: its := by simp [List.mem_of_getElem? hj]
    exact (hit j t l hj hl).at (k t mt)
  item := by
    intro X hP hw hK hc i pins s σ H E I hf st hg
    subst hP hw hK
    obtain ⟨xss, lx, hx⟩ := hg
    obtain ⟨ys, vs, l1, rv, hs, hy⟩ := itemsN I src xss lx hx
    have lv : vs.length = its.length := by rw [← rv.length, l1, D.len]
    have hzl : z < s.heap.objs.size := Heap.lt_size st.1
    obtain ⟨hz, hTI, ⟨cur, lc, hTO⟩, hit⟩ := id st
    refine pyNext_zipN D st h0 h9 lv hs fun h' z' TI' TO' it' hT hk => ?_
    refine ⟨_, rfl, wpAny_letOwnedTupleGo_zip (s := { s with heap := h' }) z' fun h'' z'' sb => ?_⟩
    replace sb : Heap.SameBut z h' h'' := sb
    have hT2 : h''.get? s.heap.objs.size = some { cls := .type "tuple", data := .seq vs.toArray } := sb.extBut _ _ (Nat.ne_of_gt hzl) hT
    have new : ObjOk X.prog X.w (upd H s.heap.objs.size (.tup ys)) h'' s.heap.objs.size (.tup ys) :=
      ⟨by rw [l1, ← D.len]; exact Nat.le_trans h9 (by decide), vs, rv, ⟨_, hT2, rfl, _, rfl⟩⟩
    have far : ∀ c o, c ∉ z :: TI :: TO :: its → s.heap.get? c = some o → h''.get? c = some o := fun c o hb q => by
      simp only [List.mem_cons, not_or] at hb
      exact sb.extBut _ _ hb.1 (hk c o hb.1 hb.2.2.1 hb.2.2.2 q)
    have I1 := I.turnedNew (t' := s.toks) (ch := z :: TI :: TO :: its) far hf (Nat.le_refl _) new
    refine ⟨.ref s.heap.objs.size, _, I1, rfl, ⟨_, ys, rfl, I.hok.fresh (Nat.le_refl _), rfl, l1, fun k l xs hk hq => ?_⟩, ⟨z'', sb.extBut _ _ D.TIz TI', ⟨vs, lv, sb.extBut _ _ D.TOz TO'⟩, fun k t l hk hl => ?_⟩, fun c hcm => ?_⟩
    · have hkl : k < xss.length := by rw [lx]; exact (List.getElem?_eq_some_iff.mp hk).1
      have gx : xss[k]? = some xss[k] := List.getElem?_eq_getElem hkl
      rw [I.tuple_inj hq (hx k l _ hk gx).1]
      exact hy k l _ hk gx
    · exact (it' k t l hk hl).at fun o e => sb.extBut _ _ (D.iz t (List.mem_of_getElem? hk)) e
    · have hlt : c < s.heap.objs.size := by
        rcases List.mem_cons.mp hcm with rfl | hc1
        · exact hzl
        rcases List.mem_cons.mp hc1 with rfl | hc1
        · exact Heap.lt_size hTI
        rcases List.mem_cons.mp hc1 with rfl | hc1
        · exact Heap.lt_size hTO
        obtain ⟨k, hk⟩ := List.mem_iff_getElem?.mp hc1
        have hks : k < src.length := by rw [← D.len]; exact (List.getElem?_eq_some_iff.mp hk).1
        obtain ⟨o, e, _⟩ := hit k c _ hk (List.getElem?_eq_getElem hks)
        exact Heap.lt_size e
      rw [upd_ne (Nat.ne_of_lt hlt)]
      exact (hf c hcm).1
  done := by
    intro X hP hw hK hc i pins s σ H E I hf st hg
    subst hP hw hK
    obtain ⟨l0, xs, hl, q, hi⟩ := hg
    obtain ⟨its2, rv, p, _⟩ := I.tuple q
    have lx := rv.length
    refine pyNext_zipN_end (I.ok.hd hc) D st h0 hl p (by simp; omega) fun h' hk => ⟨rfl, I.turnedL (t' := s.toks) (ch := z :: TI :: TO :: its) (fun c o hb q => ?_) hf⟩
    simp only [List.mem_cons, not_or] at hb
    exact hk c o hb.1 hb.2.2.1 hb.2.2.2 q
  self := fun A i s Q E st h => wpAny_pyIter_zip st.1 h
def iZip4 (K : PySem.W.Frag) (ta : TA) : TI := fun σ H R => ta σ H fun vs H1 => ∃ a b c d x1 x2 x3 x4, vs = [.ref a, .ref b, .ref c, .ref d] ∧ SqT K H1 a x1 ∧ SqT K H1 b x2 ∧ SqT K H1 c x3 ∧ SqT K H1 d x4 ∧ R (ItzN K [a, b, c, d]) H1
theorem pi_zip4 {X : Cx} {e1 e2 e3 e4 : Expr} {ta : TA} {p pos tpos : Pos} {elts : List Expr} {kk : Nat} (hg : Gl X "zip") (hm : X.mg "zip" = none) (ha : PA X [e1, e2, e3, e4] ta)
    (hs : starEach [e1, e2, e3, e4] X.env = (false, eval e1 X.env) :: starEach [e2, e3, e4] X.env := by rfl) (hpl : (backTo pos (starEach [e2, e3, e4] X.env)).any (·.1) = false := by rfl) :
    PI X (.Tuple elts kk tpos) (.Call (.Name "zip" p) [e1, e2, e3, e4] [] pos) (iZip4 X.K ta) := by
  refine ⟨fun pins s σ H R I h => Call_ (ld_blt I hg hm PyProof.Rows.boot_zip (PyProof.Rows.callWith_type1 (thn (ha.run pos pins s σ H _ I h) ?_) hs hpl))⟩
  intro us s1 ⟨vs, H1, I1, r1, a, b, c, d, x1, x2, x3, x4, ex, q1, q2, q3, q4, q⟩
  subst ex
  cases r1 with
  | cons r rr =>
    cases r
    cases rr with
    | cons r rr =>
      cases r
      cases rr with
      | cons r rr =>
        cases r
        cases rr with
        | cons r rr =>
          cases r
          cases rr
          obtain ⟨_, _, p1, _⟩ := I1.tuple q1
          obtain ⟨_, _, p2, _⟩ := I1.tuple q2
          obtain ⟨_, _, p3, _⟩ := I1.tuple q3
          obtain ⟨_, _, p4, _⟩ := I1.tuple q4
          obtain ⟨_, o1, _⟩ := id p1
          obtain ⟨_, o2, _⟩ := id p2
          obtain ⟨_, o3, _⟩ := id p3
          obtain ⟨_, o4, _⟩ := id p4
          refine call_zip4 p1 p2 p3 p4 fun h' st hk => wpAny_pyIter_zip st.1 ?_
          refine ⟨_, _, _, _, H1, rfl, I1.kept (t' := s1.toks) hk, turn_zipN (apart4 (Heap.lt_size o1) (Heap.lt_size o2) (Heap.lt_size o3) (Heap.lt_size o4)) (by simp) (by simp), st, fun c hcm => ?_, q⟩
          have hle : s1.heap.objs.size ≤ c := by
            simp only [List.mem_cons, List.not_mem_nil, or_false] at hcm
            rcases hcm with rfl | rfl | rfl | rfl | rfl | rfl | rfl
            · exact Nat.le_add_right _ _
            · exact Nat.le_add_right _ _
            · exact Nat.le_add_right _ _
            · exact Nat.le_refl _
            · exact Nat.le_add_right _ _
            · exact Nat.le_add_right _ _
            · exact Nat.le_add_right _ _
          exact I1.fpOk hle (I1.hok.fresh hle)
theorem walk_zip4 {K : PySem.W.Frag} {a b c d : Addr} {x1 x2 x3 x4 : List V} (l2 : x2.length = x1.length) (l3 : x3.length = x1.length) (l4 : x4.length = x1.length) :
    Walk (ItzN K [a, b, c, d]) x1.length (fun H => SqT K H a x1 ∧ SqT K H b x2 ∧ SqT K H c x3 ∧ SqT K H d x4)
      (fun i H v H' => ∃ T y1 y2 y3 y4, v = .ref T ∧ H T = none ∧ H' = upd H T (.tup [y1, y2, y3, y4]) ∧ x1[i]? = some y1 ∧ x2[i]? = some y2 ∧ x3[i]? = some y3 ∧ x4[i]? = some y4) := by
  refine ⟨fun i H hi ⟨q1, q2, q3, q4⟩ => ⟨[x1, x2, x3, x4], rfl, fun k l xs hk hx => ?_⟩, fun H ⟨q1, _⟩ => ⟨a, x1, rfl, q1, rfl⟩, fun i H v H' hi ⟨q1, q2, q3, q4⟩ y => ?_⟩
  · match k, hk, hx with
    | 0, hk, hx => cases hk; cases hx; exact ⟨q1, hi⟩
    | 1, hk, hx => cases hk; cases hx; exact ⟨q2, by omega⟩
    | 2, hk, hx => cases hk; cases hx; exact ⟨q3, by omega⟩
    | 3, hk, hx => cases hk; cases hx; exact ⟨q4, by omega⟩
    | k + 4, hk, hx => simp at hk
  · obtain ⟨T, ys, e1, e2, e3, ly, hy⟩ := y
    have y1 := hy 0 a x1 rfl q1
    have y2 := hy 1 b x2 rfl q2
    have y3 := hy 2 c x3 rfl q3
    have y4 := hy 3 d x4 rfl q4
    match ys, ly with
    | [v1, v2, v3, v4], _ => exact ⟨T, v1, v2, v3, v4, e1, e2, e3, y1, y2, y3, y4⟩
end RL
namespace RL
open PySem PySem.Spec PyProof.Rows L2

/-! ### a def's promise where nothing is being shown (guards): for the defs that call repr -/
structure FnG (P : Program) (w : World) (K : PySem.W.Frag) (mg : Str → Option Value) (base : Heap) (k : Nat) (f : Addr) (fd : FuncData) (ps : List Str) (sp : Sp) : Prop where
  len : ∀ vs H Q E, sp vs H Q E → vs.length = ps.length
  run : ∀ (A : Around) (outer : List Env) (s : Shared) (H : Hp) (args : Args) (us : List Value) (vs : List V) (Q : VK) (E : XK),
    A.guards = some [] → Room k A → Env0 P w K mg base A outer s H → BindsTo s fd args (ps.zip us) → Vals vs us → sp vs H Q E → codeAny (model P w) A (.call (.ref f) args) (CR CX0 outer P w H s Q E) s

theorem guards_deeper {A : Around} {env : Env} (h : A.guards = some []) : (A.deeper env).guards = some [] := h

section
variable {P : Program} {w : World} {K : PySem.W.Frag} {mg : Str → Option Value} {base : Heap} {k : Nat} {f : Addr} {fd : FuncData} {N ps : List Str} {sp : Sp}
theorem fnG {x qual : Str} {st : Stmt} (F : Fun K x qual st f fd) (S : FnScope N ps (defScope st)) (len : ∀ vs H Q E, sp vs H Q E → vs.length = ps.length)
    (hbody : ∀ (cdv : Value) (A : Around) (outer : List Env) (s : Shared) (H : Hp) (vs : List V) (Q : VK) (E : XK), A.guards = some [] → Room k (A.deeper (envOfC qual (defScope st) s.heap.objs.size f cdv)) → sp vs H Q E →
      ∃ t, PSs (cxOf CX0 P w K mg base N qual (defScope st) f cdv A outer s H E).nox (defBody st) t ∧ t { nx := fun _ H' => Q .non H', rt := Q } (start N vs) H) : FnG P w K mg base (k + 1) f fd ps sp := by
  obtain ⟨oc, od, kV, doc, pm, an, cdv, ct, osl, rfl, lk, hcd⟩ := F.ex
  refine ⟨len, ?_⟩
  intro A outer s H args us vs Q E gd room e0 bnd rel want
  have old : ∀ b o, base.get? b = some o → s.heap.get? b = some o := fun b o e => (e0.bs b o e).1
  refine codeAny_call_function room.depth (e0.mod.kin.keeps old _ _ lk) rfl S.co S.gen rfl (PySem.W.codeRec_of (e0.mod.kin.keeps old) hcd) (bnd _ _ _ _ ?_)
  refine wpAny_newFunctionEnv_cells S.kind ?_ ?_
  · rintro ⟨n, v⟩ hy
    cases S.par n (List.of_mem_zip hy).1 with
    | inl q => exact .inl q
    | inr q => exact .inr ⟨q, PySem.W.cellsFrom_some _ _ _ (.inl q)⟩
  · rintro env rfl s1 x
    obtain ⟨t, ht, ht2⟩ := hbody cdv A outer s H vs Q E gd (room.deeper _) want
    refine ⟨(e0.mod.nolimit.keeps old).keeps x.toInCall.keep, codeAny_func ?_⟩
    have I := inv_start (CX := CX0) (P := P) (w := w) (E := E) S room.hd e0 (len _ _ _ _ want) rel x
    refine wpAny_mono (ht.nox.run [] s1 (start N vs) H _ I ht2) ?_ fun _ _ z => z
    rintro (_ | _ | _ | u) s' hs
    · obtain ⟨σ', H', J, q⟩ := hs
      exact ⟨V.non, H', J.os, J.bare, J.base, J.hok, rfl, q⟩
    · obtain ⟨_, _, _, q⟩ := hs
      exact q.elim
    · obtain ⟨_, _, _, q⟩ := hs
      exact q.elim
    · obtain ⟨v, σ', H', J, rv, q⟩ := hs
      exact ⟨v, H', J.os, J.bare, J.base, J.hok, rv, q⟩
end

section
variable {X : Cx} {k : Nat} {f : Addr} {fd : FuncData} {ps : List Str} {sp : Sp} {x : Str} {p pos : Pos} {e : Expr} {es : List Expr} {t : TA}
theorem pe_callG (F : FnG X.prog X.w X.K X.mg X.base k f fd ps sp) (gd : X.A.guards = some []) (hr : Room k X.A) (hg : Gl X x) (hm : X.mg x = some (.ref f)) (hk : PySem.W.keepIn X.K (.ref f) = true) (hb : Binds X.K fd ps [])
    (ha : PA X (e :: es) t) (hdb : (x == ("__debug__" : Str)) = false := by decide) (he : starEach (e :: es) X.env = (false, eval e X.env) :: starEach es X.env := by rfl) (hpl : (backTo pos (starEach es X.env)).any (·.1) = false := by rfl) :
    PE X (.Call (.Name x p) (e :: es) [] pos) (tCall sp [] E0 t) := by
  constructor
  intro pins s σ H Q I h
  refine wpAny_Call_Name_kw (ld_glob I hg hm (PySem.W.callWith_K (h₀ := X.base) I.ok.mod.kin hk (thn (ha.run pos pins s σ H _ I h) ?_) he hpl) hdb)
  rintro us s1 ⟨vs, H1, I1, r, q⟩
  rw [List.append_nil] at q
  have hl : us.length = ps.length := by rw [← r.length]; exact F.len _ _ _ _ q
  have bb := hb s1 us I1.kIn (by rw [List.append_nil]; exact hl)
  rw [List.append_nil] at bb
  refine ⟨I1.kIn, wpAny_call (codeAny_mono (F.run X.A X.stack s1 H1 ⟨us, []⟩ us vs Q E0 gd hr I1.env0 bb r q) ?_)⟩
  rintro (e | fl) s' hq
  · exact hq.elim
  · cases fl with
    | ret u => exact I1.after hq
    | next => exact hq.elim
    | brk => exact hq.elim
    | cont => exact hq.elim
end

/-! ### the law's own call, at the caller's place, where no guard stands -/
theorem callG {P : Program} {w : World} {K : PySem.W.Frag} {mg mb : Str → Option Value} {k : Nat} {fa a : Addr} {fd : FuncData} {x : Str} {sp : Sp} {t : Shared} {vs : List Value} {ns : List Int}
    (KX : K.In t.heap) (hns : t.heap.Ns mainGlobals mg) (hb : t.heap.Ns builtinsNs mb) (hbb : ∀ x : Str, x ≠ "__name__" → mb x = bootBuiltins x) (hlim : t.heap.NoLimit) (hg : t.gens = #[])
    (ha : t.heap.get? a = some { cls := .type "list", data := .seq vs.toArray }) (hi : IntsAre vs ns) (hl : ns.length ≤ sizeLine) (hr : Room k callerA)
    (F : ∀ base : Heap, K.In base → base.Ns mainGlobals mg → FnG P w K mg base k fa fd [x] sp) (hbind : ∀ (s : Shared) (u : Value), BindsTo s fd ⟨[u], []⟩ [(x, u)])
    (H : Hp) (hO : Only H) (hok : HOk P w H t.heap) (hA : ∀ b, H b ≠ none → b = a) (hK : H a ≠ none → K.lookup a = none)
    (hsp : sp [.ref a] H (fun v _ => v = .bl true) fun _ _ _ => False) :
    codeAny (model P w) callerA (.call (.ref fa) ⟨[.ref a], []⟩) (fun r s' => r = .ok (.ret (.bool true)) ∧ PySem.OldK t.heap s'.heap ∧ s'.os = t.os ∧ AllBare s'.gens) t := by
  have free : ∀ {b : Addr} {o : Obj}, t.heap.get? b = some o → (∀ vv : Array Value, ∀ n, o.data ≠ .seq vv n) → H b = none := fun {b o} e d => by
    cases q : H b with
    | none => rfl
    | some u =>
      have e' : b = a := hA b (by rw [q]; exact nofun)
      subst e'
      rw [ha] at e
      cases e
      exact absurd rfl (d _ _)
  have nsK : ∀ {b : Addr} {m : Str → Option Value}, t.heap.Ns b m → (hidT t.heap H).Ns b m := fun ⟨o, es, ep, e, d, r⟩ =>
    ⟨o, es, ep, hidT_get e (free e fun vv n z => by rw [d] at z; cases z), d, r⟩
  have inB : K.In (hidT t.heap H) := fun b o e => by
    refine hidT_get (KX b o e) ?_
    cases q : H b with
    | none => rfl
    | some u =>
      have e' : b = a := hA b (by rw [q]; exact nofun)
      subst e'
      rw [hK (by rw [q]; exact nofun)] at e
      cases e
  have lim2 : (hidT t.heap H).NoLimit := by
    obtain ⟨mc, h1, h2⟩ := hlim
    exact ⟨mc, nsK h1, h2⟩
  have e0 : Env0 P w K mg (hidT t.heap H) callerA [] t H :=
    { frames := rfl, mod := ⟨inB, nsK hns, ⟨mb, nsK hb, hbb⟩, lim2⟩, bs := fun b o e => of_hidT e, bsz := Nat.le_of_eq (hidT_size _ _), funs := trivial, frf := nofun, hok := hok, bare := .of_eq hg }
  refine codeAny_mono ((F _ inB (nsK hns)).run callerA [] t H ⟨[.ref a], []⟩ [.ref a] [.ref a] _ _ rfl hr e0 (hbind t (.ref a)) (.cons rfl .nil) hsp) ?_
  rintro (e | fl) s' h
  · exact h.elim
  · cases fl with
    | next => exact h.elim
    | brk => exact h.elim
    | cont => exact h.elim
    | ret u =>
      obtain ⟨v, H', os, bare, un, hok', r', q⟩ := h
      obtain rfl : v = .bl true := q
      obtain rfl : u = Value.bool true := r'
      refine ⟨rfl, PySem.OldK.of_keep fun b o e => ?_, os, bare⟩
      cases q : H b with
      | none => exact un.keep b o e q nofun nofun
      | some z0 =>
        cases hO b with
        | inl z => rw [q] at z; cases z
        | inr z =>
          obtain ⟨ob, xs, z⟩ := z
          have e1 := (hok b _ z).1
          have e2 := (hok' b _ (un.frzs b ob _ z)).1
          rw [e] at e1
          cases e1
          exact e2
theorem walkG {l : PySem.W.OpenLaw} {n k : Nat} {q : Program} {loose : List Str} {XP : (Str → Option Value) → Heap → Prop} {YP : World → Heap → Prop} {d : DefRec} {K : Params → PySem.W.Frag} {sp : PySem.W.Frag → Sp} {x : Str}
    (hn : l.most = some n) (hn2 : n ≤ sizeLine) (hdf : d.params.defaults = []) (hr : Room k callerA)
    (hY : ∀ (w : World) (h : Heap), YP w h → (K w.params).In h)
    (F : ∀ (w : World) (mg : Str → Option Value) (fa : Addr) (h : Heap), (K w.params).In h → h.Ns mainGlobals mg → mg d.name = some (.ref fa) →
      ∃ fd : FuncData, (∀ (s : Shared) (u : Value), BindsTo s fd ⟨[u], []⟩ [(x, u)]) ∧
        ∀ base : Heap, (K w.params).In base → base.Ns mainGlobals mg → FnG l.prog w (K w.params) mg base k fa fd [x] (sp (K w.params)))
    (hsp : ∀ (K : PySem.W.Frag) (H : Hp) (a : Addr) (ns : List Int), ns.length ≤ n → SqL K H a (ns.map V.int) → sp K [.ref a] H (fun v _ => v = .bl true) fun _ _ _ => False) :
    PySem.W.WalkO q loose XP YP l.row.toRowW d [] (fun f vs => PySem.call f vs) := by
  refine Att.attach_call hn hdf ?_
  intro w s0 t mg mb fa o pm cd doc a vs ns G Y ho hd hcd hmg hobj hints hlen hg
  have KX := hY w _ Y
  obtain ⟨fd, hb, hF⟩ := F w mg fa _ KX G.T.g hmg
  have hl : ns.length ≤ sizeLine := Nat.le_trans hlen hn2
  have rv := vals_ints hints
  have lv := hints.length
  have go := callG KX G.T.g G.T.b G.T.builtins G.T.nolimit hg hobj hints hl hr hF hb
  cases hk : (K w.params).lookup a with
  | some ob =>
    have e := KX a ob hk
    rw [hobj] at e
    cases e
    exact go (fun _ => none) (fun _ => .inl rfl) (fun b u z => nomatch z) (fun b z => absurd rfl z) (fun z => absurd rfl z)
      (hsp _ _ a ns hlen (.inr ⟨_, vs.toArray, _, hk, rfl, rfl, rfl, by rw [List.size_toArray, lv]; exact hl, by simpa using rv⟩))
  | none =>
    have here : upd (fun _ => none) a (.frz { cls := .type "list", data := .seq vs.toArray } (.lst (ns.map V.int))) a = some (.frz { cls := .type "list", data := .seq vs.toArray } (.lst (ns.map V.int))) := upd_same
    have only : ∀ b, b ≠ a → upd (fun _ => none) a (.frz { cls := .type "list", data := .seq vs.toArray } (.lst (ns.map V.int))) b = none := fun b hne => upd_ne hne
    refine go (upd (fun _ => none) a (.frz { cls := .type "list", data := .seq vs.toArray } (.lst (ns.map V.int)))) (fun b => ?_) (fun b u z => ?_) (fun b z => ?_) (fun _ => hk) (hsp _ _ a ns hlen (.inl (.inr ⟨_, here⟩)))
    · by_cases hba : b = a
      · subst hba; exact .inr ⟨_, _, here⟩
      · exact .inl (only b hba)
    · by_cases hba : b = a
      · subst hba
        rw [here] at z
        cases z
        exact ⟨hobj, by rw [List.length_map]; exact hl, vs, _, rv, hobj⟩
      · rw [only b hba] at z
        cases z
    · by_cases hba : b = a
      · exact hba
      · exact absurd (only b hba) z
end RL
namespace RL
open PySem PySem.Spec PyProof.Rows L2

/-! ### heaps: what was tracked stays; tuples stay -/
theorem same_new {H : Hp} {p : Addr} {o : HO} (h : H p = none) : Same H (upd H p o) := fun b x e => by
  rw [upd_ne (ne_of_none e h)]
  exact e
theorem Same.mut {H H' : Hp} {p : Addr} {o : HO} (e : Same H H') (h : H p = none) : Same H (upd H' p o) := fun b x eb => by
  rw [upd_ne (ne_of_none eb h)]
  exact e b x eb
theorem Same.back {H H' : Hp} {p : Addr} (e : Same H H') (h : H' p = none) : H p = none := e.free h
def TupO : HO → Prop
  | .tup _ => True
  | .frz _ (.tup _) => True
  | _ => False
/-- all tuples stay -/
def TS (H H' : Hp) : Prop := ∀ b o, TupO o → H b = some o → H' b = some o
theorem TS.refl (H : Hp) : TS H H := fun _ _ _ h => h
theorem TS.trans {H H1 H2 : Hp} (a : TS H H1) (b : TS H1 H2) : TS H H2 := fun c o t h => b c o t (a c o t h)
theorem Same.ts {H H' : Hp} (e : Same H H') : TS H H' := fun b o _ h => e b o h
theorem TS.lst {H H' : Hp} {a : Addr} {xs ys : List V} (e : TS H H') (h : H a = some (.lst xs)) : TS H (upd H' a (.lst ys)) := fun b o t hb => by
  have ne : b ≠ a := ne_of hb h (fun z => by rw [z] at t; exact t)
  rw [upd_ne ne]
  exact e b o t hb
theorem TS.new {H H' : Hp} {p : Addr} {o : HO} (e : TS H H') (h : H p = none) : TS H (upd H' p o) := fun b x t eb => by
  rw [upd_ne (ne_of_none eb h)]
  exact e b x t eb
theorem TS.sq {K : PySem.W.Frag} {H H' : Hp} {a : Addr} {xs : List V} (e : TS H H') (h : SqT K H a xs) : SqT K H' a xs := by
  rcases h with (h | ⟨o, h⟩) | h
  · exact .inl (.inl (e _ _ trivial h))
  · exact .inl (.inr ⟨o, e _ _ trivial h⟩)
  · exact .inr h
theorem Same.sqT {K : PySem.W.Frag} {H H' : Hp} {a : Addr} {xs : List V} (e : Same H H') (h : SqT K H a xs) : SqT K H' a xs := (Same.ts e).sq h
/-- all but one object stay -/
def But (a : Addr) (H H' : Hp) : Prop := ∀ b o, b ≠ a → H b = some o → H' b = some o
theorem But.refl (a : Addr) (H : Hp) : But a H H := fun _ _ _ h => h
theorem But.trans {a : Addr} {H H1 H2 : Hp} (x : But a H H1) (y : But a H1 H2) : But a H H2 := fun c o n h => y c o n (x c o n h)
theorem Same.but {a : Addr} {H H' : Hp} (e : Same H H') : But a H H' := fun b o _ h => e b o h
theorem But.upd {a : Addr} {H H' : Hp} {o : HO} (e : But a H H') : But a H (L2.upd H' a o) := fun b u n h => by
  rw [upd_ne n]
  exact e b u n h
theorem But.ts {a : Addr} {H H' : Hp} {xs ys : List V} (e : But a H H') (h : H a = some (.lst xs)) (_h' : H' a = some (.lst ys)) : TS H H' := fun b o t hb =>
  e b o (ne_of hb h fun z => by rw [z] at t; exact t) hb
/-- but for one list, all stays -/
theorem But.seq {K : PySem.W.Frag} {a b : Addr} {H H' : Hp} {xs : List V} (e : But a H H') (n : b ≠ a) (h : SqL K H b xs) : SqL K H' b xs := by
  rcases h with (h | ⟨o, h⟩) | h
  · exact .inl (.inl (e _ _ n h))
  · exact .inl (.inr ⟨o, e _ _ n h⟩)
  · exact .inr h
theorem But.new {a p : Addr} {H H' : Hp} {o : HO} (e : But a H H') (h : H p = none) : But a H (L2.upd H' p o) := fun b u n hb => by
  rw [upd_ne (ne_of_none hb h)]
  exact e b u n hb
theorem But.back {a p : Addr} {H H' : Hp} (e : But a H H') (n : p ≠ a) (h : H' p = none) : H p = none := by
  cases q : H p with
  | none => rfl
  | some o => rw [e p o n q] at h; cases h

/-! ### data made of tuples alone -/
mutual
def tupD : PyData → Bool
  | .tuple ds => tupAll ds
  | .list _ => false
  | .dict _ => false
  | _ => true
def tupAll : List PyData → Bool
  | [] => true
  | d :: ds => tupD d && tupAll ds
end
mutual
theorem dp_ts {K : PySem.W.Frag} {H H' : Hp} (e : TS H H') : ∀ (d : PyData) (v : V), tupD d = true → Dp K H v d → Dp K H' v d
  | .none, _, _, h => by cases h; exact .non
  | .bool b, _, _, h => by cases h; exact .bl b
  | .int i, _, _, h => by cases h; exact .int i
  | .str x, _, _, h => by cases h; exact .str x
  | .list _, _, t, _ => by cases t
  | .dict _, _, t, _ => by cases t
  | .tuple ds, _, t, h => by
    cases h with
    | tup hs ha => exact .tup (e.sq hs) (dpAll_ts e ds _ t ha)
theorem dpAll_ts {K : PySem.W.Frag} {H H' : Hp} (e : TS H H') : ∀ (ds : List PyData) (vs : List V), tupAll ds = true → DpAll K H vs ds → DpAll K H' vs ds
  | [], _, _, h => by cases h; exact .nil
  | d :: ds, _, t, h => by
    have t2 : (tupD d && tupAll ds) = true := t
    simp only [Bool.and_eq_true] at t2
    cases h with
    | cons h1 h2 => exact .cons (dp_ts e d _ t2.1 h1) (dpAll_ts e ds _ t2.2 h2)
end
section
variable {K : PySem.W.Frag} {H : Hp}
theorem DpAll.length : ∀ {vs : List V} {ds : List PyData}, DpAll K H vs ds → vs.length = ds.length
  | _, _, .nil => rfl
  | _, _, .cons _ h => by simp [DpAll.length h]
theorem DpAll.get : ∀ {vs : List V} {ds : List PyData} {i : Nat} {v : V}, DpAll K H vs ds → vs[i]? = some v → ∃ d, ds[i]? = some d ∧ Dp K H v d
  | _, _, _, _, .nil, h => by simp at h
  | _, _, 0, _, .cons h1 _, h => by
    have e := Option.some.inj (show some _ = some _ from h)
    subst e
    exact ⟨_, rfl, h1⟩
  | _, _, i + 1, _, .cons _ h2, h => DpAll.get (i := i) h2 (by simpa using h)
theorem DpAll.snoc : ∀ {vs : List V} {ds : List PyData} {v : V} {d : PyData}, DpAll K H vs ds → Dp K H v d → DpAll K H (vs ++ [v]) (ds ++ [d])
  | _, _, _, _, .nil, h => .cons h .nil
  | _, _, _, _, .cons h1 h2, h => .cons h1 (DpAll.snoc h2 h)
end

/-! ### numbers, tuples of numbers, attributes, schemes -/
abbrev vN (n : Nat) : V := V.int (n : Int)
abbrev Att := Nat × List (List Nat)
def eN (n : Nat) : PyData := .int (n : Int)
def eT (ns : List Nat) : PyData := .tuple (ns.map eN)
def eSt (ss : List (List Nat)) : PyData := .tuple (ss.map eT)
def eA (a : Att) : PyData := .tuple [eN a.1, eSt a.2]
def eS (S : List Att) : PyData := .tuple (S.map eA)
theorem tupAll_map {α : Type} {f : α → PyData} (h : ∀ x, tupD (f x) = true) : ∀ xs : List α, tupAll (xs.map f) = true
  | [] => rfl
  | x :: xs => by
    show (tupD (f x) && tupAll (xs.map f)) = true
    rw [h x, tupAll_map h xs]
    rfl
theorem tup_eT (ns : List Nat) : tupD (eT ns) = true := tupAll_map (f := eN) (fun _ => rfl) ns
theorem tup_eSt (ss : List (List Nat)) : tupD (eSt ss) = true := tupAll_map (f := eT) tup_eT ss
theorem tup_eA (a : Att) : tupD (eA a) = true := by
  show (tupD (eN a.1) && (tupD (eSt a.2) && true)) = true
  rw [tup_eSt]
  rfl
theorem tup_eS (S : List Att) : tupD (eS S) = true := tupAll_map (f := eA) tup_eA S
section
variable {K : PySem.W.Frag} {H H' : Hp}
theorem dpN : ∀ {ns : List Nat} {vs : List V}, DpAll K H vs (ns.map eN) → vs = ns.map vN
  | [], _, h => by cases h; rfl
  | n :: ns, _, h => by
    cases h with
    | cons h1 h2 =>
      cases h1
      rw [dpN h2]
      rfl
theorem dpN_mk : ∀ ns : List Nat, DpAll K H (ns.map vN) (ns.map eN)
  | [] => .nil
  | n :: ns => .cons (.int _) (dpN_mk ns)
theorem dpT {ns : List Nat} {v : V} (h : Dp K H v (eT ns)) : ∃ a, v = .ref a ∧ SqT K H a (ns.map vN) := by
  cases h with
  | tup hs ha => exact ⟨_, rfl, by rw [← dpN ha]; exact hs⟩
theorem dpT_mk {ns : List Nat} {a : Addr} (h : SqT K H a (ns.map vN)) : Dp K H (.ref a) (eT ns) := .tup h (dpN_mk ns)
theorem dpSt {ss : List (List Nat)} {v : V} (h : Dp K H v (eSt ss)) : ∃ a xs, v = .ref a ∧ SqT K H a xs ∧ DpAll K H xs (ss.map eT) := by
  cases h with
  | tup hs ha => exact ⟨_, _, rfl, hs, ha⟩
theorem dpA {a : Att} {v : V} (h : Dp K H v (eA a)) : ∃ p q, v = .ref p ∧ SqT K H p [vN a.1, q] ∧ Dp K H q (eSt a.2) := by
  cases h with
  | tup hs ha =>
    cases ha with
    | cons h1 h2 =>
      cases h1
      cases h2 with
      | cons h3 h4 =>
        cases h4
        exact ⟨_, _, rfl, hs, h3⟩
theorem dpS {S : List Att} {v : V} (h : Dp K H v (eS S)) : ∃ a xs, v = .ref a ∧ SqT K H a xs ∧ DpAll K H xs (S.map eA) := by
  cases h with
  | tup hs ha => exact ⟨_, _, rfl, hs, ha⟩
theorem dpT_ts {ns : List Nat} {v : V} (e : TS H H') (h : Dp K H v (eT ns)) : Dp K H' v (eT ns) := dp_ts e _ _ (tup_eT ns) h
theorem dpS_ts {S : List Att} {v : V} (e : TS H H') (h : Dp K H v (eS S)) : Dp K H' v (eS S) := dp_ts e _ _ (tup_eS S) h
theorem dpA_ts {a : Att} {v : V} (e : TS H H') (h : Dp K H v (eA a)) : Dp K H' v (eA a) := dp_ts e _ _ (tup_eA a) h
theorem dpSt_ts {ss : List (List Nat)} {v : V} (e : TS H H') (h : Dp K H v (eSt ss)) : Dp K H' v (eSt ss) := dp_ts e _ _ (tup_eSt ss) h
end

/-! ### what a def hands back, all that was tracked as it was -/
def ret (H : Hp) (v : V) (Q : VK) : Prop := ∀ H', Same H H' → Q v H'
def retL (H : Hp) (xs : List V) (Q : VK) : Prop := ∀ H' p, Same H H' → H p = none → H' p = some (.lst xs) → Q (.ref p) H'
def retD (K : PySem.W.Frag) (H : Hp) (d : PyData) (Q : VK) : Prop := ∀ H' v, Same H H' → Dp K H' v d → Q v H'
theorem ret.mono {H H1 : Hp} {v : V} {Q : VK} (e : Same H H1) (h : ret H v Q) : ret H1 v Q := fun H2 e2 => h H2 (e.trans e2)
theorem retL.mono {H H1 : Hp} {xs : List V} {Q : VK} (e : Same H H1) (h : retL H xs Q) : retL H1 xs Q := fun H2 p e2 n q => h H2 p (e.trans e2) (e.free n) q
theorem retD.mono {K : PySem.W.Frag} {H H1 : Hp} {d : PyData} {Q : VK} (e : Same H H1) (h : retD K H d Q) : retD K H1 d Q := fun H2 v e2 q => h H2 v (e.trans e2) q

/-! ### the reading of a comprehension -/
theorem small {n : Nat} (h : n ≤ 5000) : n < sizeLine := Nat.lt_of_le_of_lt h (by decide)
section
variable {J : It} {n : Nat} {G : Hp → Prop} {Y : Nat → Hp → V → Hp → Prop} {g : TG} {te : TE} {vs : List Nat} {σ : L2.St} {H1 : Hp} {D : Addr} {Qd : Hp → Prop}
theorem lc_gen (w : Walk J n G Y) (hn : n ≤ 5000) (R : Nat → List V → Hp → Prop) (h0 : R 0 [] (upd H1 D (.lst [])))
    (hG : ∀ i acc H, i ≤ n → R i acc H → G H)
    (hs : ∀ i x acc H H' (K2 : V → Hp → Prop), i < n → acc.length = i → H D = some (.lst acc) → R i acc H →
      (∀ y H4, H4 D = some (.lst acc) → R (i + 1) (acc ++ [y]) (upd H4 D (.lst (acc ++ [y]))) → K2 y H4) → Y i H x H' →
      g x (wipe σ vs) H' fun σ2 H2 => wipe σ2 vs = wipe σ vs ∧ te σ2 H2 K2)
    (hd : ∀ acc H, acc.length = n → H D = some (.lst acc) → R n acc H → Qd H) :
    ∃ W : Nat → Nat → Hp → Prop, (∃ m, W 0 m (upd H1 D (.lst []))) ∧ ∀ i m H, W i m H →
      (J.stop i H ∧ Qd H) ∨ (J.go i H ∧ ∃ Nx : Hp → Prop, (∀ H', Nx H' → ∃ m', m' < m ∧ W (i + 1) m' H') ∧ ∀ x H', J.yld i H x H' → g x (wipe σ vs) H' fun σ2 H2 => wipe σ2 vs = wipe σ vs ∧ tYes σ2 H2 fun b H3 =>
        if b = true then te σ2 H3 fun y H4 => ∃ acc, H4 D = some (.lst acc) ∧ acc.length < sizeLine ∧ Nx (upd H4 D (.lst (acc ++ [y]))) else Nx H3) := by
  refine lc_it w (fun i H => ∃ acc, acc.length = i ∧ H D = some (.lst acc) ∧ R i acc H) ⟨[], rfl, upd_same, h0⟩ (fun i H hi ⟨acc, _, _, r⟩ => hG i acc H hi r) (fun i x H H' hi hp y => ?_) fun H ⟨acc, l, e, r⟩ => hd acc H l e r
  obtain ⟨acc, l, e, r⟩ := hp
  exact hs i x acc H H' (fun y H4 => ∃ acc, H4 D = some (.lst acc) ∧ acc.length < sizeLine ∧ ∃ acc', acc'.length = i + 1 ∧ (upd H4 D (.lst (acc ++ [y]))) D = some (.lst acc') ∧ R (i + 1) acc' (upd H4 D (.lst (acc ++ [y])))) hi l e r
    (fun y H4 e4 r4 => ⟨acc, e4, small (by omega), acc ++ [y], by simp [l], upd_same, r4⟩) y
theorem lc_pure (w : Walk J n G Y) (hn : n ≤ 5000) (f : Nat → V) (hD : H1 D = none) (hG : ∀ H, Same H1 H → G H)
    (hs : ∀ i x H H' (K2 : V → Hp → Prop), i < n → Same H1 H → (∀ y H4, y = f i → Same H H4 → K2 y H4) → Y i H x H' →
      g x (wipe σ vs) H' fun σ2 H2 => wipe σ2 vs = wipe σ vs ∧ te σ2 H2 K2)
    (hd : ∀ H, Same H1 H → H D = some (.lst ((List.range n).map f)) → Qd H) :
    ∃ W : Nat → Nat → Hp → Prop, (∃ m, W 0 m (upd H1 D (.lst []))) ∧ ∀ i m H, W i m H →
      (J.stop i H ∧ Qd H) ∨ (J.go i H ∧ ∃ Nx : Hp → Prop, (∀ H', Nx H' → ∃ m', m' < m ∧ W (i + 1) m' H') ∧ ∀ x H', J.yld i H x H' → g x (wipe σ vs) H' fun σ2 H2 => wipe σ2 vs = wipe σ vs ∧ tYes σ2 H2 fun b H3 =>
        if b = true then te σ2 H3 fun y H4 => ∃ acc, H4 D = some (.lst acc) ∧ acc.length < sizeLine ∧ Nx (upd H4 D (.lst (acc ++ [y]))) else Nx H3) := by
  refine lc_gen w hn (fun i acc H => Same H1 H ∧ acc = (List.range i).map f) ⟨same_new hD, rfl⟩ (fun i acc H _ r => hG H r.1) (fun i x acc H H' K2 hi l e r k y => ?_) fun acc H l e r => hd H r.1 (by rw [← r.2]; exact e)
  refine hs i x H H' K2 hi r.1 (fun y H4 ey e4 => k y H4 (e4 _ _ e) ⟨Same.mut (r.1.trans e4) hD, ?_⟩) y
  rw [List.range_succ, List.map_append, r.2, ey]
  rfl
end
end RL
namespace RL
open PySem PySem.Spec PyProof.Rows L2
/-! ### a def as it stands behind the top; the built-ins' names that the top has not bound -/
structure Df (K : PySem.W.Frag) (mg : Str → Option Value) (x : Str) (st : Stmt) : Prop where
  ex : ∃ f fd, Fun K x x st f fd ∧ mg x = some (.ref f)
theorem Df.cal {P : Program} {w : World} {K : PySem.W.Frag} {mg : Str → Option Value} {base : Heap} {x : Str} {st : Stmt} {N ps : List Str} {k : Nat} {sp : Sp} (D : Df K mg x st) (S : FnScope N ps (defScope st))
    (hb : ∀ (kV doc pm : Value) (an : Option Addr) (cdv ct : Value) (us : List Value), us.length = ps.length → bindArgs (PySem.W.fnOf x x (defArgs st) (defBody st) (defScope st) .none kV doc pm an cdv ct) ⟨us, []⟩ = pure (ps.zip us))
    (len : ∀ vs H Q E, sp vs H Q E → vs.length = ps.length)
    (hbody : ∀ (f : Addr) (cdv : Value) (A : Around) (outer : List Env) (s : Shared) (H : Hp) (vs : List V) (Q : VK) (E : XK), Room k (A.deeper (envOfC x (defScope st) s.heap.objs.size f cdv)) → sp vs H Q E →
      ∃ t, PSs (cxOf CX0 P w K mg base N x (defScope st) f cdv A outer s H E).nox (defBody st) t ∧ t { nx := fun _ H' => Q .non H', rt := Q } (start N vs) H) : C8.Cal P w K mg base (k + 1) x sp [] := by
  obtain ⟨f, fd, F, g⟩ := D.ex
  exact ⟨⟨f, fd, ps, [], F.ok S len (hbody f), g, F.kp, F.binds hb, .nil⟩⟩
structure Zs (mg : Str → Option Value) : Prop where
  z_isinstance : mg "isinstance" = none
  z_int : mg "int" = none
  z_bool : mg "bool" = none
  z_tuple : mg "tuple" = none
  z_list : mg "list" = none
  z_set : mg "set" = none
  z_len : mg "len" = none
  z_all : mg "all" = none
  z_zip : mg "zip" = none
  z_sorted : mg "sorted" = none
  z_range : mg "range" = none
  z_max : mg "max" = none
  z_min : mg "min" = none
  z_sum : mg "sum" = none
  z_repr : mg "repr" = none
  z_any : mg "any" = none
  z_enumerate : mg "enumerate" = none
  z_str : mg "str" = none
theorem bT {c : Prop} [Decidable c] (h : c) : V.bl (decide c) = V.bl true := by rw [decide_eq_true h]
theorem bF {c : Prop} [Decidable c] (h : ¬ c) : V.bl (decide c) = V.bl false := by rw [decide_eq_false h]
theorem qT {c : Prop} [Decidable c] {Q : VK} {H : Hp} (h : c) (q : Q (.bl true) H) : Q (.bl (decide c)) H := by rw [decide_eq_true h]; exact q
theorem qF {c : Prop} [Decidable c] {Q : VK} {H : Hp} (h : ¬ c) (q : Q (.bl false) H) : Q (.bl (decide c)) H := by rw [decide_eq_false h]; exact q
theorem get_map {α β : Type} {f : α → β} {xs : List α} {i : Nat} {y : β} (h : (xs.map f)[i]? = some y) : ∃ x, xs[i]? = some x ∧ y = f x := by
  rw [List.getElem?_map] at h
  obtain ⟨x, hx, e⟩ := Option.map_eq_some_iff.mp h
  exact ⟨x, hx, e.symm⟩
theorem range_getD {α : Type} (xs : List α) (d : α) : (List.range xs.length).map (fun i => xs.getD i d) = xs := by
  refine List.ext_getElem? fun i => ?_
  rw [List.getElem?_map]
  by_cases h : i < xs.length
  · rw [List.getElem?_range h]
    show some (xs.getD i d) = xs[i]?
    rw [List.getD_eq_getElem?_getD, List.getElem?_eq_getElem h]
    rfl
  · rw [List.getElem?_eq_none (by simpa using h), List.getElem?_eq_none (by omega)]
    rfl
theorem getD_of {α : Type} {xs : List α} {i : Nat} {x d : α} (h : xs[i]? = some x) : xs.getD i d = x := by
  rw [List.getD_eq_getElem?_getD, h]
  rfl
/-! ### rules whose reading names the written part, for a comprehension's block -/
section
variable {X : Cx} {K : PySem.W.Frag}
def rLen (K : PySem.W.Frag) : List V → Hp → VK → Prop := fun xs H Q => ∃ p ys, xs = [.ref p] ∧ (SqL K H p ys ∨ SqT K H p ys) ∧ Q (.int ys.length) H
theorem call_lenK (e : X.K = K) : CallR X (.builtin "len") (rLen K) := by subst e; exact call_len_seq
theorem ixK {r : PySem.W.Frag → R2} (e : X.K = K) (h : IxR X (r X.K)) : IxR X (r K) := by subst e; exact h
theorem opK {f : Value → Value → Sem Value} {r : PySem.W.Frag → R2} (e : X.K = K) (h : OpR X f (r X.K)) : OpR X f (r K) := by subst e; exact h
theorem callK {f : Value} {r : PySem.W.Frag → List V → Hp → VK → Prop} (e : X.K = K) (h : CallR X f (r X.K)) : CallR X f (r K) := by subst e; exact h
end
theorem isi_tup {K : PySem.W.Frag} {H : Hp} {a : Addr} {xs : List V} (h : SqT K H a xs) : ∃ t, TyX K H (.ref a) t ∧ PySem.W.kitOne K t (.type "tuple") = some true := by
  rcases h with (h | ⟨o, h⟩) | ⟨o, its, n, h, hc, _⟩
  · exact ⟨_, .base (.tup h), kit_ty (by decide +kernel)⟩
  · exact ⟨_, .fTuple h, kit_ty (by decide +kernel)⟩
  · exact ⟨_, .kTuple h hc, kit_ty (by decide +kernel)⟩
end RL
namespace RL
open PySem
/-! ### steps, attributes, schemes, rollups: the mathematics -/
theorem sorted_ext : ∀ (xs ys : List Int), xs.Pairwise (· < ·) → ys.Pairwise (· < ·) → (∀ k, k ∈ xs ↔ k ∈ ys) → xs = ys
  | [], [], _, _, _ => rfl
  | [], y :: ys, _, _, h => by have := (h y).mpr List.mem_cons_self; cases this
  | x :: xs, [], _, _, h => by have := (h x).mp List.mem_cons_self; cases this
  | x :: xs, y :: ys, hx, hy, h => by
    rw [List.pairwise_cons] at hx hy
    have e : x = y := by
      have h1 := (h x).mp List.mem_cons_self
      have h2 := (h y).mpr List.mem_cons_self
      rcases List.mem_cons.mp h1 with e | m1
      · exact e
      · rcases List.mem_cons.mp h2 with e | m2
        · exact e.symm
        · have a := hy.1 x m1
          have b := hx.1 y m2
          omega
    subst e
    have : xs = ys := sorted_ext xs ys hx.2 hy.2 fun k => by
      constructor
      · intro hk
        have := (h k).mp (List.mem_cons_of_mem _ hk)
        rcases List.mem_cons.mp this with e | m
        · have := hx.1 k hk; omega
        · exact m
      · intro hk
        have := (h k).mpr (List.mem_cons_of_mem _ hk)
        rcases List.mem_cons.mp this with e | m
        · have := hy.1 k hk; omega
        · exact m
    rw [this]
theorem range_sorted (m : Nat) : ((List.range m).map fun (i : Nat) => (i : Int)).Pairwise (· < ·) := by
  rw [List.pairwise_map]
  exact List.pairwise_lt_range.imp fun h => by omega
/-- the greatest of the numbers, one more -/
def top1 (s : List Nat) : Nat := s.foldl max 0 + 1
def StepOk (below : Nat) (s : List Nat) : Prop := s.length = below ∧ ∃ m, 0 < m ∧ m < below ∧ ∀ g, g ∈ s ↔ g < m
theorem foldl_max_le : ∀ (s : List Nat) (a : Nat), a ≤ s.foldl max a ∧ (∀ g ∈ s, g ≤ s.foldl max a) ∧ (s.foldl max a = a ∨ s.foldl max a ∈ s)
  | [], a => ⟨Nat.le_refl _, by simp, .inl rfl⟩
  | x :: s, a => by
    obtain ⟨h1, h2, h3⟩ := foldl_max_le s (max a x)
    refine ⟨by rw [List.foldl_cons]; omega, fun g hg => ?_, ?_⟩
    · rw [List.foldl_cons]
      rcases List.mem_cons.mp hg with e | m
      · omega
      · exact h2 g m
    · rw [List.foldl_cons]
      rcases h3 with e | m
      · by_cases hax : a ≤ x
        · rw [e, Nat.max_eq_right hax]; exact .inr List.mem_cons_self
        · rw [e]; left; omega
      · exact .inr (List.mem_cons_of_mem _ m)
theorem top1_of {s : List Nat} {m : Nat} (h0 : 0 < m) (h : ∀ g, g ∈ s ↔ g < m) : top1 s = m := by
  obtain ⟨h1, h2, h3⟩ := foldl_max_le s 0
  unfold top1
  have a := h2 (m - 1) ((h _).mpr (by omega))
  rcases h3 with e | e
  · omega
  · have := (h _).mp e; omega
def StepsOk : Nat → List (List Nat) → Prop
  | _, [] => True
  | b, s :: r => StepOk b s ∧ StepsOk (top1 s) r
def AttOk (a : Att) : Prop := 1 ≤ a.1 ∧ a.1 ≤ 6 ∧ a.2.length ≤ 3 ∧ StepsOk a.1 a.2
def prodN (ns : List Nat) : Nat := ns.foldl (· * ·) 1
def SchOk (S : List Att) : Prop := 1 ≤ S.length ∧ S.length ≤ 3 ∧ (∀ a ∈ S, AttOk a) ∧ prodN (S.map (·.1)) ≤ 60
/-- a rollup of the scheme -/
def RollOk (S : List Att) (r : List Nat) : Prop := r.length = S.length ∧ ∀ (i : Nat) (a : Att) (l : Nat), S[i]? = some a → r[i]? = some l → l < a.2.length + 1
theorem foldl_max_int : ∀ (s : List Nat) (a : Nat), (s.map fun (n : Nat) => (n : Int)).foldl max (a : Int) = ((s.foldl max a : Nat) : Int)
  | [], _ => rfl
  | x :: s, a => by
    rw [List.map_cons, List.foldl_cons, List.foldl_cons]
    have e : max (a : Int) (x : Int) = ((max a x : Nat) : Int) := by omega
    rw [e]
    exact foldl_max_int s (max a x)
theorem listD_ok (ns : List Int) : SeqAt.shaped (.list (ns.map PyData.int)) = true ∧ PyData.eqv (.list (ns.map PyData.int)) (.list (ns.map PyData.int)) = true := by
  have h1 : ∀ ns : List Int, PyData.canLayAll0 (ns.map PyData.int) = true := by
    intro ns
    induction ns with
    | nil => rfl
    | cons n r ih => show (true && PyData.canLayAll0 (r.map PyData.int)) = true; rw [ih]; rfl
  have h2 : PyData.canLay0 (.list (ns.map PyData.int)) = true := h1 ns
  refine ⟨?_, SeqAt.eqv_refl _ h2⟩
  unfold SeqAt.shaped
  rw [h2]
  have h3 : PyData.depth (.list (ns.map PyData.int)) ≤ 64 := by
    show PyData.depthAll (ns.map PyData.int) + 1 ≤ 64
    rw [depth_ints]
    decide
  rw [decide_eq_true h3]
  rfl
theorem dpI_mk {K : PySem.W.Frag} {H : L2.Hp} : ∀ ns : List Int, L2.DpAll K H (ns.map L2.V.int) (ns.map PyData.int)
  | [] => .nil
  | n :: ns => .cons (.int n) (dpI_mk ns)
end RL
namespace RL
open PySem PySem.Spec PyProof.Rows L2
/-! ### the pen: a list of three numbers, from which the law draws; n bounds the third -/
def Pen (H : Hp) (a : Addr) (n : Nat) : Prop := ∃ (p q : Int) (c : Nat), H a = some (.lst [.int p, .int q, vN c]) ∧ 0 ≤ p ∧ 0 ≤ q ∧ q < 2147483648 ∧ c ≤ n
theorem Pen.mono {H : Hp} {a : Addr} {n m : Nat} (h : Pen H a n) (l : n ≤ m) : Pen H a m := by
  obtain ⟨p, q, c, e, h1, h2, h3, h4⟩ := h
  exact ⟨p, q, c, e, h1, h2, h3, by omega⟩
theorem Pen.same {H H' : Hp} {a : Addr} {n : Nat} (h : Pen H a n) (s : Same H H') : Pen H' a n := by
  obtain ⟨p, q, c, e, h1⟩ := h
  exact ⟨p, q, c, s _ _ e, h1⟩
theorem Pen.at {H H' : Hp} {a : Addr} {n : Nat} (h : Pen H a n) (s : ∀ o, H a = some o → H' a = some o) : Pen H' a n := by
  obtain ⟨p, q, c, e, h1⟩ := h
  exact ⟨p, q, c, s _ e, h1⟩
theorem Pen.ts {H H' : Hp} {a : Addr} {n m : Nat} (h : Pen H a n) (b : But a H H') : TS H H' := by
  obtain ⟨p, q, c, e, _⟩ := h
  intro d o t hd
  exact b d o (ne_of hd e fun z => by rw [z] at t; exact t) hd
/-- a new object that is not the pen's -/
theorem Pen.ne {H : Hp} {a p : Addr} {n : Nat} (h : Pen H a n) (hp : H p = none) : p ≠ a := by
  obtain ⟨_, _, _, e, _⟩ := h
  exact (ne_of_none e hp).symm
theorem Pen.upd {H : Hp} {a p : Addr} {n : Nat} {o : HO} (h : Pen H a n) (ne : p ≠ a) : Pen (L2.upd H p o) a n := h.at fun o e => by rw [upd_ne ne.symm]; exact e
theorem But.upd2 {a p : Addr} {H H' : Hp} {o : HO} (e : But a H H') (h : H p = none) : But a H (L2.upd H' p o) := But.new e h
theorem perm_mem {α : Type} {xs ys : List α} (h : xs.Perm ys) (x : α) : x ∈ xs ↔ x ∈ ys := h.mem_iff
/-- steps that lead from b groups to g -/
def StepsTo : Nat → List (List Nat) → Nat → Prop
  | b, [], g => b = g
  | b, s :: r, g => StepOk b s ∧ StepsTo (top1 s) r g
theorem StepsTo.ok : ∀ {ss : List (List Nat)} {b g : Nat}, StepsTo b ss g → StepsOk b ss
  | [], _, _, _ => trivial
  | _ :: _, _, _, h => ⟨h.1, StepsTo.ok h.2⟩
theorem StepsTo.snoc : ∀ {ss : List (List Nat)} {b g : Nat} {s : List Nat}, StepsTo b ss g → StepOk g s → StepsTo b (ss ++ [s]) (top1 s)
  | [], b, g, s, h, hs => by
    have e : b = g := h
    subst e
    exact ⟨hs, rfl⟩
  | _ :: _, _, _, _, h, hs => ⟨h.1, StepsTo.snoc h.2 hs⟩
/-- what a mixed list of the first numbers and some below is -/
theorem mixed_step {g f : Nat} {more s : List Nat} (hf : 0 < f) (hg : f < g) (hl : more.length = g - f) (hm : ∀ k ∈ more, k < f) (hp : s.Perm (List.range f ++ more)) : StepOk g s ∧ top1 s = f := by
  have mem : ∀ x, x ∈ s ↔ x < f := fun x => by
    rw [perm_mem hp, List.mem_append, List.mem_range]
    constructor
    · rintro (h | h)
      · exact h
      · exact hm x h
    · exact .inl
  refine ⟨⟨?_, f, hf, hg, mem⟩, top1_of hf mem⟩
  rw [hp.length_eq, List.length_append, List.length_range, hl]
  omega
theorem erase_perm {xs : List Nat} {d x : Nat} (h : xs[d]? = some x) : (x :: xs.eraseIdx d).Perm xs := by
  induction xs generalizing d with
  | nil => simp at h
  | cons y r ih =>
    cases d with
    | zero =>
      have e : y = x := Option.some.inj h
      subst e
      exact List.Perm.refl _
    | succ d =>
      have := ih (d := d) (by simpa using h)
      exact (List.Perm.swap y x _).trans (this.cons y)
theorem ixN_nat {n d : Nat} (h : d < n) : ixN n (d : Int) = some d := by
  unfold ixN
  rw [if_pos (by omega), if_pos (by omega)]
  simp
end RL
namespace RL
open PySem PySem.Spec PyProof.Rows L2
/-! ### how long the text of data is -/
mutual
def wt : PyData → Nat
  | .none => 4
  | .bool _ => 5
  | .int i => i.natAbs.log2 + 2
  | .str _ => 0
  | .list ds => wtAll ds + 3
  | .tuple ds => wtAll ds + 3
  | .dict _ => 0
def wtAll : List PyData → Nat
  | [] => 0
  | d :: ds => wt d + 2 + wtAll ds
end
mutual
def plainD : PyData → Bool
  | .none => true
  | .bool _ => true
  | .int i => decide (i.natAbs.log2 < 1920)
  | .str _ => false
  | .list ds => plainAll ds
  | .tuple ds => plainAll ds
  | .dict _ => false
def plainAll : List PyData → Bool
  | [] => true
  | d :: ds => plainD d && plainAll ds
end
theorem int_len (i : Int) : (Str.ofString (toString i)).length ≤ i.natAbs.log2 + 2 := by
  have h := int_text_length_le (a := i) (k := i.natAbs.log2 + 1) (Nat.succ_pos _) (Nat.lt_succ_self _)
  have e : (Str.ofString (toString i)).length = (toString i).length := PySem.ofString_length _
  omega
theorem plain_cons {d : PyData} {ds : List PyData} (h : plainAll (d :: ds) = true) : plainD d = true ∧ plainAll ds = true := by
  have : (plainD d && plainAll ds) = true := h
  simpa using this
mutual
theorem shown_le : ∀ d : PyData, plainD d = true → d.shown.length ≤ wt d
  | .none, _ => by simp only [PyData.shown]; decide
  | .bool b, _ => by cases b <;> (simp only [PyData.shown]; decide)
  | .int i, _ => by simp only [PyData.shown]; exact int_len i
  | .str _, h => by cases h
  | .list ds, h => by
    simp only [PyData.shown]
    have h1 := listText_len_le (PyData.shownAll ds)
    have h2 := shownAll_le ds h
    show _ ≤ wtAll ds + 3
    omega
  | .tuple ds, h => by
    simp only [PyData.shown]
    have h1 := tupleText_len_le (PyData.shownAll ds)
    have h2 := shownAll_le ds h
    show _ ≤ wtAll ds + 3
    omega
  | .dict _, h => by cases h
theorem shownAll_le : ∀ ds : List PyData, plainAll ds = true → ((PyData.shownAll ds).map (·.length)).sum + 2 * (PyData.shownAll ds).length ≤ wtAll ds
  | [], _ => by simp only [PyData.shownAll]; decide
  | d :: ds, h => by
    obtain ⟨h1, h2⟩ := plain_cons h
    have a := shown_le d h1
    have b := shownAll_le ds h2
    simp only [PyData.shownAll, List.map_cons, List.sum_cons, List.length_cons]
    show _ ≤ wt d + 2 + wtAll ds
    omega
end
mutual
theorem showable_of : ∀ d : PyData, plainD d = true → d.showable = true ∧ d.hasDict = false ∧ d.canLay0 = true
  | .none, _ => ⟨rfl, rfl, rfl⟩
  | .bool _, _ => ⟨rfl, rfl, rfl⟩
  | .int _, h => ⟨h, rfl, rfl⟩
  | .str _, h => by cases h
  | .list ds, h => showableAll_of ds h
  | .tuple ds, h => showableAll_of ds h
  | .dict _, h => by cases h
theorem showableAll_of : ∀ ds : List PyData, plainAll ds = true → PyData.showableAll ds = true ∧ PyData.hasDictAll ds = false ∧ PyData.canLayAll0 ds = true
  | [], _ => ⟨rfl, rfl, rfl⟩
  | d :: ds, h => by
    obtain ⟨h1, h2⟩ := plain_cons h
    obtain ⟨a1, a2, a3⟩ := showable_of d h1
    obtain ⟨b1, b2, b3⟩ := showableAll_of ds h2
    refine ⟨?_, ?_, ?_⟩
    · show (d.showable && PyData.showableAll ds) = true
      rw [a1, b1]; rfl
    · show (d.hasDict || PyData.hasDictAll ds) = false
      rw [a2, b2]; rfl
    · show (d.canLay0 && PyData.canLayAll0 ds) = true
      rw [a3, b3]; rfl
end
/-! tuples of small numbers -/
theorem log2_lt {n : Nat} (h : n < 2 ^ 30) : n.log2 < 30 := by
  by_cases h0 : n = 0
  · subst h0; decide
  · exact (Nat.log2_lt h0).mpr h
theorem plain_eT : ∀ {ns : List Nat}, (∀ n ∈ ns, n < 2 ^ 30) → plainAll (ns.map eN) = true ∧ wtAll (ns.map eN) ≤ 34 * ns.length
  | [], _ => ⟨rfl, by decide⟩
  | n :: ns, h => by
    obtain ⟨a, b⟩ := plain_eT fun m hm => h m (List.mem_cons_of_mem _ hm)
    have hn := log2_lt (h n List.mem_cons_self)
    have e : ((n : Int)).natAbs = n := by omega
    refine ⟨?_, ?_⟩
    · show (decide (((n : Int)).natAbs.log2 < 1920) && plainAll (ns.map eN)) = true
      rw [a, e, decide_eq_true (by omega)]
      rfl
    · show ((n : Int)).natAbs.log2 + 2 + 2 + wtAll (ns.map eN) ≤ _
      rw [e, List.length_cons]
      omega
theorem depth_eT (ns : List Nat) : (eT ns).depth = 1 := by
  show PyData.depthAll (ns.map eN) + 1 = 1
  have : ∀ ns : List Nat, PyData.depthAll (ns.map eN) = 0 := by
    intro ns
    induction ns with
    | nil => rfl
    | cons n r ih => show max 0 (PyData.depthAll (r.map eN)) = 0; rw [ih]; rfl
  rw [this]
/-- all that the texts' rule asks of data -/
structure Fits (d : PyData) : Prop where
  disp : isDisplay d = true
  sh : d.showable = true
  nd : d.hasDict = false
  dp : d.depth ≤ 50
  sz : d.shown.length ≤ sizeLine
theorem Fits.of {d : PyData} (h1 : isDisplay d = true) (h2 : plainD d = true) (h3 : d.depth ≤ 50) (h4 : wt d ≤ 1000000) : Fits d :=
  ⟨h1, (showable_of d h2).1, (showable_of d h2).2.1, h3, Nat.le_trans (shown_le d h2) (Nat.le_trans h4 (by decide))⟩
end RL
namespace RL
open PySem PySem.Spec PyProof.Rows L2
/-! ### groups of a level, the group above, the rows of groups by values -/
def gcount (a : Att) : Nat → Nat
  | 0 => a.1
  | l + 1 => top1 (a.2.getD l [])
def stepAt (a : Att) (l g : Nat) : Nat := (a.2.getD l []).getD g 0
/-- n steps up from level l -/
def upN (a : Att) : Nat → Nat → Nat → Nat
  | _, g, 0 => g
  | l, g, n + 1 => upN a (l + 1) (stepAt a l g) n
def gAbove (a : Att) (l g h : Nat) : Nat := upN a l g (h - l)
theorem upN_add (a : Att) : ∀ (n m l g : Nat), upN a l g (n + m) = upN a (l + n) (upN a l g n) m
  | 0, m, l, g => by rw [Nat.zero_add]; rfl
  | n + 1, m, l, g => by
    have e : n + 1 + m = (n + m) + 1 := by omega
    rw [e]
    show upN a (l + 1) (stepAt a l g) (n + m) = upN a (l + (n + 1)) (upN a (l + 1) (stepAt a l g) n) m
    rw [upN_add a n m (l + 1)]
    have e2 : l + 1 + n = l + (n + 1) := by omega
    rw [e2]
theorem upN_succ (a : Att) (n l g : Nat) : upN a l g (n + 1) = stepAt a (l + n) (upN a l g n) := by rw [upN_add a n 1 l g]; rfl
theorem gAbove_self (a : Att) (l g : Nat) : gAbove a l g l = g := by unfold gAbove; rw [Nat.sub_self]; rfl
theorem gAbove_succ {a : Att} {l g h : Nat} (hl : l ≤ h) : gAbove a l g (h + 1) = stepAt a h (gAbove a l g h) := by
  unfold gAbove
  have e : h + 1 - l = (h - l) + 1 := by omega
  rw [e, upN_succ]
  have e2 : l + (h - l) = h := by omega
  rw [e2]
theorem gAbove_trans {a : Att} {l m h g : Nat} (h1 : l ≤ m) (h2 : m ≤ h) : gAbove a m (gAbove a l g m) h = gAbove a l g h := by
  unfold gAbove
  have e : h - l = (m - l) + (h - m) := by omega
  rw [e, upN_add]
  have e2 : l + (m - l) = m := by omega
  rw [e2]
theorem stepsOk_at : ∀ {ss : List (List Nat)} {b : Nat}, StepsOk b ss → ∀ (l : Nat) (st : List Nat), ss[l]? = some st → StepOk (gcount (b, ss) l) st
  | [], _, _, _, _, h => by simp at h
  | s :: r, b, ok, 0, st, h => by
    have e : s = st := Option.some.inj h
    subst e
    exact ok.1
  | s :: r, b, ok, l + 1, st, h => by
    have := stepsOk_at ok.2 l st (by simpa using h)
    cases l with
    | zero => exact this
    | succ l => exact this
theorem step_ok {a : Att} (ok : AttOk a) {l : Nat} (hl : l < a.2.length) : StepOk (gcount a l) (a.2.getD l []) ∧ a.2[l]? = some (a.2.getD l []) := by
  have e : a.2[l]? = some (a.2.getD l []) := by
    rw [List.getD_eq_getElem?_getD, List.getElem?_eq_getElem hl]
    rfl
  exact ⟨stepsOk_at ok.2.2.2 l _ e, e⟩
theorem gcount_succ {a : Att} (ok : AttOk a) {l : Nat} (hl : l < a.2.length) : 0 < gcount a (l + 1) ∧ gcount a (l + 1) < gcount a l ∧ ∀ g, g ∈ a.2.getD l [] ↔ g < gcount a (l + 1) := by
  obtain ⟨⟨h1, m, m0, mb, hm⟩, _⟩ := step_ok ok hl
  have e : gcount a (l + 1) = m := top1_of m0 hm
  rw [e]
  exact ⟨m0, mb, hm⟩
theorem gcount_pos {a : Att} (ok : AttOk a) : ∀ {l : Nat}, l ≤ a.2.length → 0 < gcount a l ∧ gcount a l ≤ 6
  | 0, _ => ⟨ok.1, ok.2.1⟩
  | l + 1, h => by
    obtain ⟨h1, h2, _⟩ := gcount_succ ok (show l < a.2.length from h)
    have := gcount_pos ok (l := l) (by omega)
    omega
theorem stepAt_lt {a : Att} (ok : AttOk a) {l g : Nat} (hl : l < a.2.length) (hg : g < gcount a l) : stepAt a l g < gcount a (l + 1) := by
  obtain ⟨_, _, hm⟩ := gcount_succ ok hl
  obtain ⟨⟨h1, _⟩, _⟩ := step_ok ok hl
  unfold stepAt
  have hlt : g < (a.2.getD l []).length := by rw [h1]; exact hg
  rw [List.getD_eq_getElem?_getD, List.getElem?_eq_getElem hlt]
  exact (hm _).mp (List.getElem_mem hlt)
theorem gAbove_lt {a : Att} (ok : AttOk a) {l g : Nat} (hg : g < gcount a l) : ∀ {h : Nat}, l ≤ h → h ≤ a.2.length → gAbove a l g h < gcount a h
  | 0, hl, _ => by
    have : l = 0 := by omega
    subst this
    rw [gAbove_self]
    exact hg
  | h + 1, hl, hh => by
    by_cases e : l = h + 1
    · subst e
      rw [gAbove_self]
      exact hg
    · rw [gAbove_succ (by omega)]
      exact stepAt_lt ok hh (gAbove_lt ok hg (by omega) (by omega))
/-- the groups of all values at a level -/
def rowAt (a : Att) (l : Nat) : List Nat := (List.range a.1).map fun v => gAbove a 0 v l
def rowsN (a : Att) : List (List Nat) := (List.range (a.2.length + 1)).map (rowAt a)
theorem rowAt_zero (a : Att) : rowAt a 0 = List.range a.1 := by
  unfold rowAt
  have : (fun v => gAbove a 0 v 0) = id := funext fun v => gAbove_self a 0 v
  rw [this, List.map_id]
theorem rowAt_succ (a : Att) (l : Nat) : rowAt a (l + 1) = (rowAt a l).map (stepAt a l) := by
  unfold rowAt
  rw [List.map_map]
  exact List.map_congr_left fun v _ => gAbove_succ (Nat.zero_le _)
theorem mem_rowAt {a : Att} (ok : AttOk a) : ∀ {l : Nat}, l ≤ a.2.length → ∀ x, x ∈ rowAt a l ↔ x < gcount a l
  | 0, _, x => by rw [rowAt_zero]; exact List.mem_range
  | l + 1, h, x => by
    have ih := mem_rowAt ok (l := l) (by omega)
    obtain ⟨_, _, hm⟩ := gcount_succ ok (show l < a.2.length from h)
    obtain ⟨⟨h1, _⟩, _⟩ := step_ok ok (show l < a.2.length from h)
    rw [rowAt_succ, List.mem_map]
    constructor
    · rintro ⟨g, hg, rfl⟩
      exact stepAt_lt ok h ((ih g).mp hg)
    · intro hx
      have := (hm x).mpr hx
      obtain ⟨g, hg⟩ := List.mem_iff_getElem?.mp this
      have hlt : g < (a.2.getD l []).length := (List.getElem?_eq_some_iff.mp hg).1
      refine ⟨g, (ih g).mpr (by rw [← h1]; exact hlt), ?_⟩
      unfold stepAt
      rw [List.getD_eq_getElem?_getD, hg]
      rfl
theorem rowAt_len (a : Att) (l : Nat) : (rowAt a l).length = a.1 := by unfold rowAt; rw [List.length_map, List.length_range]
theorem top1_row {a : Att} (ok : AttOk a) {l : Nat} (h : l ≤ a.2.length) : top1 (rowAt a l) = gcount a l := top1_of (gcount_pos ok h).1 (mem_rowAt ok h)
theorem rowsN_get {a : Att} {l : Nat} (h : l ≤ a.2.length) : (rowsN a)[l]? = some (rowAt a l) := by
  unfold rowsN
  rw [List.getElem?_map, List.getElem?_range (by omega)]
  rfl
theorem row_above {a : Att} {l h j g : Nat} (hl : l ≤ h) (hj : (rowAt a l)[j]? = some g) : (rowAt a h)[j]? = some (gAbove a l g h) := by
  unfold rowAt at hj ⊢
  rw [List.getElem?_map] at hj ⊢
  obtain ⟨v, hv, e⟩ := Option.map_eq_some_iff.mp hj
  rw [hv, Option.map_some, ← e, gAbove_trans (Nat.zero_le _) hl]
/-! ### all tuples below some numbers -/
def tuplesN (ns : List Nat) : List (List Nat) := ns.foldl (fun acc m => acc.flatMap fun r => (List.range m).map fun x => r ++ [x]) [[]]
theorem tuplesN_snoc (ns : List Nat) (m : Nat) : tuplesN (ns ++ [m]) = (tuplesN ns).flatMap fun r => (List.range m).map fun x => r ++ [x] := by unfold tuplesN; rw [List.foldl_append]; rfl
theorem flat_len (xs : List (List Nat)) (m : Nat) : (xs.flatMap fun r => (List.range m).map fun x => r ++ [x]).length = xs.length * m := by
  induction xs with
  | nil => simp
  | cons r t ih => rw [List.flatMap_cons, List.length_append, ih, List.length_map, List.length_range, List.length_cons, Nat.succ_mul]; omega
theorem snocInd {P : List Nat → Prop} (h0 : P []) (h1 : ∀ xs x, P xs → P (xs ++ [x])) (xs : List Nat) : P xs := by
  have : ∀ ys : List Nat, P ys.reverse := by
    intro ys
    induction ys with
    | nil => exact h0
    | cons y t ih => rw [List.reverse_cons]; exact h1 _ _ ih
  have h := this xs.reverse
  rwa [List.reverse_reverse] at h
theorem prodN_snoc2 {ns : List Nat} {m : Nat} : prodN (ns ++ [m]) = prodN ns * m := by unfold prodN; rw [List.foldl_append]; rfl
theorem tuplesN_len (ns : List Nat) : (tuplesN ns).length = prodN ns := by
  refine snocInd (P := fun ns => (tuplesN ns).length = prodN ns) rfl (fun ns m ih => ?_) ns
  rw [tuplesN_snoc, flat_len, ih, prodN_snoc2]
theorem mem_tuplesN (ns : List Nat) : ∀ c : List Nat, c ∈ tuplesN ns ↔ c.length = ns.length ∧ ∀ (i x m : Nat), c[i]? = some x → ns[i]? = some m → x < m := by
  refine snocInd (P := fun ns => ∀ c : List Nat, c ∈ tuplesN ns ↔ c.length = ns.length ∧ ∀ (i x m : Nat), c[i]? = some x → ns[i]? = some m → x < m) ?_ (fun ns m ih => ?_) ns
  · intro c
    show c ∈ [[]] ↔ _
    rw [List.mem_singleton]
    constructor
    · rintro rfl
      exact ⟨rfl, fun i x m h => by simp at h⟩
    · rintro ⟨h, _⟩
      exact List.eq_nil_of_length_eq_zero h
  · intro c
    rw [tuplesN_snoc, List.mem_flatMap]
    constructor
    · rintro ⟨r, hr, hc⟩
      obtain ⟨x, hx, rfl⟩ := List.mem_map.mp hc
      obtain ⟨lr, hlt⟩ := (ih r).mp hr
      refine ⟨by simp [lr], fun i y k hi hk => ?_⟩
      by_cases h : i < r.length
      · rw [List.getElem?_append_left h] at hi
        rw [List.getElem?_append_left (by omega)] at hk
        exact hlt i y k hi hk
      · have hi0 : i < (r ++ [x]).length := (List.getElem?_eq_some_iff.mp hi).1
        rw [List.length_append] at hi0
        have e : i = r.length := by simp at hi0; omega
        subst e
        rw [List.getElem?_append_right (Nat.le_refl _), Nat.sub_self] at hi
        rw [List.getElem?_append_right (by omega)] at hk
        have e0 : r.length - ns.length = 0 := by omega
        rw [e0] at hk
        have e1 : x = y := Option.some.inj hi
        have e2 : m = k := Option.some.inj hk
        rw [← e1, ← e2]
        exact List.mem_range.mp hx
    · rintro ⟨hl, hlt⟩
      rw [List.length_append, List.length_singleton] at hl
      have hne : c ≠ [] := fun e => by rw [e] at hl; simp at hl
      refine ⟨c.dropLast, (ih _).mpr ⟨by rw [List.length_dropLast]; omega, fun i x k hi hk => ?_⟩, List.mem_map.mpr ⟨c.getLast hne, List.mem_range.mpr ?_, List.dropLast_concat_getLast hne⟩⟩
      · have hi0 : i < c.dropLast.length := (List.getElem?_eq_some_iff.mp hi).1
        rw [List.length_dropLast] at hi0
        refine hlt i x k ?_ (by rw [List.getElem?_append_left (by omega)]; exact hk)
        rw [List.getElem?_dropLast, if_pos (by omega)] at hi
        exact hi
      · refine hlt (c.length - 1) _ m ?_ ?_
        · rw [← List.getLast?_eq_getElem?, List.getLast?_eq_some_getLast hne]
        · rw [List.getElem?_append_right (by omega)]
          have e0 : c.length - 1 - ns.length = 0 := by omega
          rw [e0]
          rfl
/-- the counts of groups of a rollup -/
def counts (S : List Att) (r : List Nat) : List Nat := (List.range S.length).map fun i => gcount (S.getD i (0, [])) (r.getD i 0)
def CellOk (S : List Att) (r c : List Nat) : Prop := c.length = S.length ∧ ∀ (i g m : Nat), c[i]? = some g → (counts S r)[i]? = some m → g < m
theorem counts_len (S : List Att) (r : List Nat) : (counts S r).length = S.length := by unfold counts; rw [List.length_map, List.length_range]
theorem counts_get {S : List Att} {r : List Nat} {i : Nat} {a : Att} {l : Nat} (h1 : S[i]? = some a) (h2 : r[i]? = some l) : (counts S r)[i]? = some (gcount a l) := by
  have hi : i < S.length := (List.getElem?_eq_some_iff.mp h1).1
  unfold counts
  rw [List.getElem?_map, List.getElem?_range hi]
  show some (gcount (S.getD i (0, [])) (r.getD i 0)) = _
  rw [getD_of h1, getD_of h2]
end RL
namespace RL
open PySem PySem.Spec PyProof.Rows L2
/-! ### a list of lists of numbers -/
def LL (H : Hp) (R : Addr) (rs : List (List Nat)) : Prop := ∃ ps : List Addr, H R = some (.lst (ps.map V.ref)) ∧ ps.length = rs.length ∧ ∀ (k : Nat) (p : Addr) (row : List Nat), ps[k]? = some p → rs[k]? = some row → H p = some (.lst (row.map vN))
theorem LL.same {H H' : Hp} {R : Addr} {rs : List (List Nat)} (h : LL H R rs) (e : Same H H') : LL H' R rs := by
  obtain ⟨ps, h1, h2, h3⟩ := h
  exact ⟨ps, e _ _ h1, h2, fun k p row hk hr => e _ _ (h3 k p row hk hr)⟩
theorem LL.get {H : Hp} {R : Addr} {rs : List (List Nat)} {k : Nat} {row : List Nat} (h : LL H R rs) (hk : rs[k]? = some row) : ∃ (ps : List Addr) (p : Addr), H R = some (.lst (ps.map V.ref)) ∧ ps.length = rs.length ∧ (ps.map V.ref)[k]? = some (.ref p) ∧ H p = some (.lst (row.map vN)) := by
  obtain ⟨ps, h1, h2, h3⟩ := h
  have hlt : k < ps.length := by rw [h2]; exact (List.getElem?_eq_some_iff.mp hk).1
  have g : ps[k]? = some ps[k] := List.getElem?_eq_getElem hlt
  exact ⟨ps, ps[k], h1, h2, by rw [List.getElem?_map, g]; rfl, h3 k _ row g hk⟩
theorem row_ne {H : Hp} {p D : Addr} {row : List Nat} {ps : List Addr} (h1 : H p = some (.lst (row.map vN))) (h2 : H D = some (.lst (ps.map V.ref))) (hr : row ≠ []) : p ≠ D := by
  intro e
  subst e
  rw [h1] at h2
  have e := Option.some.inj h2
  cases row with
  | nil => exact hr rfl
  | cons x r =>
    cases ps with
    | nil => cases e
    | cons q t => cases e
theorem pre_take {α : Type} (xs : List α) {i : Nat} {x : α} (h : xs[i]? = some x) : xs.take (i + 1) = xs.take i ++ [x] := by rw [List.take_add_one, h, Option.toList_some]
theorem prod_take_le : ∀ {ns : List Nat}, (∀ n ∈ ns, 1 ≤ n) → ∀ i, prodN (ns.take i) ≤ prodN ns := by
  intro ns
  refine snocInd (P := fun ns => (∀ n ∈ ns, 1 ≤ n) → ∀ i, prodN (ns.take i) ≤ prodN ns) (fun _ i => by simp) (fun ns m ih h i => ?_) ns
  have h1 := ih fun n hn => h n (List.mem_append_left _ hn)
  have hm : 1 ≤ m := h m (by simp)
  rw [prodN_snoc2]
  by_cases hi : i ≤ ns.length
  · rw [List.take_append_of_le_length hi]
    exact Nat.le_trans (h1 i) (Nat.le_mul_of_pos_right _ hm)
  · rw [List.take_of_length_le (by simp; omega), prodN_snoc2]
    exact Nat.le_refl _
theorem plain_flat {rs : List (List Nat)} (j : Nat) (m : Nat) {r : List Nat} (h : rs[j]? = some r) : ((rs.take (j + 1)).flatMap fun r => (List.range m).map fun x => r ++ [x]) = ((rs.take j).flatMap fun r => (List.range m).map fun x => r ++ [x]) ++ (List.range m).map fun x => r ++ [x] := by
  rw [pre_take rs h, List.flatMap_append]
  simp
theorem DpAll.app {K : PySem.W.Frag} {H : Hp} : ∀ {vs us : List V} {ds es : List PyData}, DpAll K H vs ds → DpAll K H us es → DpAll K H (vs ++ us) (ds ++ es)
  | _, _, _, _, .nil, h => h
  | _, _, _, _, .cons h1 h2, h => .cons h1 (DpAll.app h2 h)
theorem tupAll_eT (rs : List (List Nat)) : tupAll (rs.map eT) = true := tupAll_map (f := eT) tup_eT rs
/-! ### tuples of numbers that stand as such in the heap -/
def TR (H : Hp) : List V → List (List Nat) → Prop
  | [], [] => True
  | v :: vs, c :: cs => (∃ b, v = V.ref b ∧ H b = some (.tup (c.map vN))) ∧ TR H vs cs
  | _, _ => False
theorem TR.ts {H H' : Hp} (e : TS H H') : ∀ {vs : List V} {cs : List (List Nat)}, TR H vs cs → TR H' vs cs
  | [], [], _ => trivial
  | _ :: _, _ :: _, ⟨⟨b, e1, e2⟩, h⟩ => ⟨⟨b, e1, e _ _ trivial e2⟩, TR.ts e h⟩
theorem TR.app {H : Hp} : ∀ {vs us : List V} {cs ds : List (List Nat)}, TR H vs cs → TR H us ds → TR H (vs ++ us) (cs ++ ds)
  | [], _, [], _, _, h => h
  | _ :: _, _, _ :: _, _, ⟨h1, h2⟩, h => ⟨h1, TR.app h2 h⟩
theorem TR.one {H : Hp} {b : Addr} {c : List Nat} (h : H b = some (.tup (c.map vN))) : TR H [.ref b] [c] := ⟨⟨b, rfl, h⟩, trivial⟩
theorem TR.get {H : Hp} : ∀ {vs : List V} {cs : List (List Nat)} {i : Nat} {v : V}, TR H vs cs → vs[i]? = some v → ∃ c b, cs[i]? = some c ∧ v = .ref b ∧ H b = some (.tup (c.map vN))
  | [], [], _, _, _, h => by simp at h
  | _ :: _, c :: _, 0, _, ⟨⟨b, e1, e2⟩, _⟩, h => ⟨c, b, rfl, (Option.some.inj h).symm.trans e1, e2⟩
  | _ :: vs, _ :: cs, i + 1, v, ⟨_, h2⟩, h => by
    obtain ⟨c, b, q⟩ := TR.get (i := i) h2 (by simpa using h)
    exact ⟨c, b, by simpa using q.1, q.2⟩
end RL
namespace RL
open PySem PySem.Spec PyProof.Rows L2

/-! ### zip of a list and a tuple -/
def ItzLT (K : PySem.W.Frag) (a b : Addr) : It :=
  ⟨fun i H => ∃ (xs ys : List V) (x y : V), SqL K H a xs ∧ SqT K H b ys ∧ xs[i]? = some x ∧ ys[i]? = some y,
    fun i H v H' => ∃ T x y, v = .ref T ∧ H T = none ∧ H' = upd H T (.tup [x, y]) ∧ (∀ xs, SqL K H a xs → xs[i]? = some x) ∧ ∀ ys, SqT K H b ys → ys[i]? = some y,
    fun i H => ∃ xs ys : List V, SqL K H a xs ∧ SqT K H b ys ∧ i ≤ xs.length ∧ i ≤ ys.length ∧ (i = xs.length ∨ i = ys.length)⟩
theorem turn_zipLT {P : Program} {w : World} {K : PySem.W.Frag} {elts : List Expr} {kk : Nat} {tpos : Pos} {a b z TI TO i1 i2 : Addr} (D : ZipApart z TI TO i1 i2 a b) :
    Turn P w K (.Tuple elts kk tpos) (ItzLT K a b) [z, TI, TO, i1, i2] z
      (fun i h => IsZip h z TI TO .none ∧ IsPair h TI (.ref i1) (.ref i2) ∧ (∃ x y, IsPair h TO x y) ∧ h.IsListIter i1 a i ∧ h.IsTupleIter i2 b i) where
  mem := List.mem_cons_self
  obj := fun i h st c hc => by
    obtain ⟨hz, hTI, ⟨x, y, hTO⟩, ⟨o1, e1, _, d1⟩, ⟨o2, e2, _, d2⟩⟩ := st
    simp only [List.mem_cons, List.not_mem_nil, or_false] at hc
    rcases hc with rfl | rfl | rfl | rfl | rfl
    · exact ⟨_, hz, fun _ q => nomatch q⟩
    · exact ⟨_, hTI, fun _ q => nomatch q⟩
    · exact ⟨_, hTO, fun _ q => nomatch q⟩
    · exact ⟨o1, e1, fun _ q => by rw [d1] at q; cases q⟩
    · exact ⟨o2, e2, fun _ q => by rw [d2] at q; cases q⟩
  keep := fun i h h' st k => by
    obtain ⟨hz, hTI, ⟨x, y, hTO⟩, h1, h2⟩ := st
    have m1 : i1 ∈ [z, TI, TO, i1, i2] := by simp
    have m2 : i2 ∈ [z, TI, TO, i1, i2] := by simp
    exact ⟨k z (by simp) _ hz, k TI (by simp) _ hTI, ⟨x, y, k TO (by simp) _ hTO⟩, h1.at (k i1 m1), h2.at (k i2 m2)⟩
  item := by
    intro X hP hw hK hc i pins s σ H E I hf st hg
    subst hP hw hK
    obtain ⟨hz, hTI, ⟨x0, y0, hTO⟩, h1, h2⟩ := st
    obtain ⟨xs, ys, x, y, qx, qy, gx, gy⟩ := hg
    obtain ⟨its, rv, p, _⟩ := I.list qx
    obtain ⟨its2, rv2, p2, _⟩ := I.tuple qy
    have lx := rv.length
    have ly := rv2.length
    obtain ⟨bx, _⟩ := List.getElem?_eq_some_iff.mp gx
    obtain ⟨byy, _⟩ := List.getElem?_eq_some_iff.mp gy
    have hzl : z < s.heap.objs.size := Heap.lt_size hz
    have hh : X.A.in1.handled = none := I.ok.hd hc
    refine wpAny_pyNext_zipD2_item (sepM D) (Draws.list hh i1 a D.l1i1 its.toArray) (Draws.tuple hh i2 b D.l2i2 its2.toArray) hz hTI hTO ⟨h1, p.isList⟩ ⟨h2, p2⟩ (by simp; omega) (by simp; omega) fun u u2 h' tk g1 g2 z' TO' s1 s2 hT hsz hk => ?_
    obtain ⟨w1, hw1, ru⟩ := rv.get gx
    obtain ⟨w2, hw2, ru2⟩ := rv2.get gy
    have e1 : w1 = u := by
      have g1' : its[i]? = some u := by simpa using g1
      exact Option.some.inj (hw1.symm.trans g1')
    have e2 : w2 = u2 := by
      have g2' : its2[i]? = some u2 := by simpa using g2
      exact Option.some.inj (hw2.symm.trans g2')
    subst e1 e2
    refine ⟨_, rfl, wpAny_letOwnedTupleGo_zip (s := { s with heap := h', toks := tk }) z' fun h'' z'' sb => ?_⟩
    have hT2 : h''.get? s.heap.objs.size = some { cls := .type "tuple", data := .seq #[w1, w2] } := (sb.2 _ (Nat.ne_of_gt hzl)).trans hT
    have new : ObjOk X.prog X.w (upd H s.heap.objs.size (.tup [x, y])) h'' s.heap.objs.size (.tup [x, y]) :=
      ⟨by show 2 ≤ sizeLine; decide, [w1, w2], .cons ru (.cons ru2 .nil), ⟨_, hT2, rfl, _, rfl⟩⟩
    have far : ∀ c o, c ∉ [z, TI, TO, i1, i2] → s.heap.get? c = some o → h''.get? c = some o := fun c o hb q => by
      simp only [List.mem_cons, List.not_mem_nil, or_false, not_or] at hb
      exact (sb.2 c hb.1).trans (hk c o hb.1 hb.2.2.1 hb.2.2.2.1 hb.2.2.2.2 q)
    have I1 := I.turnedNew (t' := tk) (ch := [z, TI, TO, i1, i2]) far hf (Nat.le_refl _) new
    refine ⟨.ref s.heap.objs.size, _, I1, rfl, ⟨_, x, y, rfl, I.hok.fresh (Nat.le_refl _), rfl, fun l hl => by rw [I.list_inj hl qx]; exact gx, fun l hl => by rw [I.tuple_inj hl qy]; exact gy⟩, ⟨z'', ?_, ⟨w1, w2, ?_⟩, ?_, ?_⟩, fun c hcm => ?_⟩
    · exact (sb.2 _ D.TIz).trans (hk _ _ D.TIz D.TITO D.TIi1 D.TIi2 hTI)
    · exact (sb.2 _ D.TOz).trans TO'
    · exact s1.1.at fun o q => (sb.2 _ D.i1z).trans q
    · exact s2.1.at fun o q => (sb.2 _ D.i2z).trans q
    · have hlt : c < s.heap.objs.size := by
        simp only [List.mem_cons, List.not_mem_nil, or_false] at hcm
        rcases hcm with rfl | rfl | rfl | rfl | rfl
        · exact hzl
        · exact Heap.lt_size hTI
        · exact Heap.lt_size hTO
        · obtain ⟨_, e, _⟩ := h1; exact Heap.lt_size e
        · obtain ⟨_, e, _⟩ := h2; exact Heap.lt_size e
      rw [upd_ne (Nat.ne_of_lt hlt)]
      exact (hf c hcm).1
  done := by
    intro X hP hw hK hc i pins s σ H E I hf st hg
    subst hP hw hK
    obtain ⟨hz, hTI, ⟨x0, y0, hTO⟩, h1, h2⟩ := st
    obtain ⟨xs, ys, qx, qy, le1, le2, hend⟩ := hg
    obtain ⟨its, rv, p, _⟩ := I.list qx
    obtain ⟨its2, rv2, p2, _⟩ := I.tuple qy
    have lx := rv.length
    have ly := rv2.length
    have hh : X.A.in1.handled = none := I.ok.hd hc
    refine wpAny_pyNext_zipD2_end (sepM D) (Draws.list hh i1 a D.l1i1 its.toArray) (Draws.tuple hh i2 b D.l2i2 its2.toArray) hz hTI hTO ⟨h1, p.isList⟩ ⟨h2, p2⟩ (by simp; omega) (by simp; omega) (by simp; omega) fun h' tk hk => ?_
    refine ⟨rfl, I.turnedL (t' := tk) (ch := [z, TI, TO, i1, i2]) (fun c o hb q => ?_) hf⟩
    simp only [List.mem_cons, List.not_mem_nil, or_false, not_or] at hb
    exact hk c o hb.1 hb.2.2.1 hb.2.2.2.1 hb.2.2.2.2 q
  self := fun A i s Q E st h => wpAny_pyIter_zip st.1 h

def iZipLT (K : PySem.W.Frag) (ta : TA) : TI := fun σ H R => ta σ H fun vs H1 => ∃ a b xs ys, vs = [.ref a, .ref b] ∧ SqL K H1 a xs ∧ SqT K H1 b ys ∧ R (ItzLT K a b) H1
theorem pi_zipLT {X : Cx} {e e2 : Expr} {ta : TA} {p pos tpos : Pos} {elts : List Expr} {kk : Nat} (hg : Gl X "zip") (hm : X.mg "zip" = none) (ha : PA X [e, e2] ta)
    (hs : starEach [e, e2] X.env = (false, eval e X.env) :: starEach [e2] X.env := by rfl) (hpl : (backTo pos (starEach [e2] X.env)).any (·.1) = false := by rfl) :
    PI X (.Tuple elts kk tpos) (.Call (.Name "zip" p) [e, e2] [] pos) (iZipLT X.K ta) := by
  refine ⟨fun pins s σ H R I h => Call_ (ld_blt I hg hm PyProof.Rows.boot_zip (PyProof.Rows.callWith_type1 (thn (ha.run pos pins s σ H _ I h) ?_) hs hpl))⟩
  intro us s1 ⟨vs, H1, I1, r1, a, b, xs, ys, ex, qx, qy, q⟩
  subst ex
  cases r1 with
  | cons ra rr =>
    cases rr with
    | cons rb rr =>
      cases rr
      cases ra
      cases rb
      obtain ⟨its, rv, p1, _⟩ := I1.list qx
      obtain ⟨its2, rv2, p2, _⟩ := I1.tuple qy
      obtain ⟨o1, ho1, _⟩ := id p2
      refine zip_begins2 (begins_list a its.toArray) (begins_tuple b its2.toArray) p1.isList p2 fun h' hz hTI hTO h1 h2 hsz hk => wpAny_pyIter_zip hz ?_
      have D := PySem.W.ktu_apart s1.heap.objs.size a b p1.lt (Heap.lt_size ho1)
      refine ⟨s1.heap.objs.size + 4, [s1.heap.objs.size + 4, s1.heap.objs.size + 2, s1.heap.objs.size + 3, s1.heap.objs.size, s1.heap.objs.size + 1], _, _, H1, rfl, I1.kept (t' := s1.toks) hk, turn_zipLT D, ⟨hz, hTI, ⟨_, _, hTO⟩, ⟨_, h1, rfl, rfl⟩, ⟨_, h2, rfl, rfl⟩⟩, fun c hcm => ?_, q⟩
      have hle : s1.heap.objs.size ≤ c := by
        simp only [List.mem_cons, List.not_mem_nil, or_false] at hcm
        rcases hcm with rfl | rfl | rfl | rfl | rfl
        · exact Nat.le_add_right _ _
        · exact Nat.le_add_right _ _
        · exact Nat.le_add_right _ _
        · exact Nat.le_refl _
        · exact Nat.le_add_right _ _
      exact I1.fpOk hle (I1.hok.fresh hle)
section
variable {K : PySem.W.Frag} {a b : Addr} {xs ys : List V}
theorem walk_zipLT (hl : xs.length = ys.length) : Walk (ItzLT K a b) xs.length (fun H => SqL K H a xs ∧ SqT K H b ys) (YPair (fun i => xs[i]?) (fun i => ys[i]?)) := by
  refine ⟨fun i _ hi q => ?_, fun _ q => ⟨xs, ys, q.1, q.2, Nat.le_refl _, by omega, .inl rfl⟩, fun i H v H' _ q y => ?_⟩
  · have h2 : i < ys.length := by omega
    exact ⟨xs, ys, xs[i], ys[i], q.1, q.2, by simp [hi], by simp [h2]⟩
  · obtain ⟨T, x, z, h1, h2, h3, h4, h5⟩ := y
    exact ⟨T, x, z, h1, h2, h3, h4 xs q.1, h5 ys q.2⟩
end
/-! ### a walk with any turn -/
theorem walk_any {J : It} {n : Nat} {G : Hp → Prop} {Y : Nat → Hp → V → Hp → Prop} (w : Walk J n G Y) {H0 : Hp} {Qd : Hp → Prop} {body : V → Hp → (Hp → Prop) → Prop} (Pv : Nat → Hp → Prop) (h0 : Pv 0 H0) (hG : ∀ i H, i ≤ n → Pv i H → G H)
    (hs : ∀ i x H H', i < n → Pv i H → Y i H x H' → body x H' (Pv (i + 1))) (hd : ∀ H, Pv n H → Qd H) :
    ∃ W : Nat → Nat → Hp → Prop, (∃ m, W 0 m H0) ∧ ∀ i m H, W i m H → (J.stop i H ∧ Qd H) ∨ (J.go i H ∧ ∃ Nx : Hp → Prop, (∀ H', Nx H' → ∃ m', m' < m ∧ W (i + 1) m' H') ∧ ∀ x H', J.yld i H x H' → body x H' Nx) := by
  refine ⟨fun i m H => m = n - i ∧ i ≤ n ∧ Pv i H, ⟨n, by simp, Nat.zero_le _, h0⟩, ?_⟩
  rintro i m H ⟨rfl, hi, p⟩
  have q := hG i H hi p
  by_cases hlt : i < n
  · exact .inr ⟨w.goes i H hlt q, Pv (i + 1), fun H' p' => ⟨n - (i + 1), by omega, rfl, hlt, p'⟩, fun x H' y => hs i x H H' hlt p (w.yields i H x H' hlt q y)⟩
  · have e : i = n := by omega
    subst e
    exact .inl ⟨w.stops H q, hd H p⟩
theorem pa_starK {X : Cx} {K : PySem.W.Frag} {e : Expr} {es : List Expr} {te : TE} {t : TA} {p : Pos} (hK : X.K = K) (he : PE X e te) (hr : PA X es t) (hs : starEach (.Starred e p :: es) X.env = (true, eval e X.env) :: starEach es X.env := by rfl) : PA X (.Starred e p :: es) (StX.tStar K te t) := by
  subst hK
  exact StX.pa_star he hr hs
theorem piK {X : Cx} {K : PySem.W.Frag} {tg it : Expr} {r : PySem.W.Frag → TI} (e : X.K = K) (h : PI X tg it (r X.K)) : PI X tg it (r K) := by subst e; exact h
theorem pi_zipLTK {X : Cx} {K : PySem.W.Frag} (hK : X.K = K) {e e2 : Expr} {ta : TA} {p pos tpos : Pos} {elts : List Expr} {kk : Nat} (hg : Gl X "zip") (hm : X.mg "zip" = none) (ha : PA X [e, e2] ta)
    (hs : starEach [e, e2] X.env = (false, eval e X.env) :: starEach [e2] X.env := by rfl) (hpl : (backTo pos (starEach [e2] X.env)).any (·.1) = false := by rfl) :
    PI X (.Tuple elts kk tpos) (.Call (.Name "zip" p) [e, e2] [] pos) (iZipLT K ta) := by subst hK; exact pi_zipLT hg hm ha hs hpl
/-! ### tuples of whole numbers -/
def eI (xs : List Int) : PyData := .tuple (xs.map .int)
theorem tup_eI (xs : List Int) : tupD (eI xs) = true := tupAll_map (f := PyData.int) (fun _ => rfl) xs
theorem dpI0 {K : PySem.W.Frag} {H : Hp} : ∀ {xs : List Int} {vs : List V}, DpAll K H vs (xs.map .int) → vs = xs.map V.int
  | [], _, h => by cases h; rfl
  | x :: xs, _, h => by
    cases h with
    | cons h1 h2 =>
      cases h1
      rw [dpI0 h2]
      rfl
theorem dpI_all {K : PySem.W.Frag} {H : Hp} : ∀ (xs : List Int), DpAll K H (xs.map V.int) (xs.map .int)
  | [] => .nil
  | x :: xs => .cons (.int x) (dpI_all xs)
theorem dpI {K : PySem.W.Frag} {H : Hp} {xs : List Int} {v : V} (h : Dp K H v (eI xs)) : ∃ a, v = .ref a ∧ SqT K H a (xs.map V.int) := by
  cases h with
  | tup hs ha => exact ⟨_, rfl, by rw [← dpI0 ha]; exact hs⟩
theorem dpI_mkT {K : PySem.W.Frag} {H : Hp} {xs : List Int} {a : Addr} (h : SqT K H a (xs.map V.int)) : Dp K H (.ref a) (eI xs) := .tup h (dpI_all xs)
theorem dpI_ts {K : PySem.W.Frag} {H H' : Hp} {xs : List Int} {v : V} (e : TS H H') (h : Dp K H v (eI xs)) : Dp K H' v (eI xs) := dp_ts e _ _ (tup_eI xs) h
/-! ### tuples compared -/
theorem eqv_eT : ∀ (a b : List Nat), PyData.eqvAll (a.map eN) (b.map eN) = decide (a = b)
  | [], [] => rfl
  | [], _ :: _ => rfl
  | _ :: _, [] => rfl
  | x :: a, y :: b => by
    show (((x : Nat) : Int) == ((y : Nat) : Int) && PyData.eqvAll (a.map eN) (b.map eN)) = _
    rw [eqv_eT a b]
    by_cases h : x = y
    · subst h
      by_cases h2 : a = b
      · subst h2
        simp
      · simp [h2]
    · have h0 : ¬ ((x : Int) = (y : Int)) := by omega
      simp [h, h0]
theorem eT_eqv (a b : List Nat) : PyData.eqv (eT a) (eT b) = decide (a = b) := eqv_eT a b
theorem sh_eT (ns : List Nat) : SeqAt.shaped (eT ns) = true := by
  have h1 : ∀ ns : List Nat, PyData.canLayAll0 (ns.map eN) = true := by
    intro ns
    induction ns with
    | nil => rfl
    | cons n r ih => show (true && PyData.canLayAll0 (r.map eN)) = true; rw [ih]; rfl
  have h2 : PyData.canLay0 (eT ns) = true := h1 ns
  unfold SeqAt.shaped
  rw [h2, decide_eq_true (by rw [depth_eT]; decide)]
  rfl
/-! ### amounts added up by places -/
def addUp (ps : List (List Nat)) (xs : List Int) (c : List Nat) : Nat → Int
  | 0 => 0
  | k + 1 => addUp ps xs c k + if ps.getD k [] = c then xs.getD k 0 else 0
theorem addUp_le {ps : List (List Nat)} {xs : List Int} {c : List Nat} {B : Nat} (h : ∀ x ∈ xs, x.natAbs ≤ B) : ∀ k, (addUp ps xs c k).natAbs ≤ B * k
  | 0 => by show (0 : Int).natAbs ≤ B * 0; simp
  | k + 1 => by
    have ih := addUp_le h (ps := ps) (c := c) k
    have hx : (xs.getD k 0).natAbs ≤ B := by
      rw [List.getD_eq_getElem?_getD]
      cases e : xs[k]? with
      | none => simp
      | some x => exact h x (List.mem_of_getElem? e)
    show (addUp ps xs c k + if ps.getD k [] = c then xs.getD k 0 else 0).natAbs ≤ B * (k + 1)
    rw [Nat.mul_succ]
    split <;> omega
theorem plain_eI {B : Nat} (hB : B < 2 ^ 30) : ∀ {xs : List Int}, (∀ x ∈ xs, x.natAbs ≤ B) → plainAll (xs.map .int) = true ∧ wtAll (xs.map .int) ≤ 34 * xs.length
  | [], _ => ⟨rfl, by decide⟩
  | x :: xs, h => by
    obtain ⟨a, b⟩ := plain_eI hB fun m hm => h m (List.mem_cons_of_mem _ hm)
    have h0 := h x List.mem_cons_self
    have hn : x.natAbs.log2 < 30 := log2_lt (by omega)
    refine ⟨?_, ?_⟩
    · show (decide (x.natAbs.log2 < 1920) && plainAll (xs.map .int)) = true
      rw [a, decide_eq_true (by omega)]
      rfl
    · show x.natAbs.log2 + 2 + 2 + wtAll (xs.map .int) ≤ _
      rw [List.length_cons]
      omega
theorem wt_eI {B : Nat} (hB : B < 2 ^ 30) {xs : List Int} (h : ∀ x ∈ xs, x.natAbs ≤ B) : plainD (eI xs) = true ∧ wt (eI xs) ≤ 34 * xs.length + 3 := by
  obtain ⟨a, b⟩ := plain_eI hB h
  exact ⟨a, by show wtAll (xs.map .int) + 3 ≤ _; omega⟩
theorem depth_eI (xs : List Int) : (eI xs).depth = 1 := by
  show PyData.depthAll (xs.map .int) + 1 = 1
  have : ∀ xs : List Int, PyData.depthAll (xs.map .int) = 0 := by
    intro xs
    induction xs with
    | nil => rfl
    | cons n r ih => show max 0 (PyData.depthAll (r.map .int)) = 0; rw [ih]; rfl
  rw [this]
theorem fitsTwoI {B : Nat} (hB : B < 2 ^ 30) {xs : List Int} (lx : xs.length ≤ 1000) (h : ∀ x ∈ xs, x.natAbs ≤ B) : Fits (.list [eI xs, eI xs]) := by
  obtain ⟨p2, q2⟩ := wt_eI hB h
  refine .of rfl ?_ ?_ ?_
  · show (plainD (eI xs) && (plainD (eI xs) && true)) = true
    rw [p2]
    rfl
  · show max (eI xs).depth (max (eI xs).depth 0) + 1 ≤ 50
    rw [depth_eI]
    decide
  · show wt (eI xs) + 2 + (wt (eI xs) + 2 + 0) + 3 ≤ 1000000
    omega
end RL
namespace RL
open PySem PySem.Spec PyProof.Rows L2

/-! ### dicts whose keys are tuples of ints and of such tuples -/
mutual
def keyD : PyData → Option NestedKey
  | .int i => some (.num i)
  | .tuple ds => (keysD ds).map NestedKey.tup
  | .none => none
  | .bool _ => none
  | .str _ => none
  | .list _ => none
  | .dict _ => none
def keysD : List PyData → Option (List NestedKey)
  | [] => some []
  | d :: ds => (keyD d).bind fun k => (keysD ds).map (k :: ·)
end
mutual
/-- the hash of a key of numbers, which no World has a say in -/
def numHash : NestedKey → Int
  | .none => 0
  | .num i => hashInt i
  | .text _ => 0
  | .tup ks => reduceHash (Builtin.Tuple.tupleHashOf (numHashes ks))
def numHashes : List NestedKey → List Int
  | [] => []
  | k :: ks => numHash k :: numHashes ks
end
mutual
theorem numHash_eq {w : World} : ∀ (d : PyData) (k : NestedKey), keyD d = some k → k.hash w = numHash k
  | .int i, k, h => by cases h; rfl
  | .tuple ds, k, h => by
    obtain ⟨ks, h1, h2⟩ := Option.map_eq_some_iff.mp (show (keysD ds).map NestedKey.tup = some k from h)
    subst h2
    show reduceHash (Builtin.Tuple.tupleHashOf (NestedKey.hashes w ks)) = reduceHash (Builtin.Tuple.tupleHashOf (numHashes ks))
    rw [numHashes_eq ds ks h1]
  | .none, _, h => by cases h
  | .bool _, _, h => by cases h
  | .str _, _, h => by cases h
  | .list _, _, h => by cases h
  | .dict _, _, h => by cases h
theorem numHashes_eq {w : World} : ∀ (ds : List PyData) (ks : List NestedKey), keysD ds = some ks → NestedKey.hashes w ks = numHashes ks
  | [], ks, h => by cases h; rfl
  | d :: ds, ks, h => by
    obtain ⟨k, h1, h2⟩ := Option.bind_eq_some_iff.mp (show (keyD d).bind _ = some ks from h)
    obtain ⟨r, h3, h4⟩ := Option.map_eq_some_iff.mp h2
    subst h4
    show NestedKey.hash w k :: NestedKey.hashes w r = numHash k :: numHashes r
    rw [numHash_eq d k h1, numHashes_eq ds r h3]
end
/-- at a stands a dict with these entries: key, where the key's own tuple stands, value -/
abbrev DL3 := List (NestedKey × Addr × V)
abbrev RelE : NestedKey × Addr × V → NestedKey × Addr × Value → Prop := fun p q => p.1 = q.1 ∧ p.2.1 = q.2.1 ∧ RelV p.2.2 q.2.2
def numEntry (x : NestedKey × Addr × Value) : DictEntry := ⟨numHash x.1, .ref x.2.1, x.2.2⟩
def DctIs (L : DL3) (a : Addr) (h : Heap) : Prop := (a == sysModules) = false ∧ ∃ (xs : List (NestedKey × Addr × Value)) (o : Obj) (es : Array DictEntry) (ep : Nat),
  Paired RelE L xs ∧ h.get? a = some o ∧ o.ExactDict ∧ o.data = .dict es ep ∧ es.toList = xs.map numEntry
def DctO (L : DL3) (a : Addr) : HO := .ext (DctIs L a)
theorem dctIs_stay {L : DL3} {a : Addr} (h1 h2 : Heap) (x : DctIs L a h1) (k : ∀ o, h1.get? a = some o → h2.get? a = some o) : DctIs L a h2 := by
  obtain ⟨n, xs, o, es, ep, r, e, c⟩ := x
  exact ⟨n, xs, o, es, ep, r, k _ e, c⟩
theorem dct_ok {P : Program} {w : World} {H : Hp} {h : Heap} {L : DL3} {a : Addr} (x : DctIs L a h) : ObjOk P w H h a (DctO L a) := by
  refine ⟨x, ?_, dctIs_stay⟩
  obtain ⟨_, _, o, _, _, _, e, _⟩ := x
  exact ⟨o, e⟩
/-- the key k, of a depth that is served, as a tuple at b -/
def KeyAt (K : PySem.W.Frag) (H : Hp) (k : NestedKey) (b : Addr) : Prop := ∃ d, keyD d = some k ∧ k.depth ≤ 8 ∧ Dp K H (.ref b) d
theorem KeyAt.same {K : PySem.W.Frag} {H H' : Hp} {k : NestedKey} {b : Addr} (x : KeyAt K H k b) (f : ∀ d v, Dp K H v d → Dp K H' v d) : KeyAt K H' k b := by
  obtain ⟨d, h1, h2, h3⟩ := x
  exact ⟨d, h1, h2, f _ _ h3⟩
section
variable {X : Cx} {pins : List (Addr × Obj)} {σ : L2.St} {H : Hp} {s : Shared}
mutual
theorem nested_of (I : Inv X pins σ H s) : ∀ (d : PyData) (k : NestedKey) (v : V) (u : Value), keyD d = some k → Dp X.K H v d → RelV v u → NestedIs s.heap k u
  | .int i, k, v, u, h, q, r => by
    cases h
    cases q
    obtain ⟨t, rfl⟩ := r
    exact .int i t
  | .tuple ds, k, v, u, h, q, r => by
    obtain ⟨ks, h1, h2⟩ := Option.map_eq_some_iff.mp (show (keysD ds).map NestedKey.tup = some k from h)
    subst h2
    cases q with
    | tup hs ha =>
      cases r
      obtain ⟨its, rv, ⟨o, ho, hc, n, hd⟩, _⟩ := I.tuple hs
      exact .tup ho hc hd (nestedAll_of I ds ks _ _ h1 ha rv)
  | .none, _, _, _, h, _, _ => by cases h
  | .bool _, _, _, _, h, _, _ => by cases h
  | .str _, _, _, _, h, _, _ => by cases h
  | .list _, _, _, _, h, _, _ => by cases h
  | .dict _, _, _, _, h, _, _ => by cases h
theorem nestedAll_of (I : Inv X pins σ H s) : ∀ (ds : List PyData) (ks : List NestedKey) (vs : List V) (us : List Value), keysD ds = some ks → DpAll X.K H vs ds → Vals vs us → NestedAll s.heap ks us
  | [], ks, vs, us, h, q, r => by
    cases h
    cases q
    cases r
    exact .nil
  | d :: ds, ks, vs, us, h, q, r => by
    obtain ⟨k, h1, h2⟩ := Option.bind_eq_some_iff.mp (show (keyD d).bind _ = some ks from h)
    obtain ⟨r', h3, h4⟩ := Option.map_eq_some_iff.mp h2
    subst h4
    cases q with
    | cons q1 q2 =>
      cases r with
      | cons r1 r2 => exact .cons (nested_of I d k _ _ h1 q1 r1) (nestedAll_of I ds r' _ _ h3 q2 r2)
end
theorem key_is (I : Inv X pins σ H s) {k : NestedKey} {b : Addr} (x : KeyAt X.K H k b) : (nestedKind X.prog X.w).is s.heap k b := by
  obtain ⟨d, h1, h2, h3⟩ := x
  exact ⟨nested_of I d k _ _ h1 h3 rfl, h2⟩
def atL (L : DL3) (k : NestedKey) : Option V := (L.find? fun p => decide (p.1 = k)).map (·.2.2)
def putL (L : DL3) (k : NestedKey) (b : Addr) (v : V) : DL3 := if (atL L k).isSome then L.map (fun p => if p.1 = k then (p.1, p.2.1, v) else p) else L ++ [(k, b, v)]
theorem rel_at {L : DL3} {xs : List (NestedKey × Addr × Value)} (r : Paired RelE L xs) (k : NestedKey) : L2.RelO (atL L k) ((atKey xs k).map (·.2)) := by
  induction r with
  | nil => exact True.intro
  | @cons p q L xs h t ih =>
    obtain ⟨h1, h2, h3⟩ := h
    unfold atL atKey at ih ⊢
    rw [List.find?_cons, List.find?_cons]
    by_cases e : p.1 = k
    · rw [decide_eq_true e, decide_eq_true (h1.symm.trans e)]
      exact h3
    · rw [decide_eq_false e, decide_eq_false (fun z => e (h1.trans z))]
      exact ih
theorem rel_put {L : DL3} {xs : List (NestedKey × Addr × Value)} (r : Paired RelE L xs) (k : NestedKey) (b : Addr) {v : V} {u : Value} (rv : RelV v u) : Paired RelE (putL L k b v) (storedH xs k b u) := by
  have e : (atL L k).isSome = (atKey xs k).isSome := by
    have := RelO.isSome_eq (rel_at r k)
    rwa [Option.isSome_map] at this
  unfold putL storedH
  rw [e]
  split
  · clear e
    rename_i hh
    clear hh
    induction r with
    | nil => exact .nil
    | @cons p q L xs h t ih =>
      obtain ⟨h1, h2, h3⟩ := h
      rw [List.map_cons, List.map_cons]
      refine .cons ?_ ih
      unfold putAt
      by_cases e : p.1 = k
      · rw [if_pos e, if_pos (h1.symm.trans e)]
        exact ⟨h1, h2, rv⟩
      · rw [if_neg e, if_neg (fun z => e (h1.trans z))]
        exact ⟨h1, h2, h3⟩
  · clear e
    rename_i hh
    clear hh
    induction r with
    | nil => exact .cons ⟨rfl, rfl, rv⟩ .nil
    | cons h t ih => exact .cons h ih
theorem rel_mem {L : DL3} {xs : List (NestedKey × Addr × Value)} (r : Paired RelE L xs) : ∀ x ∈ xs, ∃ p ∈ L, p.1 = x.1 ∧ p.2.1 = x.2.1 := by
  induction r with
  | nil => exact fun x h => nomatch h
  | @cons p q L xs h t ih =>
    intro x hx
    rcases List.mem_cons.mp hx with rfl | hx
    · exact ⟨p, List.mem_cons_self, h.1, h.2.1⟩
    · obtain ⟨y, hy, z⟩ := ih x hx
      exact ⟨y, List.mem_cons_of_mem _ hy, z⟩
theorem rel_keys {L : DL3} {xs : List (NestedKey × Addr × Value)} (r : Paired RelE L xs) : L.map (·.1) = xs.map (·.1) := by
  induction r with
  | nil => rfl
  | cons h t ih => rw [List.map_cons, List.map_cons, h.1, ih]
/-- the entries' keys stand as they should -/
structure KeysOk (K : PySem.W.Frag) (H : Hp) (L : DL3) : Prop where
  at_ : ∀ p ∈ L, KeyAt K H p.1 p.2.1
  nd : (L.map (·.1)).Nodup
theorem map_entries {P : Program} {w : World} {xs : List (NestedKey × Addr × Value)} (h : ∀ x ∈ xs, x.1.hash w = numHash x.1) : xs.map (entryOfKey (nestedKind P w)) = xs.map numEntry := by
  refine List.map_congr_left fun x hx => ?_
  show (⟨x.1.hash w, _, _⟩ : DictEntry) = ⟨numHash x.1, _, _⟩
  rw [h x hx]
theorem hash_at {K : PySem.W.Frag} {H : Hp} {k : NestedKey} {b : Addr} {w : World} (x : KeyAt K H k b) : k.hash w = numHash k := by
  obtain ⟨d, h1, _⟩ := x
  exact numHash_eq d k h1
theorem dct_of (I : Inv X pins σ H s) {a : Addr} {L : DL3} (hH : H a = some (DctO L a)) (hk : KeysOk X.K H L) : (a == sysModules) = false ∧ ∃ xs, Paired RelE L xs ∧ s.heap.DictOfH (nestedKind X.prog X.w) a xs := by
  obtain ⟨⟨n, xs, o, es, ep, r, e, ex, hd, he⟩, _, _⟩ := (show ObjOk X.prog X.w H s.heap a (DctO L a) from I.hok a _ hH)
  refine ⟨n, xs, r, o, es, ep, e, ex, hd, ?_, fun x hx => ?_, ?_⟩
  · rw [he]
    refine (map_entries fun x hx => ?_).symm
    obtain ⟨p, hp, e1, _⟩ := rel_mem r x hx
    rw [← e1]
    exact hash_at (hk.at_ p hp)
  · obtain ⟨p, hp, e1, e2⟩ := rel_mem r x hx
    rw [← e1, ← e2]
    exact key_is I (hk.at_ p hp)
  · rw [← rel_keys r]
    exact hk.nd
theorem room_in1 (hu : X.A.units + 9 < cLine) : (nestedKind X.prog X.w).room X.A.in1 := by
  show X.A.units + 1 + 8 < cLine
  omega
theorem relO_some {o : Option Value} {v : V} (r : L2.RelO (some v) o) : ∃ u, o = some u ∧ RelV v u := by
  cases o with
  | none => exact (show False from r).elim
  | some u => exact ⟨u, rfl, r⟩
variable {a b : Addr} {L : DL3} {k : NestedKey} {E : Value → Shared → Prop}
theorem dct_get {v : V} {Q : Value → Shared → Prop} (hu : X.A.units + 9 < cLine) (I : Inv X pins σ H s) (hH : H a = some (DctO L a)) (hk : KeysOk X.K H L) (hb : KeyAt X.K H k b) (hv : atL L k = some v)
    (h : ∀ u s', Inv X pins σ H s' → RelV v u → Q u s') : wpAny (model X.prog X.w) X.A (getItem (.ref a) (.ref b)) Q E s := by
  obtain ⟨n, xs, r, hx⟩ := dct_of I hH hk
  have q := rel_at r k
  rw [hv] at q
  obtain ⟨u, h1, h2⟩ := relO_some q
  obtain ⟨p, hp, h3⟩ := Option.map_eq_some_iff.mp h1
  refine wpAny_getItem_heap (room_in1 hu) (key_is I hb) hx hp ?_
  rw [h3]
  exact h u _ (I.tok _) h2
theorem dct_in {Q : Value → Shared → Prop} (hu : X.A.units + 9 < cLine) (I : Inv X pins σ H s) (hH : H a = some (DctO L a)) (hk : KeysOk X.K H L) (hb : KeyAt X.K H k b)
    (h : ∀ s', Inv X pins σ H s' → Q (.bool (atL L k).isSome) s') : wpAny (model X.prog X.w) X.A (compareOp .In (.ref b) (.ref a)) Q E s := by
  obtain ⟨n, xs, r, hx⟩ := dct_of I hH hk
  have q := RelO.isSome_eq (rel_at r k)
  rw [Option.isSome_map] at q
  rw [q] at h
  exact wpAny_in_heap (room_in1 hu) (key_is I hb) n hx (h _ (I.tok _))
theorem dct_notIn {Q : Value → Shared → Prop} (hu : X.A.units + 9 < cLine) (I : Inv X pins σ H s) (hH : H a = some (DctO L a)) (hk : KeysOk X.K H L) (hb : KeyAt X.K H k b)
    (h : ∀ s', Inv X pins σ H s' → Q (.bool (!(atL L k).isSome)) s') : wpAny (model X.prog X.w) X.A (compareOp .NotIn (.ref b) (.ref a)) Q E s := by
  obtain ⟨n, xs, r, hx⟩ := dct_of I hH hk
  have q := RelO.isSome_eq (rel_at r k)
  rw [Option.isSome_map] at q
  rw [q] at h
  exact wpAny_notIn_heap (room_in1 hu) (key_is I hb) n hx (h _ (I.tok _))
theorem dct_set {v : V} {u : Value} {Q : Unit → Shared → Prop} (hu : X.A.units + 9 < cLine) (I : Inv X pins σ H s) (hH : H a = some (DctO L a)) (hk : KeysOk X.K H L) (hb : KeyAt X.K H k b) (rv : RelV v u) (hl : L.length ≤ 1000000)
    (h : ∀ s', Inv X pins σ (upd H a (DctO (putL L k b v) a)) s' → Q () s') : wpAny (model X.prog X.w) X.A (setItem (.ref a) (.ref b) u) Q E s := by
  obtain ⟨n, xs, r, hx⟩ := dct_of I hH hk
  have lx : xs.length = L.length := by
    have := congrArg List.length (rel_keys r)
    rw [List.length_map, List.length_map] at this
    exact this.symm
  refine wpAny_setItem_heap (room_in1 hu) (key_is I hb) hx (fun h' hm hs => h _ ?_) (by rw [sizeLine_eq]; omega)
  obtain ⟨o, es, ep, ho, ex, hd, he, _, _⟩ := hm
  refine I.write (x := a) (e := a) (by rw [hH]; exact True.intro) (.inl rfl) (fun c z nc hc => (hs.2 c nc).trans hc) ⟨o, ho⟩ (dct_ok ⟨n, _, o, es, ep, rel_put r k b rv, ho, ex, hd, ?_⟩)
  rw [he]
  refine map_entries fun x hx' => ?_
  have : x ∈ storedH xs k b u := hx'
  unfold storedH at this
  split at this
  · obtain ⟨y, hy, e⟩ := List.mem_map.mp this
    have e1 : x.1 = y.1 := by rw [← e]; unfold putAt; split <;> rfl
    obtain ⟨p, hp, e2, _⟩ := rel_mem r y hy
    rw [e1, ← e2]
    exact hash_at (hk.at_ p hp)
  · rcases List.mem_append.mp this with hy | hy
    · obtain ⟨p, hp, e2, _⟩ := rel_mem r x hy
      rw [← e2]
      exact hash_at (hk.at_ p hp)
    · rw [List.mem_singleton] at hy
      rw [hy]
      exact hash_at hb
end
section
variable {X : Cx} {pos : Pos}
/-- {} -/
def tDctNew : TE := fun _ H Q => ∀ p, H p = none → Q (.ref p) (upd H p (DctO [] p))
theorem pe_dctNew : PE X (.Dict [] [] pos) tDctNew := by
  refine ⟨fun pins s σ H Q I q => wpAny_Dict_empty ?_⟩
  have n : (s.heap.objs.size == sysModules) = false := beq_eq_false_iff_ne.mpr (Ne.symm (Nat.ne_of_lt I.big))
  exact ⟨.ref s.heap.objs.size, _, I.laid (t' := s.toks) (fun _ _ e => Heap.get?_push_of_some _ e) (Nat.le_refl _) (dct_ok ⟨n, [], _, #[], 0, .nil, Heap.get?_push_size _ rfl, ⟨rfl, rfl, rfl⟩, rfl, rfl⟩), rfl, q _ (I.hok.fresh (Nat.le_refl _))⟩
end
end RL
namespace RL
open PySem PySem.Spec PyProof.Rows L2
theorem tuple_mul1 (l : Addr) (items : Array Value) (n : Nat) (dd : Option Addr) (sl : Array (Option Value)) (u : Tok) :
    Meets (Builtin.«tuple.__mul__» ⟨[.ref l, .int 1 u], []⟩) (fun _ R s => s.heap.get? l = some { cls := .type "tuple", dict := dd, data := .seq items n, slots := sl } ∧ R (.ok (.ret (Value.ref l))) s) :=
  .of_wp fun prog w A R s h => by
    obtain ⟨hp, g, d, tk, os⟩ := s
    obtain ⟨hl, h⟩ := h
    have f1 := AutoSeq1.idx_int
    have c1 : (items.isEmpty || (1 : Int) == 1) = true := by cases items.isEmpty <;> rfl
    wp_walk using wpAny_loadPart' hl
    repeat (first
      | (refine wpAny_ite_false (decide_eq_false (by decide)) ?_; wp_walk using wpAny_loadPart' hl)
      | (refine wpAny_ite_true (decide_eq_true c1) ?_; wp_walk using wpAny_loadPart' hl))
    exact ⟨_, rfl, h⟩
/-- (z,) * k: at 1 it is the tuple itself -/
def rRepC (K : PySem.W.Frag) : R2 := fun x y H Q => ∃ (l : Addr) (z : V) (k : Nat), x = .ref l ∧ y = vN k ∧ SqT K H l [z] ∧ 1 ≤ k ∧ k ≤ 1000 ∧ ∀ (p : Addr) (H' : Hp), Same H H' → SqT K H' p (List.replicate k z) → Q (.ref p) H'
theorem op_repC {X : Cx} : OpR X (binaryOp .Mult) (rRepC X.K) := by
  intro pins s σ H x y v u Q I rx ry h
  obtain ⟨l, z, k, rfl, rfl, hT, h1, h2, q⟩ := h
  by_cases e : k = 1
  · subst e
    cases rx
    obtain ⟨t, rfl⟩ := ry
    obtain ⟨its, r, ⟨⟨cls, dd, data, sl⟩, ho, hc, n, hd⟩, hs⟩ := I.tuple hT
    simp only at hc hd
    subst hc hd
    refine wpAny_binaryOp_repeat_ref (T := "tuple") (U := "int") (by decide) ⟨_, ho, rfl⟩ (fun s' => typeIs_int s' _ t) noFill_tuple_mul F.fills_int_mul F.slot_int_rmul repeat_tuple F.slot_int_index.lookup
      (call_meets F.slot_int_rmul (typeIs_int s _ t) F.entry_int_rmul (F.args_int_rmul_2 _ _) (int_rmul_tuple _ t l its.toArray n dd sl)
        ⟨ho, rfl, ⟨_, ho, rfl⟩, call_meets F.slot_tuple_mul ⟨_, ho, rfl⟩ F.entry_tuple_mul (F.args_tuple_mul_2 _ _) (tuple_mul1 l its.toArray n dd sl t) ⟨ho, ?_⟩⟩)
    exact ⟨.ref l, H, I, rfl, q l H (Same.refl H) hT⟩
  · refine op_repT pins s σ H _ _ v u Q I rx ry ⟨l, (k : Int), [z], rfl, rfl, hT, by simp, by omega, by omega, by simp, fun p np => q p _ (same_new np) (SqT.of ?_)⟩
    rw [upd_same]
    have : ∀ m : Nat, (List.replicate m [z]).flatten = List.replicate m z := by
      intro m
      induction m with
      | zero => rfl
      | succ m ih => rw [List.replicate_succ, List.flatten_cons, ih]; rfl
    rw [this]
    have e2 : ((k : Nat) : Int).toNat = k := by omega
    rw [e2]
end RL
namespace RL
open PySem PySem.Spec PyProof.Rows L2 HT

/-! ### made tuples that are known to have no dict -/
/-- the object of a tuple that is made -/
def PlainT (ob : Obj) : Prop := ob.cls = .type "tuple" ∧ ob.dict = none
/-- what is wanted of a new tuple -/
abbrev NewT (H : Hp) (xs : List V) (Q : VK) : Prop := ∀ p ob, H p = none → PlainT ob → Q (.ref p) (upd H p (.frz ob (.tup xs)))
section
variable {X : Cx} {pos : Pos}
theorem frzT {P : Program} {w : World} {H : Hp} {h : Heap} {us : List Value} {xs : List V} (r : Vals xs us) (hz : xs.length ≤ sizeLine) :
    ObjOk P w H (h.push { cls := .type "tuple", data := .seq us.toArray }) h.objs.size (.frz { cls := .type "tuple", data := .seq us.toArray } (.tup xs)) :=
  ⟨Heap.get?_push_size _ rfl, hz, us, r, IsTup.new _ _⟩
theorem newT {pins : List (Addr × Obj)} {s : Shared} {σ : L2.St} {H : Hp} {Q : VK} {us : List Value} {xs : List V} (I : Inv X pins σ H s) (r : Vals xs us) (hz : xs.length ≤ sizeLine) (q : NewT H xs Q) :
    EP X pins σ Q (.ref s.heap.objs.size) { s with heap := s.heap.push { cls := .type "tuple", data := .seq us.toArray } } :=
  ⟨.ref s.heap.objs.size, _, I.laid (t' := s.toks) (o := .frz { cls := .type "tuple", data := .seq us.toArray } (.tup xs)) (fun b ob q => Heap.get?_push_of_some _ q) (Nat.le_refl _) (frzT r hz), rfl, q _ _ (I.hok.fresh (Nat.le_refl _)) ⟨rfl, rfl⟩⟩
def tTupP (ta : TA) : TE := fun σ H Q => ta σ H fun xs H1 => xs.length ≤ sizeLine ∧ NewT H1 xs Q
theorem pe_tupP {es : List Expr} {t : TA} {x1} (h : PA X es t) : PE X (.Tuple es x1 pos) (tTupP t) := by
  constructor
  intro pins s σ H Q I hq
  refine wpAny_Tuple_spliced (thn (h.run pos pins s σ H _ I hq) ?_)
  rintro us s1 ⟨xs, H1, I1, r, z, q⟩
  exact ⟨by rw [← r.length]; exact z, newT I1 r z q⟩

/-! ### + -/
def rCatP (K : PySem.W.Frag) : R2 := fun x y H Q => ∃ a b xs ys, x = .ref a ∧ y = .ref b ∧ SqT K H a xs ∧ SqT K H b ys ∧ xs.length + ys.length ≤ sizeLine ∧
  (xs = [] → Q (.ref b) H) ∧ (xs ≠ [] → ys = [] → Q (.ref a) H) ∧ (xs ≠ [] → ys ≠ [] → NewT H (xs ++ ys) Q)
theorem op_catP : OpR X (binaryOp .Add) (rCatP X.K) := by
  intro pins s σ H x y v u Q I rx ry h
  obtain ⟨a, b, xs, ys, rfl, rfl, ha, hb, hz, q0, q1, q2⟩ := h
  cases rx
  cases ry
  obtain ⟨its, r1, p1, _⟩ := I.tuple ha
  obtain ⟨its2, r2, p2, _⟩ := I.tuple hb
  by_cases hx : xs = []
  · subst hx
    cases r1
    exact cat_tup0 p1 p2 ⟨.ref b, H, I, rfl, q0 rfl⟩
  · refine HT.cat_tup p1 p2 (fun z => hx (r1.nil_iff.mp z)) (fun z => ⟨.ref a, H, I, rfl, q1 hx (r2.nil_iff.mp z)⟩) (fun z => ?_) (by rw [← r1.length, ← r2.length]; exact hz)
    exact newT I (r1.append r2) (by rw [List.length_append]; exact hz) (q2 hx fun w => z (r2.nil_iff.mpr w))

/-! ### * -/
def rRepP (K : PySem.W.Frag) : R2 := fun x y H Q => ∃ l k xs, x = .ref l ∧ y = .int k ∧ SqT K H l xs ∧ xs ≠ [] ∧ 2 ≤ k ∧ k ≤ 1000 ∧ xs.length ≤ 1000 ∧ NewT H (List.replicate k.toNat xs).flatten Q
theorem op_repP : OpR X (binaryOp .Mult) (rRepP X.K) := by
  intro pins s σ H x y v u Q I rx ry h
  obtain ⟨l, k, xs, rfl, rfl, hT, hne, h1, h2, hz, q⟩ := h
  cases rx
  obtain ⟨t, rfl⟩ := ry
  obtain ⟨its, r, ⟨⟨cls, dd, data, sl⟩, ho, hc, n, hd⟩, hs⟩ := I.tuple hT
  simp only at hc hd
  subst hc hd
  have hle : its.length = xs.length := r.length.symm
  have hn : its ≠ [] := fun e => hne (by
    rw [e] at hle
    exact List.eq_nil_of_length_eq_zero hle.symm)
  have hi : its.toArray.isEmpty = false := by
    cases its with
    | nil => exact absurd rfl hn
    | cons a b => rfl
  have hsz0 : its.toArray.size = xs.length := by rw [List.size_toArray, hle]
  have hm : ((its.toArray.size : Nat) : Int) * k ≤ 1000000 := by
    rw [hsz0]
    have a1 : ((xs.length : Nat) : Int) * k ≤ 1000 * k := Int.mul_le_mul_of_nonneg_right (by omega) (by omega)
    omega
  have flen : (List.replicate k.toNat its).flatten.length ≤ sizeLine := by
    rw [PyProof.Rows.lm_len_rep_flat, hle, sizeLine_eq]
    have a1 : k.toNat * xs.length ≤ 1000 * 1000 := Nat.mul_le_mul (by omega) hz
    omega
  have c0 : (decide (k < -(2 ^ 63)) || decide (k ≥ 2 ^ 63)) = false := by
    rw [decide_eq_false (by omega), decide_eq_false (by omega)] <;> rfl
  have c1 : (its.toArray.isEmpty || k == 1) = false := by
    rw [hi, Bool.false_or]
    exact beq_eq_false_iff_ne.mpr (by omega)
  have c2 : (decide (k ≤ 0) || its.toArray.isEmpty) = false := by
    rw [hi, Bool.or_false]
    exact decide_eq_false (by omega)
  have c4 : Builtin.Tuple.tupleTooMany (((its.toArray.size : Nat) : Int) * k) = false := by
    unfold Builtin.Tuple.tupleTooMany
    rw [sizeLine_eq]
    exact decide_eq_false (by omega)
  refine wpAny_binaryOp_repeat_ref (T := "tuple") (U := "int") (by decide) ⟨_, ho, rfl⟩ (fun s' => typeIs_int s' k t) noFill_tuple_mul F.fills_int_mul F.slot_int_rmul repeat_tuple F.slot_int_index.lookup
    (call_meets F.slot_int_rmul (typeIs_int s k t) F.entry_int_rmul (F.args_int_rmul_2 _ _) (int_rmul_tuple k t l its.toArray n dd sl)
      ⟨ho, rfl, ⟨_, ho, rfl⟩, call_meets F.slot_tuple_mul ⟨_, ho, rfl⟩ F.entry_tuple_mul (F.args_tuple_mul_2 _ _) (tuple_mulW l its.toArray n dd sl k t c0 c1 c2 (by omega) c4 (by rw [size_rep, List.size_toArray]; exact flen)) ⟨ho, ?_⟩⟩)
  rw [size_rep]
  refine newT I (r.rep k.toNat) ?_ q
  rw [PyProof.Rows.lm_len_rep_flat, sizeLine_eq]
  have a1 : k.toNat * xs.length ≤ 1000 * 1000 := Nat.mul_le_mul (by omega) hz
  omega

/-! ### tuple(..) -/
theorem call_tupleP : CallR X (.type "tuple") (fun xs H Q => ∃ p ys, xs = [.ref p] ∧ ((SqL X.K H p ys ∧ NewT H ys Q) ∨ (SqT X.K H p ys ∧ Q (.ref p) H))) := by
  intro pins s σ H xs us Q I r h
  obtain ⟨p, ys, rfl, h⟩ := h
  obtain ⟨u, rfl, rx⟩ := Vals.one r
  cases rx
  rcases h with ⟨hq, q⟩ | ⟨hq, q⟩
  · obtain ⟨its, r', pl, hz⟩ := I.list hq
    have hlen := r'.length
    refine call_tuple_list pl.isList (fun h' kp => ?_) (by simp only [List.size_toArray] <;> omega)
    have I1 : Inv X pins σ H { s with heap := h' } := I.kept (t' := s.toks) kp
    exact newT I1 r' hz q
  · obtain ⟨its, r', pl, hz⟩ := I.tuple hq
    exact call_tuple_same pl ⟨.ref p, H, I, rfl, q⟩

/-! ### t[lo:hi] -/
def rSlP (K : PySem.W.Frag) : V → Option Int → Option Int → Hp → VK → Prop := fun x lo hi H Q => ∃ a xs, x = .ref a ∧ SqT K H a xs ∧
  (HT.sIx xs.length 0 lo = 0 ∧ HT.sIx xs.length xs.length hi = xs.length → Q (.ref a) H) ∧ (¬ (HT.sIx xs.length 0 lo = 0 ∧ HT.sIx xs.length xs.length hi = xs.length) → NewT H (cutV xs lo hi) Q)
theorem sl_tupP : SlR X (rSlP X.K) := by
  intro pins s σ H x v vl vu lo hi sl Q I rx hs pl pu h
  obtain ⟨a, xs, rfl, hx, q1, q2⟩ := h
  cases rx
  obtain ⟨its, r, ht, hz⟩ := I.tuple hx
  have hlen : its.toArray.size = xs.length := by rw [List.size_toArray]; exact r.length.symm
  refine ⟨"tuple", _, PyProof.Rows.slot_tuple_getitem.lookup, ht.typeIs, ?_⟩
  by_cases hw : HT.sIx xs.length 0 lo = 0 ∧ HT.sIx xs.length xs.length hi = xs.length
  · exact getItem_tuple_whole ht hs pl pu (by rw [hlen]; exact hw) ⟨.ref a, H, I, rfl, q1 hw⟩
  · refine HT.getItem_tuple_cut ht hs pl pu (by rw [hlen]; exact hw) ?_ (by rw [hlen]; exact hz)
    rw [hlen]
    exact newT I ((r.drop (HT.sIx xs.length 0 lo)).take (HT.sIx xs.length xs.length hi - HT.sIx xs.length 0 lo)) (Nat.le_trans (cutV_length xs lo hi) hz) (q2 hw)
end
end RL
namespace MP
open PySem PySem.Spec PyProof.Rows L2 RL

/-! ### data whose lists and tuples are all tracked -/
/-- a tuple that is known to have no dict -/
def TupAt (F : Hp) (a : Addr) (xs : List V) : Prop := ∃ ob, F a = some (.frz ob (.tup xs)) ∧ PlainT ob
theorem TupAt.same {F F' : Hp} {a : Addr} {xs : List V} (h : TupAt F a xs) (e : Same F F') : TupAt F' a xs := by
  obtain ⟨ob, h, p⟩ := h
  exact ⟨ob, e _ _ h, p⟩
theorem TupAt.sq {K : PySem.W.Frag} {F H : Hp} {a : Addr} {xs : List V} (h : TupAt F a xs) (e : Same F H) : SqT K H a xs := by
  obtain ⟨ob, h, p⟩ := h
  exact .inl (.inr ⟨ob, e _ _ h⟩)
mutual
inductive Dq (K : PySem.W.Frag) (F : Hp) : V → PyData → Prop
  | non : Dq K F .non .none
  | bl (b : Bool) : Dq K F (.bl b) (.bool b)
  | int (i : Int) : Dq K F (.int i) (.int i)
  | str (x : Str) : Dq K F (.str x) (.str x)
  | lst {a : Addr} {xs : List V} {ds : List PyData} : F a = some (.lst xs) → DqAll K F xs ds → Dq K F (.ref a) (.list ds)
  | tup {a : Addr} {xs : List V} {ds : List PyData} : TupAt F a xs → DqAll K F xs ds → Dq K F (.ref a) (.tuple ds)
inductive DqAll (K : PySem.W.Frag) (F : Hp) : List V → List PyData → Prop
  | nil : DqAll K F [] []
  | cons {v : V} {vs : List V} {d : PyData} {ds : List PyData} : Dq K F v d → DqAll K F vs ds → DqAll K F (v :: vs) (d :: ds)
end
mutual
theorem dq_same {K : PySem.W.Frag} {H H' : Hp} (e : Same H H') : ∀ (d : PyData) (v : V), Dq K H v d → Dq K H' v d
  | .none, _, h => by cases h; exact .non
  | .bool b, _, h => by cases h; exact .bl b
  | .int i, _, h => by cases h; exact .int i
  | .str x, _, h => by cases h; exact .str x
  | .dict _, _, h => by cases h
  | .list ds, _, h => by
    cases h with
    | lst hs ha => exact .lst (e _ _ hs) (dqAll_same e ds _ ha)
  | .tuple ds, _, h => by
    cases h with
    | tup hs ha => exact .tup (hs.same e) (dqAll_same e ds _ ha)
theorem dqAll_same {K : PySem.W.Frag} {H H' : Hp} (e : Same H H') : ∀ (ds : List PyData) (vs : List V), DqAll K H vs ds → DqAll K H' vs ds
  | [], _, h => by cases h; exact .nil
  | d :: ds, _, h => by
    cases h with
    | cons h1 h2 => exact .cons (dq_same e d _ h1) (dqAll_same e ds _ h2)
end
mutual
theorem dq_dp {K : PySem.W.Frag} {H : Hp} : ∀ (d : PyData) (v : V), Dq K H v d → Dp K H v d
  | .none, _, h => by cases h; exact .non
  | .bool b, _, h => by cases h; exact .bl b
  | .int i, _, h => by cases h; exact .int i
  | .str x, _, h => by cases h; exact .str x
  | .dict _, _, h => by cases h
  | .list ds, _, h => by
    cases h with
    | lst hs ha => exact .lst (SqL.of hs) (dqAll_dp ds _ ha)
  | .tuple ds, _, h => by
    cases h with
    | tup hs ha => exact .tup (hs.sq (Same.refl _)) (dqAll_dp ds _ ha)
theorem dqAll_dp {K : PySem.W.Frag} {H : Hp} : ∀ (ds : List PyData) (vs : List V), DqAll K H vs ds → DpAll K H vs ds
  | [], _, h => by cases h; exact .nil
  | d :: ds, _, h => by
    cases h with
    | cons h1 h2 => exact .cons (dq_dp d _ h1) (dqAll_dp ds _ h2)
end
section
variable {K : PySem.W.Frag} {H : Hp}
theorem DqAll.length : ∀ {vs : List V} {ds : List PyData}, DqAll K H vs ds → vs.length = ds.length
  | _, _, .nil => rfl
  | _, _, .cons _ h => by simp [DqAll.length h]
theorem DqAll.get : ∀ {vs : List V} {ds : List PyData} {i : Nat} {v : V}, DqAll K H vs ds → vs[i]? = some v → ∃ d, ds[i]? = some d ∧ Dq K H v d
  | _, _, _, _, .nil, h => by simp at h
  | _, _, 0, _, .cons h1 _, h => by
    have e := Option.some.inj (show some _ = some _ from h)
    subst e
    exact ⟨_, rfl, h1⟩
  | _, _, i + 1, _, .cons _ h2, h => DqAll.get (i := i) h2 (by simpa using h)
theorem DqAll.app : ∀ {vs us : List V} {ds es : List PyData}, DqAll K H vs ds → DqAll K H us es → DqAll K H (vs ++ us) (ds ++ es)
  | _, _, _, _, .nil, h => h
  | _, _, _, _, .cons h1 h2, h => .cons h1 (DqAll.app h2 h)
theorem DqAll.take : ∀ {vs : List V} {ds : List PyData} (n : Nat), DqAll K H vs ds → DqAll K H (vs.take n) (ds.take n)
  | _, _, 0, _ => .nil
  | _, _, _ + 1, .nil => .nil
  | _, _, n + 1, .cons r t => .cons r (DqAll.take n t)
theorem DqAll.drop : ∀ {vs : List V} {ds : List PyData} (n : Nat), DqAll K H vs ds → DqAll K H (vs.drop n) (ds.drop n)
  | _, _, 0, r => r
  | _, _, _ + 1, .nil => .nil
  | _, _, n + 1, .cons _ t => DqAll.drop n t
theorem DqAll.set {v : V} {d : PyData} (r : Dq K H v d) : ∀ {vs : List V} {ds : List PyData} (i : Nat), DqAll K H vs ds → DqAll K H (vs.set i v) (ds.set i d)
  | _, _, _, .nil => .nil
  | _, _, 0, .cons _ t => .cons r t
  | _, _, i + 1, .cons q t => .cons q (DqAll.set r i t)
theorem DqAll.erase : ∀ {vs : List V} {ds : List PyData} (i : Nat), DqAll K H vs ds → DqAll K H (vs.eraseIdx i) (ds.eraseIdx i)
  | _, _, _, .nil => by simpa using (DqAll.nil : DqAll K H [] [])
  | _, _, 0, .cons _ t => t
  | _, _, i + 1, .cons q t => .cons q (DqAll.erase i t)
theorem DqAll.rev : ∀ {vs : List V} {ds : List PyData}, DqAll K H vs ds → DqAll K H vs.reverse ds.reverse
  | _, _, .nil => .nil
  | _, _, .cons r t => by rw [List.reverse_cons, List.reverse_cons]; exact DqAll.app (DqAll.rev t) (.cons r .nil)
end

/-- the entries of a dict -/
structure DctAll (K : PySem.W.Frag) (F : Hp) (L : DL3) (kvs : List (PyData × PyData)) : Prop where
  all : Paired (fun (p : NestedKey × Addr × V) (q : PyData × PyData) => keyD q.1 = some p.1 ∧ p.1.depth ≤ 8 ∧ Dq K F (.ref p.2.1) q.1 ∧ Dq K F p.2.2 q.2) L kvs
  nd : (L.map (·.1)).Nodup
theorem dct_same {K : PySem.W.Frag} {F F' : Hp} (e : Same F F') {L : DL3} {kvs : List (PyData × PyData)} (h : DctAll K F L kvs) : DctAll K F' L kvs :=
  ⟨Paired.mapP h.all fun p q x => ⟨x.1, x.2.1, dq_same e _ _ x.2.2.1, dq_same e _ _ x.2.2.2⟩, h.nd⟩

/-! ### what a def's own lists hold; its slots -/
inductive Own where
  | no
  | lst (ds : List PyData)
  | dct (kvs : List (PyData × PyData))
  | fz (d : PyData)
abbrev Sto := List Own
inductive Sl where
  | d (x : PyData)
  | o (k : Nat)
  | s (ns : List Int)
abbrev Slots := List (Option Sl)
abbrev Ads := List (Option Addr)

section
variable (K : PySem.W.Frag)
def OwnOk (F H : Hp) : Option Addr → Own → Prop
  | _, .no => True
  | some a, .lst ds => F a = none ∧ ∃ vs, H a = some (.lst vs) ∧ DqAll K F vs ds
  | some a, .dct kvs => F a = none ∧ ∃ L, H a = some (DctO L a) ∧ DctAll K F L kvs
  | some a, .fz d => H a ≠ none ∧ Dq K F (.ref a) d
  | none, _ => False
structure RelO (F H : Hp) (ow : Ads) (so : Sto) : Prop where
  sub : Same F H
  len : ow.length = so.length
  own : ∀ (k : Nat) (a : Option Addr) (w : Own), ow[k]? = some a → so[k]? = some w → OwnOk K F H a w
  inj : ∀ (j k : Nat) (a : Addr), ow[j]? = some (some a) → ow[k]? = some (some a) → j = k
  old : ∀ (k : Nat) (a : Addr), ow[k]? = some (some a) → H a ≠ none
def SvOk (F : Hp) (ow : Ads) (v : V) : Sl → Prop
  | .d x => Dq K F v x
  | .o k => ∃ a, ow[k]? = some (some a) ∧ v = .ref a
  | .s ns => ∃ a, SqL K F a (ns.map V.int) ∧ v = .ref a
def SlOk (F : Hp) (ow : Ads) (v : Option V) : Option Sl → Prop
  | none => True
  | some s => ∃ u, v = some u ∧ SvOk K F ow u s
structure RelS (F : Hp) (ow : Ads) (σ : L2.St) (ρ : Slots) : Prop where
  len : σ.length = ρ.length
  ats : ∀ (i : Nat) (v : Option V) (s : Option Sl), σ[i]? = some v → ρ[i]? = some s → SlOk K F ow v s
end
/-- what an expression leaves of all that is not the def's own -/
structure Stp (ow : Ads) (F H F' H' : Hp) : Prop where
  fz : Same F F'
  keep : ∀ a o, some a ∉ ow → H a = some o → H' a = some o
  own : ∀ a o, some a ∉ ow → H a = some o → F a = none → F' a = none
  live : ∀ a, H a ≠ none → H' a ≠ none
theorem Stp.refl (ow : Ads) (F H : Hp) : Stp ow F H F H := ⟨Same.refl F, fun _ _ _ h => h, fun _ _ _ _ h => h, fun _ h => h⟩
theorem Stp.trans {ow : Ads} {F H F1 H1 F2 H2 : Hp} (a : Stp ow F H F1 H1) (b : Stp ow F1 H1 F2 H2) : Stp ow F H F2 H2 :=
  ⟨a.fz.trans b.fz, fun c o n h => b.keep c o n (a.keep c o n h), fun c o n h e => b.own c o n (a.keep c o n h) (a.own c o n h e), fun c h => b.live c (a.live c h)⟩
theorem Stp.some_of {ow : Ads} {F H F' H' : Hp} (a : Stp [] F H F' H') : Stp ow F H F' H' := ⟨a.fz, fun c o _ h => a.keep c o (by simp) h, fun c o _ h e => a.own c o (by simp) h e, a.live⟩
theorem live_upd {H : Hp} {p a : Addr} {o : HO} (h : H a ≠ none) : (upd H p o) a ≠ none := by
  by_cases e : a = p
  · subst e
    rw [upd_same]
    exact nofun
  · rw [upd_ne e]
    exact h
theorem Stp.same {F H F' H' : Hp} (a : Stp [] F H F' H') : Same H H' := fun b o h => a.keep b o (by simp) h
/-- a new thing, frozen at once -/
theorem Stp.new {F H : Hp} {p : Addr} {o : HO} (h : H p = none) (e : Same F H) : Stp [] F H (upd F p o) (upd H p o) := by
  refine ⟨same_new (e.free h), fun a u _ ha => same_new h a u ha, fun a u _ ha hf => ?_, fun a ha => live_upd ha⟩
  rw [upd_ne (ne_of_none ha h)]
  exact hf
theorem same_upd {F H : Hp} {p : Addr} {o : HO} (e : Same F H) : Same (upd F p o) (upd H p o) := fun b u hb => by
  by_cases hp : b = p
  · subst hp
    rw [upd_same] at hb ⊢
    exact hb
  · rw [upd_ne hp] at hb ⊢
    exact e b u hb
section
variable {K : PySem.W.Frag} {F H F' H' : Hp} {ow : Ads} {so : Sto} {σ : L2.St} {ρ : Slots}
theorem OwnOk.grow {a : Option Addr} {w : Own} (h : OwnOk K F H a w) (s : Stp [] F H F' H') : OwnOk K F' H' a w := by
  cases w with
  | no => cases a <;> trivial
  | lst ds =>
    cases a with
    | none => exact h.elim
    | some a =>
      obtain ⟨f, vs, hv, hd⟩ := h
      exact ⟨s.own a _ (by simp) hv f, vs, s.keep a _ (by simp) hv, dqAll_same s.fz ds vs hd⟩
  | dct ds =>
    cases a with
    | none => exact h.elim
    | some a =>
      obtain ⟨f, vs, hv, hd⟩ := h
      exact ⟨s.own a _ (by simp) hv f, vs, s.keep a _ (by simp) hv, dct_same s.fz hd⟩
  | fz d =>
    cases a with
    | none => exact h.elim
    | some a =>
      obtain ⟨f, hd⟩ := h
      refine ⟨?_, dq_same s.fz d _ hd⟩
      cases q : H a with
      | none => exact absurd q f
      | some o => rw [s.keep a o (by simp) q]; exact nofun
theorem RelO.grow (r : RelO K F H ow so) (s : Stp [] F H F' H') (e : Same F' H') : RelO K F' H' ow so := by
  refine ⟨e, r.len, fun k a w ha hw => (r.own k a w ha hw).grow s, r.inj, fun k a h => ?_⟩
  have := r.old k a h
  cases q : H a with
  | none => exact absurd q this
  | some o => rw [s.keep a o (by simp) q]; exact nofun
theorem SvOk.mono {v : V} {s : Sl} (h : SvOk K F ow v s) (e : Same F F') : SvOk K F' ow v s := by
  cases s with
  | d x => exact dq_same e x v h
  | o k => exact h
  | s ns =>
    obtain ⟨a, q, e2⟩ := h
    exact ⟨a, e.seq q, e2⟩
theorem SlOk.mono {v : Option V} {s : Option Sl} (h : SlOk K F ow v s) (e : Same F F') : SlOk K F' ow v s := by
  cases s with
  | none => trivial
  | some s =>
    obtain ⟨u, hu, q⟩ := h
    exact ⟨u, hu, q.mono e⟩
theorem RelS.mono (r : RelS K F ow σ ρ) (e : Same F F') : RelS K F' ow σ ρ := ⟨r.len, fun i v s hv hs => (r.ats i v s hv hs).mono e⟩
theorem RelS.set {i : Nat} {v : Option V} {s : Option Sl} (r : RelS K F ow σ ρ) (h : SlOk K F ow v s) : RelS K F ow (σ.set i v) (ρ.set i s) := by
  refine ⟨by rw [List.length_set, List.length_set]; exact r.len, fun j v' s' hv hs => ?_⟩
  by_cases e : i = j
  · subst e
    rw [List.getElem?_set] at hv hs
    rw [if_pos rfl] at hv hs
    split at hv
    · rw [if_pos (by rw [← r.len]; assumption)] at hs
      cases hv
      cases hs
      exact h
    · cases hv
  · rw [List.getElem?_set_ne e] at hv hs
    exact r.ats j v' s' hv hs
theorem RelS.get {i : Nat} {s : Sl} (r : RelS K F ow σ ρ) (h : ρ[i]? = some (some s)) : ∃ v, σ[i]? = some (some v) ∧ SvOk K F ow v s := by
  have hi : i < ρ.length := (List.getElem?_eq_some_iff.mp h).1
  have hi' : i < σ.length := by rw [r.len]; exact hi
  have g : σ[i]? = some σ[i] := List.getElem?_eq_getElem hi'
  obtain ⟨v, hv, q⟩ := r.ats i σ[i] (some s) g h
  rw [hv] at g
  exact ⟨v, g, q⟩
def wipeS (ρ : Slots) : List Nat → Slots
  | [] => ρ
  | v :: vs => (wipeS ρ vs).set v none
theorem RelS.wipe (r : RelS K F ow σ ρ) : ∀ vs, RelS K F ow (L2.wipe σ vs) (wipeS ρ vs)
  | [] => r
  | v :: vs => (r.wipe vs).set (by trivial)
end

/-! ### the readings -/
abbrev DE := Slots → Sto → Option (PyData × Sto)
abbrev DL := Slots → Sto → Option (List PyData × Sto)
abbrev DB := Slots → Sto → Option (Bool × Sto)
inductive Fl where
  | nx (ρ : Slots)
  | bk (ρ : Slots)
  | ct (ρ : Slots)
  | rt (d : PyData)
  | ex (n : Str)
abbrev DS := Slots → Sto → Option (Fl × Sto)
section
variable (K : PySem.W.Frag)
def tOf (f : DE) : TE := fun σ H Q => ∃ F ow ρ so d so', RelO K F H ow so ∧ RelS K F ow σ ρ ∧ f ρ so = some (d, so') ∧
  ∀ F' H' v, RelO K F' H' ow so' → Stp ow F H F' H' → Dq K F' v d → Q v H'
/-- a new list that nobody else has -/
def tOfN (f : DL) : TE := fun σ H Q => ∃ F ow ρ so ds so', RelO K F H ow so ∧ RelS K F ow σ ρ ∧ f ρ so = some (ds, so') ∧
  ∀ F' H' a vs, RelO K F' H' ow so' → Stp ow F H F' H' → H a = none → F' a = none → H' a = some (.lst vs) → DqAll K F' vs ds → Q (.ref a) H'
def tOfA (f : DL) : TA := fun σ H Q => ∃ F ow ρ so ds so', RelO K F H ow so ∧ RelS K F ow σ ρ ∧ f ρ so = some (ds, so') ∧
  ∀ F' H' vs, RelO K F' H' ow so' → Stp ow F H F' H' → DqAll K F' vs ds → Q vs H'
def tOfB (f : DB) : TT := fun σ H Q => ∃ F ow ρ so b so', RelO K F H ow so ∧ RelS K F ow σ ρ ∧ f ρ so = some (b, so') ∧
  ∀ F' H', RelO K F' H' ow so' → Stp ow F H F' H' → Q b H'
/-- what is wanted behind a statement -/
def FlOk (D : Ends) (W : Str → Hp → Prop) (F : Hp) (ow : Ads) (H : Hp) : Fl → Prop
  | .nx ρ => ∀ σ, RelS K F ow σ ρ → D.nx σ H
  | .bk ρ => ∀ σ, RelS K F ow σ ρ → D.bk σ H
  | .ct ρ => ∀ σ, RelS K F ow σ ρ → D.ct σ H
  | .rt d => ∀ v, Dq K F v d → D.rt v H
  | .ex n => W n H
/-- the own lists' places: the first p stay, the others may be new ones -/
def OwTo (p : Nat) (ow : Ads) (H : Hp) (ow' : Ads) : Prop := ow'.length = ow.length ∧ ∀ k, ow'[k]? = ow[k]? ∨ (p ≤ k ∧ ∀ a, ow'[k]? = some (some a) → H a = none)
def tOfS (p : Nat) (W : Str → Hp → Prop) (f : DS) : TS := fun D σ H => ∃ F ow ρ so fl so', RelO K F H ow so ∧ RelS K F ow σ ρ ∧ f ρ so = some (fl, so') ∧
  ∀ F' H' ow', RelO K F' H' ow' so' → Stp ow F H F' H' → OwTo p ow H ow' → FlOk K D W F' ow' H' fl
end
theorem OwTo.refl (p : Nat) (ow : Ads) (H : Hp) : OwTo p ow H ow := ⟨rfl, fun _ => .inl rfl⟩
theorem OwTo.mem {p : Nat} {ow ow' : Ads} {H : Hp} (t : OwTo p ow H ow') {a : Addr} (h : some a ∈ ow') : some a ∈ ow ∨ H a = none := by
  obtain ⟨k, hk⟩ := List.mem_iff_getElem?.mp h
  rcases t.2 k with e | ⟨_, e⟩
  · rw [e] at hk
    exact .inl (List.mem_of_getElem? hk)
  · exact .inr (e a hk)
theorem Stp.next {p : Nat} {ow ow1 : Ads} {F H F1 H1 F2 H2 : Hp} (a : Stp ow F H F1 H1) (t : OwTo p ow H ow1) (b : Stp ow1 F1 H1 F2 H2) : Stp ow F H F2 H2 := by
  have out : ∀ c o, some c ∉ ow → H c = some o → some c ∉ ow1 := fun c o n h m => by
    rcases t.mem m with q | q
    · exact n q
    · rw [h] at q; cases q
  exact ⟨a.fz.trans b.fz, fun c o n h => b.keep c o (out c o n h) (a.keep c o n h), fun c o n h e => b.own c o (out c o n h) (a.keep c o n h) (a.own c o n h e), fun c h => b.live c (a.live c h)⟩
theorem OwTo.trans {p : Nat} {ow ow1 ow2 : Ads} {F H F1 H1 : Hp} (s : Stp ow F H F1 H1) (a : OwTo p ow H ow1) (b : OwTo p ow1 H1 ow2) : OwTo p ow H ow2 := by
  refine ⟨b.1.trans a.1, fun k => ?_⟩
  rcases b.2 k with e | ⟨hp, e⟩
  · rw [e]
    exact a.2 k
  · refine .inr ⟨hp, fun c hc => ?_⟩
    have h1 := e c hc
    cases q : H c with
    | none => rfl
    | some o => exact absurd h1 (s.live c (by rw [q]; exact nofun))
theorem _root_.L2.PE.imp {X : Cx} {e : Expr} {t t' : TE} (h : PE X e t) (i : ∀ σ H Q, t' σ H Q → t σ H Q) : PE X e t' := ⟨fun pins s σ H Q I q => h.run pins s σ H Q I (i σ H Q q)⟩
theorem _root_.L2.PT.imp {X : Cx} {e : Expr} {t t' : TT} (h : PT X e t) (i : ∀ σ H Q, t' σ H Q → t σ H Q) : PT X e t' := ⟨fun pins s σ H Q I q => h.run pins s σ H Q I (i σ H Q q)⟩
theorem _root_.L2.PW.imp {X : Cx} {e : Expr} {t t' : TT} (h : PW X e t) (i : ∀ σ H Q, t' σ H Q → t σ H Q) : PW X e t' := ⟨fun whole pins s σ H Q I q => h.run whole pins s σ H Q I (i σ H Q q)⟩
theorem _root_.L2.PA.imp {X : Cx} {e : List Expr} {t t' : TA} (h : PA X e t) (i : ∀ σ H Q, t' σ H Q → t σ H Q) : PA X e t' := ⟨fun pos pins s σ H Q I q => h.run pos pins s σ H Q I (i σ H Q q)⟩
theorem _root_.L2.PS.imp {X : Cx} {e : Stmt} {t t' : TS} (h : PS X e t) (i : ∀ D σ H, t' D σ H → t D σ H) : PS X e t' := ⟨fun pins s σ H D I q => h.run pins s σ H D I (i D σ H q)⟩
theorem _root_.L2.PSs.imp {X : Cx} {e : List Stmt} {t t' : TS} (h : PSs X e t) (i : ∀ D σ H, t' D σ H → t D σ H) : PSs X e t' := ⟨fun pins s σ H D I q => h.run pins s σ H D I (i D σ H q)⟩
theorem _root_.L2.PI.imp {X : Cx} {tg e : Expr} {t t' : TI} (h : PI X tg e t) (i : ∀ σ H R, t' σ H R → t σ H R) : PI X tg e t' := ⟨fun pins s σ H R I q => h.run pins s σ H R I (i σ H R q)⟩
abbrev PD (X : Cx) (e : Expr) (f : DE) : Prop := PE X e (tOf X.K f)
abbrev PDN (X : Cx) (e : Expr) (f : DL) : Prop := PE X e (tOfN X.K f)
abbrev PDA (X : Cx) (es : List Expr) (f : DL) : Prop := PA X es (tOfA X.K f)
abbrev PDB (X : Cx) (e : Expr) (f : DB) : Prop := PT X e (tOfB X.K f)
abbrev PDW (X : Cx) (e : Expr) (f : DB) : Prop := PW X e (tOfB X.K f)
abbrev PDS (X : Cx) (p : Nat) (W : Str → Hp → Prop) (st : Stmt) (f : DS) : Prop := PS X st (tOfS X.K p W f)
abbrev PDSs (X : Cx) (p : Nat) (W : Str → Hp → Prop) (st : List Stmt) (f : DS) : Prop := PSs X st (tOfS X.K p W f)
end MP
namespace MP
open PySem PySem.Spec PyProof.Rows L2 RL

/-! ### names, constants -/
/-- a name is read: a list of one's own is frozen by it -/
def eVar (i : Nat) : DE := fun ρ so =>
  match ρ[i]? with
  | some (some (.d x)) => some (x, so)
  | some (some (.o k)) =>
    match so[k]? with
    | some (.lst ds) => some (.list ds, so.set k (.fz (.list ds)))
    | some (.fz d) => some (d, so)
    | _ => none
  | _ => none
def eC (d : PyData) : DE := fun _ so => some (d, so)
section
variable {K : PySem.W.Frag} {F H F' H' : Hp} {ow : Ads} {so : Sto} {σ : L2.St} {ρ : Slots}
theorem RelO.at (r : RelO K F H ow so) {k : Nat} {w : Own} (h : so[k]? = some w) : ∃ a, ow[k]? = some a ∧ OwnOk K F H a w := by
  have hk : k < ow.length := by rw [r.len]; exact (List.getElem?_eq_some_iff.mp h).1
  have g : ow[k]? = some ow[k] := List.getElem?_eq_getElem hk
  exact ⟨_, g, r.own k _ w g h⟩
theorem RelO.lst (r : RelO K F H ow so) {k : Nat} {ds : List PyData} (h : so[k]? = some (.lst ds)) : ∃ a vs, ow[k]? = some (some a) ∧ F a = none ∧ H a = some (.lst vs) ∧ DqAll K F vs ds := by
  obtain ⟨a, ha, q⟩ := r.at h
  cases a with
  | none => exact q.elim
  | some a =>
    obtain ⟨f, vs, hv, hd⟩ := q
    exact ⟨a, vs, ha, f, hv, hd⟩
theorem RelO.fz (r : RelO K F H ow so) {k : Nat} {d : PyData} (h : so[k]? = some (.fz d)) : ∃ a, ow[k]? = some (some a) ∧ Dq K F (.ref a) d := by
  obtain ⟨a, ha, q⟩ := r.at h
  cases a with
  | none => exact q.elim
  | some a => exact ⟨a, ha, q.2⟩
theorem get_set {α : Type} {xs : List α} {k j : Nat} {w v : α} (h : (xs.set k w)[j]? = some v) : (j = k ∧ v = w) ∨ (j ≠ k ∧ xs[j]? = some v) := by
  by_cases e : k = j
  · subst e
    rw [List.getElem?_set] at h
    rw [if_pos rfl] at h
    split at h
    · exact .inl ⟨rfl, (Option.some.inj h).symm⟩
    · cases h
  · rw [List.getElem?_set_ne e] at h
    exact .inr ⟨Ne.symm e, h⟩
/-- an own list is frozen -/
theorem RelO.freeze (r : RelO K F H ow so) {k : Nat} {a : Addr} {vs : List V} {ds : List PyData} (hk : so[k]? = some (.lst ds)) (ha : ow[k]? = some (some a)) (f : F a = none) (hv : H a = some (.lst vs)) (hd : DqAll K F vs ds) :
    RelO K (upd F a (.lst vs)) H ow (so.set k (.fz (.list ds))) ∧ Stp ow F H (upd F a (.lst vs)) H ∧ Dq K (upd F a (.lst vs)) (.ref a) (.list ds) := by
  have s1 : Same F (upd F a (.lst vs)) := same_new f
  have dd : Dq K (upd F a (.lst vs)) (.ref a) (.list ds) := .lst upd_same (dqAll_same s1 ds vs hd)
  refine ⟨⟨fun b o hb => ?_, by rw [List.length_set]; exact r.len, fun j b w hb hw => ?_, r.inj, r.old⟩, ⟨s1, fun _ _ _ h => h, fun b o nb hb fb => ?_, fun _ h => h⟩, dd⟩
  · by_cases e : b = a
    · subst e
      rw [upd_same] at hb
      cases hb
      exact hv
    · rw [upd_ne e] at hb
      exact r.sub b o hb
  · rcases get_set hw with ⟨rfl, rfl⟩ | ⟨ne, hw⟩
    · rw [ha] at hb
      cases hb
      exact ⟨by rw [hv]; exact nofun, dd⟩
    · have q := r.own j b w hb hw
      cases w with
      | no => cases b <;> trivial
      | lst es =>
        cases b with
        | none => exact q.elim
        | some b =>
          obtain ⟨fb, us, hu, hd2⟩ := q
          refine ⟨?_, us, hu, dqAll_same s1 es us hd2⟩
          have nab : b ≠ a := fun e => ne (r.inj j k a (by rw [← e]; exact hb) ha)
          rw [upd_ne nab]
          exact fb
      | dct es =>
        cases b with
        | none => exact q.elim
        | some b =>
          obtain ⟨fb, us, hu, hd2⟩ := q
          refine ⟨?_, us, hu, dct_same s1 hd2⟩
          have nab : b ≠ a := fun e => ne (r.inj j k a (by rw [← e]; exact hb) ha)
          rw [upd_ne nab]
          exact fb
      | fz d =>
        cases b with
        | none => exact q.elim
        | some b => exact ⟨q.1, dq_same s1 d _ q.2⟩
  · have nab : b ≠ a := fun e => nb (by rw [e]; exact List.mem_of_getElem? ha)
    rw [upd_ne nab]
    exact fb
theorem tOf_var {i : Nat} (σ : L2.St) (H : Hp) (Q : VK) (h : tOf K (eVar i) σ H Q) : tVar i σ H Q := by
  obtain ⟨F, ow, ρ, so, d, so', r, rs, e, k⟩ := h
  unfold eVar at e
  split at e
  · rename_i x hx
    cases e
    obtain ⟨v, hv, q⟩ := rs.get hx
    exact ⟨v, hv, k F H v r (Stp.refl _ _ _) q⟩
  · rename_i j hx
    obtain ⟨v, hv, a, ha, rfl⟩ := rs.get hx
    refine ⟨_, hv, ?_⟩
    split at e
    · rename_i ds hj
      cases e
      obtain ⟨b, vs, hb, f, hv, hd⟩ := r.lst hj
      rw [ha] at hb
      cases hb
      obtain ⟨r1, s1, d1⟩ := r.freeze hj ha f hv hd
      exact k _ _ _ r1 s1 d1
    · rename_i d' hj
      cases e
      obtain ⟨b, hb, hd⟩ := r.fz hj
      rw [ha] at hb
      cases hb
      exact k _ _ _ r (Stp.refl _ _ _) hd
    · cases e
  · cases e
end
section
variable {X : Cx} {pos : Pos} {x : Str}
theorem pd_var {i : Nat} (hN : X.N[i]? = some x) (hv : Vis X.env.scope x) (hd : (x == ("__debug__" : Str)) = false := by decide) (hcd : (x == ("__classdict__" : Str)) = false := by decide) : PD X (.Name x pos) (eVar i) := (pe_var hN hv hd hcd).imp tOf_var
theorem tOf_c {K : PySem.W.Frag} {v : V} {d : PyData} (hd : ∀ H, Dq K H v d) (σ : L2.St) (H : Hp) (Q : VK) (h : tOf K (eC d) σ H Q) : tC v σ H Q := by
  obtain ⟨F, ow, ρ, so, d', so', r, rs, e, k⟩ := h
  cases e
  exact k F H v r (Stp.refl _ _ _) (hd F)
theorem pd_int {i : Int} {j} : PD X (.Constant (.int i) j pos) (eC (.int i)) := pe_int.imp (tOf_c fun _ => .int i)
theorem pd_bl {b : Bool} {j} : PD X (.Constant (.bool b) j pos) (eC (.bool b)) := pe_bl.imp (tOf_c fun _ => .bl b)
theorem pd_non {j} : PD X (.Constant .none j pos) (eC .none) := pe_non.imp (tOf_c fun _ => .non)
theorem pd_str {s : Str} {j} : PD X (.Constant (.str s) j pos) (eC (.str s)) := pe_str.imp (tOf_c fun _ => .str s)
theorem pd_globI {i : Int} {t : Tok} (hg : Gl X x) (hm : X.mg x = some (.int i t)) (hd : (x == ("__debug__" : Str)) = false := by decide) : PD X (.Name x pos) (eC (.int i)) := (pe_glob (v := .int i) hg hm ⟨t, rfl⟩ hd).imp (tOf_c fun _ => .int i)
end

/-! ### two in a row -/
section
variable {K : PySem.W.Frag}
/-- what an operation of values makes of data -/
def OpD (K : PySem.W.Frag) (r : R2) (g : PyData → PyData → Option PyData) : Prop := ∀ (F H : Hp) (x y : V) (dx dy d : PyData) (Q : VK), Same F H → Dq K F x dx → Dq K F y dy → g dx dy = some d →
  (∀ F' H' v, Stp [] F H F' H' → Same F' H' → Dq K F' v d → Q v H') → r x y H Q
def eOp (g : PyData → PyData → Option PyData) (a b : DE) : DE := fun ρ so => (a ρ so).bind fun p => (b ρ p.2).bind fun q => (g p.1 q.1).map fun d => (d, q.2)
theorem tOf_op {r : R2} {g : PyData → PyData → Option PyData} {a b : DE} (hr : OpD K r g) (σ : L2.St) (H : Hp) (Q : VK) (h : tOf K (eOp g a b) σ H Q) : tOp r (tOf K a) (tOf K b) σ H Q := by
  obtain ⟨F, ow, ρ, so, d, so', r0, rs, e, k⟩ := h
  unfold eOp at e
  obtain ⟨⟨x, so1⟩, e1, e⟩ := Option.bind_eq_some_iff.mp e
  obtain ⟨⟨y, so2⟩, e2, e⟩ := Option.bind_eq_some_iff.mp e
  obtain ⟨z, e3, e⟩ := Option.map_eq_some_iff.mp e
  cases e
  refine ⟨F, ow, ρ, so, x, so1, r0, rs, e1, fun F1 H1 v1 r1 s1 d1 => ⟨F1, ow, ρ, so1, y, so2, r1, rs.mono s1.fz, e2, fun F2 H2 v2 r2 s2 d2 => ?_⟩⟩
  exact hr F2 H2 v1 v2 x y _ Q r2.sub (dq_same s2.fz x v1 d1) d2 e3 fun F3 H3 v s3 e4 d3 => k F3 H3 v (r2.grow s3 e4) (s1.trans (s2.trans s3.some_of)) d3
def UnD (K : PySem.W.Frag) (r : V → Hp → VK → Prop) (g : PyData → Option PyData) : Prop := ∀ (F H : Hp) (x : V) (dx d : PyData) (Q : VK), Same F H → Dq K F x dx → g dx = some d →
  (∀ F' H' v, Stp [] F H F' H' → Same F' H' → Dq K F' v d → Q v H') → r x H Q
def eUn (g : PyData → Option PyData) (a : DE) : DE := fun ρ so => (a ρ so).bind fun p => (g p.1).map fun d => (d, p.2)
theorem tOf_un {r : V → Hp → VK → Prop} {g : PyData → Option PyData} {a : DE} (hr : UnD K r g) (σ : L2.St) (H : Hp) (Q : VK) (h : tOf K (eUn g a) σ H Q) : tUn r (tOf K a) σ H Q := by
  obtain ⟨F, ow, ρ, so, d, so', r0, rs, e, k⟩ := h
  unfold eUn at e
  obtain ⟨⟨x, so1⟩, e1, e⟩ := Option.bind_eq_some_iff.mp e
  obtain ⟨z, e3, e⟩ := Option.map_eq_some_iff.mp e
  cases e
  refine ⟨F, ow, ρ, so, x, so1, r0, rs, e1, fun F1 H1 v1 r1 s1 d1 => ?_⟩
  exact hr F1 H1 v1 x _ Q r1.sub d1 e3 fun F3 H3 v s3 e4 d3 => k F3 H3 v (r1.grow s3 e4) (s1.trans s3.some_of) d3
/-- a value in place: nothing new is made -/
theorem here {F H : Hp} {Q : VK} {v : V} {d : PyData} (k : ∀ F' H' v, Stp [] F H F' H' → Same F' H' → Dq K F' v d → Q v H') (s : Same F H) (h : Dq K F v d) : Q v H := k F H v (Stp.refl _ _ _) s h
/-- a new thing -/
theorem fresh {F H : Hp} {Q : VK} {p : Addr} {o : HO} {d : PyData} (k : ∀ F' H' v, Stp [] F H F' H' → Same F' H' → Dq K F' v d → Q v H') (s : Same F H) (n : H p = none) (h : Dq K (upd F p o) (.ref p) d) : Q (.ref p) (upd H p o) :=
  k _ _ _ (Stp.new n s) (same_upd s) h
theorem new_tup {F : Hp} {p : Addr} {ob : Obj} {vs : List V} {ds : List PyData} (n : F p = none) (pl : PlainT ob) (h : DqAll K F vs ds) : Dq K (upd F p (.frz ob (.tup vs))) (.ref p) (.tuple ds) := .tup ⟨ob, upd_same, pl⟩ (dqAll_same (same_new n) ds vs h)
theorem new_lst {F : Hp} {p : Addr} {vs : List V} {ds : List PyData} (n : F p = none) (h : DqAll K F vs ds) : Dq K (upd F p (.lst vs)) (.ref p) (.list ds) := .lst upd_same (dqAll_same (same_new n) ds vs h)
end

/-! ### argument lists, displays -/
def aNil : DL := fun _ so => some ([], so)
def aCons (f : DE) (g : DL) : DL := fun ρ so => (f ρ so).bind fun p => (g ρ p.2).bind fun q => some (p.1 :: q.1, q.2)
/-- the items of a list or a tuple -/
def seqOf : PyData → Option (List PyData)
  | .list ds => some ds
  | .tuple ds => some ds
  | _ => none
def aStar (f : DE) (g : DL) : DL := fun ρ so => (f ρ so).bind fun p => (seqOf p.1).bind fun xs => (g ρ p.2).bind fun q => some (xs ++ q.1, q.2)
/-- no list or tuple is longer -/
abbrev LIM : Nat := 5000
theorem lim_le {n : Nat} (h : n ≤ LIM) : n ≤ sizeLine := Nat.le_trans h (by decide)
theorem lim_lt {n : Nat} (h : n ≤ LIM) : n < sizeLine := Nat.lt_of_le_of_lt h (by decide)
def eTup (f : DL) : DE := fun ρ so => (f ρ so).bind fun p => if p.1.length ≤ LIM then some (.tuple p.1, p.2) else none
def nLst (f : DL) : DL := fun ρ so => (f ρ so).bind fun p => if p.1.length ≤ LIM then some (p.1, p.2) else none
/-- a new list, frozen at once -/
def eOfN (f : DL) : DE := fun ρ so => (f ρ so).map fun p => (.list p.1, p.2)
section
variable {K : PySem.W.Frag}
theorem tOf_nil (σ : L2.St) (H : Hp) (Q : List V → Hp → Prop) (h : tOfA K aNil σ H Q) : tNil σ H Q := by
  obtain ⟨F, ow, ρ, so, d, so', r0, rs, e, k⟩ := h
  cases e
  exact k F H [] r0 (Stp.refl _ _ _) .nil
theorem tOf_cons {f : DE} {g : DL} (σ : L2.St) (H : Hp) (Q : List V → Hp → Prop) (h : tOfA K (aCons f g) σ H Q) : tCons (tOf K f) (tOfA K g) σ H Q := by
  obtain ⟨F, ow, ρ, so, d, so', r0, rs, e, k⟩ := h
  unfold aCons at e
  obtain ⟨⟨x, so1⟩, e1, e⟩ := Option.bind_eq_some_iff.mp e
  obtain ⟨⟨xs, so2⟩, e2, e⟩ := Option.bind_eq_some_iff.mp e
  cases e
  refine ⟨F, ow, ρ, so, x, so1, r0, rs, e1, fun F1 H1 v1 r1 s1 d1 => ⟨F1, ow, ρ, so1, xs, so2, r1, rs.mono s1.fz, e2, fun F2 H2 vs r2 s2 d2 => ?_⟩⟩
  exact k F2 H2 _ r2 (s1.trans s2) (.cons (dq_same s2.fz x v1 d1) d2)
theorem DqAll.len {F : Hp} {vs : List V} {ds : List PyData} (h : DqAll K F vs ds) : vs.length = ds.length := DqAll.length h
theorem dq_seq {F : Hp} {v : V} {d : PyData} {ds : List PyData} (h : Dq K F v d) (e : seqOf d = some ds) : ∃ p xs, v = .ref p ∧ ((F p = some (.lst xs) ∧ d = .list ds) ∨ (TupAt F p xs ∧ d = .tuple ds)) ∧ DqAll K F xs ds := by
  cases d with
  | list es => cases e; cases h with | lst hs ha => exact ⟨_, _, rfl, .inl ⟨hs, rfl⟩, ha⟩
  | tuple es => cases e; cases h with | tup hs ha => exact ⟨_, _, rfl, .inr ⟨hs, rfl⟩, ha⟩
  | _ => cases e
theorem tOf_star {f : DE} {g : DL} (σ : L2.St) (H : Hp) (Q : List V → Hp → Prop) (h : tOfA K (aStar f g) σ H Q) : StX.tStar K (tOf K f) (tOfA K g) σ H Q := by
  obtain ⟨F, ow, ρ, so, d, so', r0, rs, e, k⟩ := h
  unfold aStar at e
  obtain ⟨⟨x, so1⟩, e1, e⟩ := Option.bind_eq_some_iff.mp e
  obtain ⟨zs, ez, e⟩ := Option.bind_eq_some_iff.mp e
  obtain ⟨⟨xs, so2⟩, e2, e⟩ := Option.bind_eq_some_iff.mp e
  cases e
  refine ⟨F, ow, ρ, so, x, so1, r0, rs, e1, fun F1 H1 v1 r1 s1 d1 => ?_⟩
  obtain ⟨p, ys, rfl, hs, ha⟩ := dq_seq d1 ez
  refine ⟨p, ys, rfl, ?_, F1, ow, ρ, so1, xs, so2, r1, rs.mono s1.fz, e2, fun F2 H2 vs r2 s2 d2 => ?_⟩
  · rcases hs with ⟨hs, _⟩ | ⟨hs, _⟩
    · exact .inr (SqL.of (r1.sub _ _ hs))
    · exact .inl (hs.sq r1.sub)
  · exact k F2 H2 _ r2 (s1.trans s2) (DqAll.app (dqAll_same s2.fz _ _ ha) d2)
theorem tOf_tup {f : DL} (σ : L2.St) (H : Hp) (Q : VK) (h : tOf K (eTup f) σ H Q) : tTupP (tOfA K f) σ H Q := by
  obtain ⟨F, ow, ρ, so, d, so', r0, rs, e, k⟩ := h
  unfold eTup at e
  obtain ⟨⟨x, so1⟩, e1, e⟩ := Option.bind_eq_some_iff.mp e
  split at e
  · rename_i hl
    cases e
    refine ⟨F, ow, ρ, so, x, so1, r0, rs, e1, fun F1 H1 vs r1 s1 d1 => ⟨by rw [d1.len]; exact lim_le hl, fun p ob np pl => ?_⟩⟩
    exact k _ _ _ (r1.grow (Stp.new np r1.sub) (same_upd r1.sub)) (s1.trans (Stp.new np r1.sub).some_of) (new_tup (r1.sub.free np) pl d1)
  · cases e
/-- a new list: it may stay one's own -/
theorem keepN {F H F1 H1 : Hp} {ow : Ads} {so1 : Sto} {vs : List V} {ds : List PyData} {p : Addr} {Q : VK} (k : ∀ F' H' a vs, RelO K F' H' ow so1 → Stp ow F H F' H' → H a = none → F' a = none → H' a = some (.lst vs) → DqAll K F' vs ds → Q (.ref a) H')
    (r1 : RelO K F1 H1 ow so1) (s1 : Stp ow F H F1 H1) (d1 : DqAll K F1 vs ds) (np : H1 p = none) : Q (.ref p) (upd H1 p (.lst vs)) := by
  have n0 : H p = none := by
    cases q : H p with
    | none => rfl
    | some o => exact absurd np (s1.live p (by rw [q]; exact nofun))
  have sg : Stp [] F1 H1 F1 (upd H1 p (.lst vs)) := ⟨Same.refl _, fun a o _ h => same_new np a o h, fun _ _ _ _ h => h, fun a h => live_upd h⟩
  exact k F1 _ p vs (r1.grow sg (r1.sub.trans (same_new np))) (s1.trans sg.some_of) n0 (r1.sub.free np) upd_same d1
theorem tOf_lst {f : DL} (σ : L2.St) (H : Hp) (Q : VK) (h : tOfN K (nLst f) σ H Q) : tLst (tOfA K f) σ H Q := by
  obtain ⟨F, ow, ρ, so, d, so', r0, rs, e, k⟩ := h
  unfold nLst at e
  obtain ⟨⟨x, so1⟩, e1, e⟩ := Option.bind_eq_some_iff.mp e
  split at e
  · rename_i hl
    cases e
    exact ⟨F, ow, ρ, so, x, so1, r0, rs, e1, fun F1 H1 vs r1 s1 d1 => ⟨by rw [d1.len]; exact lim_le hl, fun p np => keepN k r1 s1 d1 np⟩⟩
  · cases e
theorem tOf_ofN {f : DL} (σ : L2.St) (H : Hp) (Q : VK) (h : tOf K (eOfN f) σ H Q) : tOfN K f σ H Q := by
  obtain ⟨F, ow, ρ, so, d, so', r0, rs, e, k⟩ := h
  unfold eOfN at e
  obtain ⟨⟨x, so1⟩, e1, e⟩ := Option.map_eq_some_iff.mp e
  cases e
  refine ⟨F, ow, ρ, so, x, so1, r0, rs, e1, fun F1 H1 a vs r1 s1 n0 f1 h1 d1 => ?_⟩
  have s2 : Same F1 (upd F1 a (.lst vs)) := same_new f1
  refine k (upd F1 a (.lst vs)) H1 (.ref a) ?_ ?_ (new_lst f1 d1)
  · refine ⟨fun b o hb => ?_, r1.len, fun j b w hb hw => ?_, r1.inj, r1.old⟩
    · by_cases e : b = a
      · subst e
        rw [upd_same] at hb
        cases hb
        exact h1
      · rw [upd_ne e] at hb
        exact r1.sub b o hb
    · have q := r1.own j b w hb hw
      cases w with
      | no => cases b <;> trivial
      | lst es =>
        cases b with
        | none => exact q.elim
        | some b =>
          obtain ⟨fb, us, hu, hd2⟩ := q
          have nab : b ≠ a := fun e => (r0.old j a (by rw [← e]; exact hb)) n0
          exact ⟨by rw [upd_ne nab]; exact fb, us, hu, dqAll_same s2 es us hd2⟩
      | dct es =>
        cases b with
        | none => exact q.elim
        | some b =>
          obtain ⟨fb, us, hu, hd2⟩ := q
          have nab : b ≠ a := fun e => (r0.old j a (by rw [← e]; exact hb)) n0
          exact ⟨by rw [upd_ne nab]; exact fb, us, hu, dct_same s2 hd2⟩
      | fz d =>
        cases b with
        | none => exact q.elim
        | some b => exact ⟨q.1, dq_same s2 d _ q.2⟩
  · refine ⟨s1.fz.trans s2, s1.keep, fun b o nb hb fb => ?_, s1.live⟩
    have nab : b ≠ a := ne_of_none hb n0
    rw [upd_ne nab]
    exact s1.own b o nb hb fb
end
section
variable {X : Cx} {e : Expr} {es : List Expr} {f : DE} {g : DL} {pos : Pos}
theorem pda_nil : PDA X [] aNil := pa_nil.imp tOf_nil
theorem pda_cons (ha : PD X e f) (hr : PDA X es g) (hs : starEach (e :: es) X.env = (false, eval e X.env) :: starEach es X.env := by rfl) : PDA X (e :: es) (aCons f g) := (pa_cons ha hr hs).imp tOf_cons
theorem pda_star {p : Pos} (ha : PD X e f) (hr : PDA X es g) (hs : starEach (.Starred e p :: es) X.env = (true, eval e X.env) :: starEach es X.env := by rfl) : PDA X (.Starred e p :: es) (aStar f g) := (StX.pa_star ha hr hs).imp tOf_star
theorem pd_tup {x1} (h : PDA X es g) : PD X (.Tuple es x1 pos) (eTup g) := (pe_tupP h).imp tOf_tup
theorem pdn_lst (h : PDA X es g) : PDN X (.List es pos) (nLst g) := (pe_lst h).imp tOf_lst
theorem pd_ofN (h : PDN X e g) : PD X e (eOfN g) := PE.imp h tOf_ofN
theorem pd_op {a b : Expr} {fa fb : DE} {op : Operator} {r : R2} {gg : PyData → PyData → Option PyData} (ho : OpR X (binaryOp op) r) (hd : OpD X.K r gg) (ha : PD X a fa) (hb : PD X b fb) : PD X (.BinOp a op b pos) (eOp gg fa fb) := (pe_op ho ha hb).imp (tOf_op hd)
theorem pd_cmp {a b : Expr} {fa fb : DE} {op : CmpOp} {r : R2} {gg : PyData → PyData → Option PyData} (ho : OpR X (compareOp op) r) (hd : OpD X.K r gg) (ha : PD X a fa) (hb : PD X b fb) (hm : behindInMarks op b = false) : PD X (.Compare a [op] [b] pos) (eOp gg fa fb) := (pe_cmpR ho ha hb hm).imp (tOf_op hd)
theorem pd_un {a : Expr} {fa : DE} {op : UnaryOp} {r : V → Hp → VK → Prop} {gg : PyData → Option PyData} (ho : UnR X (unaryOp op) r) (hd : UnD X.K r gg) (ha : PD X a fa) : PD X (.UnaryOp op a pos) (eUn gg fa) := (pe_un ho ha).imp (tOf_un hd)
end
end MP
namespace MP
open PySem PySem.Spec PyProof.Rows L2 RL

theorem if_some {c : Prop} [Decidable c] {α : Type} {x d : α} (e : (if c then some x else none) = some d) : c ∧ x = d := by
  by_cases h : c
  · rw [if_pos h] at e
    exact ⟨h, Option.some.inj e⟩
  · rw [if_neg h] at e
    cases e
/-! ### values that are no things of the heap -/
def scV : PyData → Option V
  | .none => some .non
  | .bool b => some (.bl b)
  | .int i => some (.int i)
  | .str x => some (.str x)
  | _ => none
section
variable {K : PySem.W.Frag} {F : Hp}
theorem scV_dq {d : PyData} {v : V} (h : scV d = some v) : Dq K F v d := by
  cases d with
  | none => cases h; exact .non
  | bool b => cases h; exact .bl b
  | int i => cases h; exact .int i
  | str x => cases h; exact .str x
  | _ => cases h
theorem dq_int {v : V} {i : Int} (h : Dq K F v (.int i)) : v = .int i := by cases h; rfl
theorem dq_bl {v : V} {b : Bool} (h : Dq K F v (.bool b)) : v = .bl b := by cases h; rfl
theorem dq_str {v : V} {x : Str} (h : Dq K F v (.str x)) : v = .str x := by cases h; rfl
theorem dq_lst {v : V} {ds : List PyData} (h : Dq K F v (.list ds)) : ∃ a xs, v = .ref a ∧ F a = some (.lst xs) ∧ DqAll K F xs ds := by cases h with | lst h1 h2 => exact ⟨_, _, rfl, h1, h2⟩
theorem dq_tup {v : V} {ds : List PyData} (h : Dq K F v (.tuple ds)) : ∃ a xs, v = .ref a ∧ TupAt F a xs ∧ DqAll K F xs ds := by cases h with | tup h1 h2 => exact ⟨_, _, rfl, h1, h2⟩
theorem dqInts : ∀ {ns : List Int} {vs : List V}, DqAll K F vs (ns.map .int) → vs = ns.map V.int
  | [], _, h => by cases h; rfl
  | n :: ns, _, h => by
    cases h with
    | cons h1 h2 =>
      cases h1
      rw [dqInts h2]
      rfl
end
/-- all of them ints -/
def intsOf : List PyData → Option (List Int)
  | [] => some []
  | .int i :: r => (intsOf r).map (i :: ·)
  | _ :: _ => none
theorem intsOf_map : ∀ ns : List Int, intsOf (ns.map .int) = some ns
  | [] => rfl
  | n :: r => by show (intsOf (r.map .int)).map (n :: ·) = _; rw [intsOf_map r]; rfl
theorem intsOf_eq : ∀ {ds : List PyData} {ns : List Int}, intsOf ds = some ns → ds = ns.map .int
  | [], _, h => by cases h; rfl
  | .int i :: r, _, h => by
    obtain ⟨ms, h1, h2⟩ := Option.map_eq_some_iff.mp (show (intsOf r).map (i :: ·) = _ from h)
    subst h2
    rw [intsOf_eq h1]
    rfl
  | .none :: _, _, h => by cases h
  | .bool _ :: _, _, h => by cases h
  | .str _ :: _, _, h => by cases h
  | .list _ :: _, _, h => by cases h
  | .tuple _ :: _, _, h => by cases h
  | .dict _ :: _, _, h => by cases h

/-! ### numbers -/
def dI (f : Int → Int → PyData) : PyData → PyData → Option PyData
  | .int a, .int b => some (f a b)
  | _, _ => none
def dIc (C : Int → Int → Bool) (f : Int → Int → PyData) : PyData → PyData → Option PyData
  | .int a, .int b => if C a b then some (f a b) else none
  | _, _ => none
section
variable {K : PySem.W.Frag}
theorem opd_I0 {g : Int → Int → V} {f : Int → Int → PyData} (hf : ∀ a b F, Dq K F (g a b) (f a b)) : OpD K (rI0 g) (dI f) := by
  intro F H x y dx dy d Q s hx hy e k
  cases dx with
  | int a =>
    cases dy with
    | int b =>
      cases hx
      cases hy
      cases e
      exact ⟨a, b, rfl, rfl, here k s (hf a b F)⟩
    | _ => cases e
  | _ => cases e
theorem opd_I {C : Int → Int → Prop} {g : Int → Int → V} {c : Int → Int → Bool} {f : Int → Int → PyData} (hc : ∀ a b, c a b = true → C a b) (hf : ∀ a b F, Dq K F (g a b) (f a b)) : OpD K (rI C g) (dIc c f) := by
  intro F H x y dx dy d Q s hx hy e k
  cases dx with
  | int a =>
    cases dy with
    | int b =>
      cases hx
      cases hy
      obtain ⟨hc', rfl⟩ := if_some (show (if c a b then some (f a b) else none) = some d from e)
      exact ⟨a, b, rfl, rfl, hc a b hc', here k s (hf a b F)⟩
    | _ => cases e
  | _ => cases e
end
def dSub := dI fun a b => .int (a - b)
def dMod := dIc (fun _ b => decide (0 < b)) fun a b => .int (a % b)
def dDiv := dIc (fun _ b => decide (0 < b) && decide (b < 1073741824)) fun a b => .int (a / b)
def dPow := dIc (fun a b => decide (0 ≤ b) && decide (b ≤ 1000000) && decide (a.natAbs < 2 ^ 64)) fun a b => .int (a ^ b.toNat)
def dShl := dIc (fun a b => decide (0 ≤ b) && decide (b ≤ 1000000) && decide (a.natAbs < 2 ^ 64)) fun a b => .int (a * 2 ^ b.toNat)
def dBor := dI fun a b => .int (Builtin.bitOr a b)
def dLt := dI fun a b => .bool (decide (a < b))
def dLe := dI fun a b => .bool (decide (a ≤ b))
def dGt := dI fun a b => .bool (decide (b < a))
def dGe := dI fun a b => .bool (decide (b ≤ a))
section
variable {X : Cx}
theorem od_sub : OpD X.K (rI0 fun i j => .int (i - j)) dSub := opd_I0 fun _ _ _ => .int _
theorem od_mod : OpD X.K (rI (fun _ j => 0 < j) fun i j => .int (i % j)) dMod := opd_I (fun _ _ h => of_decide_eq_true h) fun _ _ _ => .int _
theorem od_div : OpD X.K (rI CDiv fun i j => .int (i / j)) dDiv := opd_I (fun _ _ h => by simpa [CDiv] using h) fun _ _ _ => .int _
theorem od_pow : OpD X.K (rI CPow fun i j => .int (i ^ j.toNat)) dPow := opd_I (fun _ _ h => by simp only [Bool.and_eq_true, decide_eq_true_eq] at h; exact ⟨h.1.1, h.1.2, h.2⟩) fun _ _ _ => .int _
theorem od_shl : OpD X.K (rI CPow fun i j => .int (i * 2 ^ j.toNat)) dShl := opd_I (fun _ _ h => by simp only [Bool.and_eq_true, decide_eq_true_eq] at h; exact ⟨h.1.1, h.1.2, h.2⟩) fun _ _ _ => .int _
theorem od_bor : OpD X.K (rI0 fun i j => .int (Builtin.bitOr i j)) dBor := opd_I0 fun _ _ _ => .int _
theorem od_lt : OpD X.K (rI0 fun i j => .bl (decide (i < j))) dLt := opd_I0 fun _ _ _ => .bl _
theorem od_le : OpD X.K (rI0 fun i j => .bl (decide (i ≤ j))) dLe := opd_I0 fun _ _ _ => .bl _
theorem od_gt : OpD X.K (rI0 fun i j => .bl (decide (j < i))) dGt := opd_I0 fun _ _ _ => .bl _
theorem od_ge : OpD X.K (rI0 fun i j => .bl (decide (j ≤ i))) dGe := opd_I0 fun _ _ _ => .bl _
end

/-! ### plus: numbers, tuples, lists, texts -/
def dAdd : PyData → PyData → Option PyData
  | .int a, .int b => some (.int (a + b))
  | .tuple xs, .tuple ys => if xs.length + ys.length ≤ LIM then some (.tuple (xs ++ ys)) else none
  | .list xs, .list ys => if xs.length + ys.length ≤ LIM then some (.list (xs ++ ys)) else none
  | .str x, .str y => if x.length + y.length ≤ 1000000 then some (.str (x ++ y)) else none
  | _, _ => none
def rAddU (K : PySem.W.Frag) : R2 := fun x y H Q => rI0 (fun i j => .int (i + j)) x y H Q ∨ rCatP K x y H Q ∨ rCat x y H Q ∨ (∃ i j, x = .str i ∧ y = .str j ∧ i.length + j.length ≤ sizeLine ∧ Q (.str (i ++ j)) H)
theorem op_addU {X : Cx} : OpR X (binaryOp .Add) (rAddU X.K) := by
  intro pins s σ H x y v u Q I rx ry h
  rcases h with h | h | h | h
  · exact op_add pins s σ H x y v u Q I rx ry h
  · exact op_catP pins s σ H x y v u Q I rx ry h
  · exact op_cat pins s σ H x y v u Q I rx ry h
  · exact op_add_str pins s σ H x y v u Q I rx ry h
theorem od_add {X : Cx} : OpD X.K (rAddU X.K) dAdd := by
  intro F H x y dx dy d Q s hx hy e k
  unfold dAdd at e
  split at e
  · cases hx
    cases hy
    cases e
    exact .inl ⟨_, _, rfl, rfl, here k s (.int _)⟩
  · split at e
    · rename_i xs ys hl
      cases e
      obtain ⟨a, us, rfl, ha, hus⟩ := dq_tup hx
      obtain ⟨b, ws, rfl, hb, hws⟩ := dq_tup hy
      have l1 := hus.len
      have l2 := hws.len
      refine .inr (.inl ⟨a, b, us, ws, rfl, rfl, ha.sq s, hb.sq s, by rw [l1, l2]; exact lim_le hl, fun e => ?_, fun _ e => ?_, fun _ _ p ob np pl => ?_⟩)
      · subst e
        cases hus
        exact here k s (.tup hb hws)
      · subst e
        cases hws
        rw [List.append_nil] at k
        exact here k s (.tup ha hus)
      · exact fresh k s np (new_tup (s.free np) pl (hus.app hws))
    · cases e
  · split at e
    · rename_i xs ys hl
      cases e
      obtain ⟨a, us, rfl, ha, hus⟩ := dq_lst hx
      obtain ⟨b, ws, rfl, hb, hws⟩ := dq_lst hy
      have l1 := hus.len
      have l2 := hws.len
      exact .inr (.inr (.inl ⟨a, b, us, ws, rfl, rfl, s _ _ ha, s _ _ hb, by rw [l1, l2]; exact lim_le hl, fun p np => fresh k s np (new_lst (s.free np) (hus.app hws))⟩))
    · cases e
  · split at e
    · rename_i hl
      cases hx
      cases hy
      cases e
      exact .inr (.inr (.inr ⟨_, _, rfl, rfl, Nat.le_trans hl (by decide), here k s (.str _)⟩))
    · cases e
  · cases e

/-! ### times: numbers, a tuple of one, a list -/
def dMul : PyData → PyData → Option PyData
  | .int a, .int b => if a.natAbs < 2 ^ 64 ∨ b.natAbs < 2 ^ 64 then some (.int (a * b)) else none
  | .tuple [z], .int k => if 1 ≤ k ∧ k ≤ 1000 then some (.tuple (List.replicate k.toNat z)) else none
  | .list xs, .int k => if 0 ≤ k ∧ k ≤ 1000 ∧ xs.length * k.toNat ≤ LIM then some (.list (List.replicate k.toNat xs).flatten) else none
  | _, _ => none
/-- (z,) * k: at 1 it is the tuple itself -/
def rRepE (K : PySem.W.Frag) : R2 := fun x y H Q => ∃ (l : Addr) (z : V) (k : Nat), x = .ref l ∧ y = vN k ∧ SqT K H l [z] ∧ 1 ≤ k ∧ k ≤ 1000 ∧ (k = 1 → Q (.ref l) H) ∧ NewT H (List.replicate k z) Q
theorem op_repE {X : Cx} : OpR X (binaryOp .Mult) (rRepE X.K) := by
  intro pins s σ H x y v u Q I rx ry h
  obtain ⟨l, z, k, rfl, rfl, hT, h1, h2, q1, q⟩ := h
  by_cases e : k = 1
  · subst e
    cases rx
    obtain ⟨t, rfl⟩ := ry
    obtain ⟨its, r, ⟨⟨cls, dd, data, sl⟩, ho, hc, n, hd⟩, hs⟩ := I.tuple hT
    simp only at hc hd
    subst hc hd
    refine wpAny_binaryOp_repeat_ref (T := "tuple") (U := "int") (by decide) ⟨_, ho, rfl⟩ (fun s' => typeIs_int s' _ t) noFill_tuple_mul F.fills_int_mul F.slot_int_rmul repeat_tuple F.slot_int_index.lookup
      (call_meets F.slot_int_rmul (typeIs_int s _ t) F.entry_int_rmul (F.args_int_rmul_2 _ _) (int_rmul_tuple _ t l its.toArray n dd sl)
        ⟨ho, rfl, ⟨_, ho, rfl⟩, call_meets F.slot_tuple_mul ⟨_, ho, rfl⟩ F.entry_tuple_mul (F.args_tuple_mul_2 _ _) (tuple_mul1 l its.toArray n dd sl t) ⟨ho, ?_⟩⟩)
    exact ⟨.ref l, H, I, rfl, q1 rfl⟩
  · refine op_repP pins s σ H _ _ v u Q I rx ry ⟨l, (k : Int), [z], rfl, rfl, hT, by simp, by omega, by omega, by simp, fun p ob np pl => ?_⟩
    have : ∀ m : Nat, (List.replicate m [z]).flatten = List.replicate m z := by
      intro m
      induction m with
      | zero => rfl
      | succ m ih => rw [List.replicate_succ, List.flatten_cons, ih]; rfl
    rw [this]
    have e2 : ((k : Nat) : Int).toNat = k := by omega
    rw [e2]
    exact q p ob np pl
def rMulU (K : PySem.W.Frag) : R2 := fun x y H Q => rI CMul (fun i j => .int (i * j)) x y H Q ∨ rRepE K x y H Q ∨ rRep x y H Q
theorem op_mulU {X : Cx} : OpR X (binaryOp .Mult) (rMulU X.K) := by
  intro pins s σ H x y v u Q I rx ry h
  rcases h with h | h | h
  · exact op_mul pins s σ H x y v u Q I rx ry h
  · exact op_repE pins s σ H x y v u Q I rx ry h
  · exact op_rep pins s σ H x y v u Q I rx ry h
theorem dqRep {K : PySem.W.Frag} {F : Hp} {z : V} {d : PyData} (h : Dq K F z d) : ∀ k, DqAll K F (List.replicate k z) (List.replicate k d)
  | 0 => .nil
  | k + 1 => .cons h (dqRep h k)
theorem dqFlat {K : PySem.W.Frag} {F : Hp} {zs : List V} {ds : List PyData} (h : DqAll K F zs ds) : ∀ k, DqAll K F (List.replicate k zs).flatten (List.replicate k ds).flatten
  | 0 => .nil
  | k + 1 => by rw [List.replicate_succ, List.replicate_succ, List.flatten_cons, List.flatten_cons]; exact h.app (dqFlat h k)
theorem od_mul {X : Cx} : OpD X.K (rMulU X.K) dMul := by
  intro F H x y dx dy d Q s hx hy e k
  unfold dMul at e
  split at e
  · obtain ⟨hc, rfl⟩ := if_some e
    cases hx
    cases hy
    refine .inl ⟨_, _, rfl, rfl, ?_, here k s (.int _)⟩
    rcases hc with h | h
    · exact .inl (by omega)
    · exact .inr (by omega)
  · rename_i z n
    obtain ⟨hc, rfl⟩ := if_some e
    obtain ⟨a, us, rfl, ha, hus⟩ := dq_tup hx
    cases hy
    cases hus with
    | cons h1 h2 =>
      cases h2
      rename_i v
      have en : V.int n = vN n.toNat := by show V.int n = V.int ((n.toNat : Nat) : Int); rw [Int.toNat_of_nonneg (by omega)]
      refine .inr (.inl ⟨a, v, n.toNat, rfl, en, ha.sq s, by omega, by omega, fun e1 => ?_, fun p ob np pl => ?_⟩)
      · rw [e1] at k
        exact here k s (.tup ha (.cons h1 .nil))
      · exact fresh k s np (new_tup (s.free np) pl (dqRep h1 _))
  · rename_i xs n
    obtain ⟨hc, rfl⟩ := if_some e
    obtain ⟨a, us, rfl, ha, hus⟩ := dq_lst hx
    cases hy
    have l1 := hus.len
    exact .inr (.inr ⟨a, n, us, rfl, rfl, s _ _ ha, by omega, by omega, by rw [l1]; exact lim_le hc.2.2, fun p np => fresh k s np (new_lst (s.free np) (dqFlat hus _))⟩)
  · cases e

/-! ### is, is not: none, a bool -/
def same1 : PyData → PyData → Bool
  | .none, .none => true
  | .bool a, .bool b => a == b
  | _, _ => false
def isPlainB : PyData → Bool
  | .none => true
  | .bool _ => true
  | _ => false
def dIs (a b : PyData) : Option PyData := if isPlainB b then some (.bool (same1 a b)) else none
def dIsNot (a b : PyData) : Option PyData := if isPlainB b then some (.bool (!same1 a b)) else none
def rIsU (K : PySem.W.Frag) (neg : Bool) : R2 := fun x y H Q => ∃ dx dy, Dp K H x dx ∧ Dp K H y dy ∧ isPlainB dy = true ∧ Q (.bl (if neg then !same1 dx dy else same1 dx dy)) H
theorem is_bool_gen {M : Model} {A : Around} {E : Value → Shared → Prop} {s : Shared} {Q : Value → Shared → Prop} {v : Value} {b : Bool} (hv : ∀ i, v ≠ .builtin i) (h : Q (.bool (v == .bool b)) s) : wpAny M A (compareOp .Is v (.bool b)) Q E s := by
  cases v <;> first | exact wpAny_pure h | exact absurd rfl (hv _)
theorem isnot_bool_gen {M : Model} {A : Around} {E : Value → Shared → Prop} {s : Shared} {Q : Value → Shared → Prop} {v : Value} {b : Bool} (hv : ∀ i, v ≠ .builtin i) (h : Q (.bool (!(v == .bool b))) s) : wpAny M A (compareOp .IsNot v (.bool b)) Q E s := by
  cases v <;> first | exact wpAny_pure h | exact absurd rfl (hv _)
theorem no_blt {K : PySem.W.Frag} {H : Hp} {x : V} {v : Value} {d : PyData} (rx : RelV x v) (hx : Dp K H x d) : ∀ i, v ≠ .builtin i := by
  intro i z
  subst z
  cases hx <;> first
    | (obtain ⟨t, e⟩ := rx; cases e; done)
    | (cases rx; done)
theorem same1_eq {K : PySem.W.Frag} {H : Hp} {x y : V} {v u : Value} {dx dy : PyData} (rx : RelV x v) (ry : RelV y u) (hx : Dp K H x dx) (hy : Dp K H y dy) (hp : isPlainB dy = true) : (v == u) = same1 dx dy := by
  cases hy <;> try (cases hp)
  · cases ry
    cases hx <;> first
      | (cases rx; rfl)
      | (obtain ⟨t, rfl⟩ := rx; rfl)
  · cases ry
    cases hx <;> first
      | (cases rx; rename_i a b; cases a <;> cases b <;> decide)
      | (cases rx; rfl)
      | (obtain ⟨t, rfl⟩ := rx; rfl)
theorem op_isU {X : Cx} : OpR X (compareOp .Is) (rIsU X.K false) := by
  intro pins s σ H x y v u Q I rx ry h
  obtain ⟨dx, dy, hx, hy, hp, q⟩ := h
  have e := same1_eq rx ry hx hy hp
  have fin : EP X pins σ Q (.bool (v == u)) s := ⟨.bl _, H, I, by rw [e]; rfl, q⟩
  cases hy <;> try (cases hp)
  · cases ry
    exact is_none_gen fin
  · cases ry
    exact is_bool_gen (no_blt rx hx) fin
theorem op_isNotU {X : Cx} : OpR X (compareOp .IsNot) (rIsU X.K true) := by
  intro pins s σ H x y v u Q I rx ry h
  obtain ⟨dx, dy, hx, hy, hp, q⟩ := h
  have e := same1_eq rx ry hx hy hp
  have fin : EP X pins σ Q (.bool (!(v == u))) s := ⟨.bl _, H, I, by rw [e]; rfl, q⟩
  cases hy <;> try (cases hp)
  · cases ry
    exact isnot_none_gen fin
  · cases ry
    exact isnot_bool_gen (no_blt rx hx) fin
theorem od_is {X : Cx} : OpD X.K (rIsU X.K false) dIs := by
  intro F H x y dx dy d Q s hx hy e k
  obtain ⟨hc, rfl⟩ := if_some e
  exact ⟨dx, dy, dq_dp _ _ (dq_same s _ _ hx), dq_dp _ _ (dq_same s _ _ hy), hc, here k s (.bl _)⟩
theorem od_isNot {X : Cx} : OpD X.K (rIsU X.K true) dIsNot := by
  intro F H x y dx dy d Q s hx hy e k
  obtain ⟨hc, rfl⟩ := if_some e
  exact ⟨dx, dy, dq_dp _ _ (dq_same s _ _ hx), dq_dp _ _ (dq_same s _ _ hy), hc, here k s (.bl _)⟩

/-! ### equal, unequal; in, not in -/
def dEq (a b : PyData) : Option PyData := if a.plain && b.plain && decide (min a.depth b.depth ≤ 60) then some (.bool (PyData.eqv a b)) else none
def dNe (a b : PyData) : Option PyData := if a.plain && b.plain && decide (min a.depth b.depth ≤ 60) then some (.bool (!PyData.eqv a b)) else none
def rEqU (K : PySem.W.Frag) (neg : Bool) : R2 := fun x y H Q => ∃ dx dy, Dp K H x dx ∧ Dp K H y dy ∧ dx.plain = true ∧ dy.plain = true ∧ min dx.depth dy.depth ≤ 60 ∧ Q (.bl (if neg then !PyData.eqv dx dy else PyData.eqv dx dy)) H
theorem op_eqU {X : Cx} (hu : X.A.units + 64 < cLine) : OpR X (compareOp .Eq) (rEqU X.K false) := by
  intro pins s σ H x y v u Q I rx ry h
  obtain ⟨dx, dy, hx, hy, px, py, hd, q⟩ := h
  obtain ⟨as, r1⟩ := Dp.reads I dx x v hx rx
  obtain ⟨bs, r2⟩ := Dp.reads I dy y u hy ry
  exact PySem.SeqAt.eq_plain r1 r2 px py (by omega) ⟨.bl _, H, I, rfl, q⟩
theorem op_neU {X : Cx} (hu : X.A.units + 64 < cLine) : OpR X (compareOp .NotEq) (rEqU X.K true) := by
  intro pins s σ H x y v u Q I rx ry h
  obtain ⟨dx, dy, hx, hy, px, py, hd, q⟩ := h
  obtain ⟨as, r1⟩ := Dp.reads I dx x v hx rx
  obtain ⟨bs, r2⟩ := Dp.reads I dy y u hy ry
  exact PySem.SeqAt.ne_plain r1 r2 px py (by omega) ⟨.bl _, H, I, rfl, q⟩
theorem od_eq {X : Cx} : OpD X.K (rEqU X.K false) dEq := by
  intro F H x y dx dy d Q s hx hy e k
  obtain ⟨hc, rfl⟩ := if_some e
  simp only [Bool.and_eq_true, decide_eq_true_eq] at hc
  exact ⟨dx, dy, dq_dp _ _ (dq_same s _ _ hx), dq_dp _ _ (dq_same s _ _ hy), hc.1.1, hc.1.2, hc.2, here k s (.bl _)⟩
theorem od_ne {X : Cx} : OpD X.K (rEqU X.K true) dNe := by
  intro F H x y dx dy d Q s hx hy e k
  obtain ⟨hc, rfl⟩ := if_some e
  simp only [Bool.and_eq_true, decide_eq_true_eq] at hc
  exact ⟨dx, dy, dq_dp _ _ (dq_same s _ _ hx), dq_dp _ _ (dq_same s _ _ hy), hc.1.1, hc.1.2, hc.2, here k s (.bl _)⟩
def inD (a b : PyData) : Option Bool := (seqOf b).bind fun xs => if PyData.plainAll xs && a.plain && decide (min (PyData.depthAll xs) a.depth ≤ 60) then some (xs.any fun y => PyData.eqv y a) else none
def dIn (a b : PyData) : Option PyData := (inD a b).map .bool
def dNotIn (a b : PyData) : Option PyData := (inD a b).map fun c => .bool (!c)
def rInU (K : PySem.W.Frag) (neg : Bool) : R2 := fun x y H Q => ∃ dx dy c, Dp K H x dx ∧ Dp K H y dy ∧ inD dx dy = some c ∧ Q (.bl (if neg then !c else c)) H
theorem op_inU {X : Cx} (hu : X.A.units + 64 < cLine) : OpR X (compareOp .In) (rInU X.K false) := by
  intro pins s σ H x y v u Q I rx ry h
  obtain ⟨dx, dy, c, hx, hy, hc, q⟩ := h
  obtain ⟨as, r1⟩ := Dp.reads I dx x v hx rx
  obtain ⟨bs, r2⟩ := Dp.reads I dy y u hy ry
  obtain ⟨xs, e1, e2⟩ := Option.bind_eq_some_iff.mp hc
  obtain ⟨hcc, rfl⟩ := if_some e2
  simp only [Bool.and_eq_true, decide_eq_true_eq] at hcc
  cases dy with
  | list ys => cases e1; exact PySem.SeqAt.in_list_data r2 r1 hcc.1.1 hcc.1.2 (by omega) ⟨.bl _, H, I, rfl, q⟩
  | tuple ys => cases e1; exact PySem.SeqAt.in_tuple_data r2 r1 hcc.1.1 hcc.1.2 (by omega) ⟨.bl _, H, I, rfl, q⟩
  | _ => cases e1
theorem op_notInU {X : Cx} (hu : X.A.units + 64 < cLine) : OpR X (compareOp .NotIn) (rInU X.K true) := by
  intro pins s σ H x y v u Q I rx ry h
  obtain ⟨dx, dy, c, hx, hy, hc, q⟩ := h
  obtain ⟨as, r1⟩ := Dp.reads I dx x v hx rx
  obtain ⟨bs, r2⟩ := Dp.reads I dy y u hy ry
  obtain ⟨xs, e1, e2⟩ := Option.bind_eq_some_iff.mp hc
  obtain ⟨hcc, rfl⟩ := if_some e2
  simp only [Bool.and_eq_true, decide_eq_true_eq] at hcc
  cases dy with
  | list ys => cases e1; exact PySem.SeqAt.notIn_list_data r2 r1 hcc.1.1 hcc.1.2 (by omega) ⟨.bl _, H, I, rfl, q⟩
  | tuple ys => cases e1; exact PySem.SeqAt.notIn_tuple_data r2 r1 hcc.1.1 hcc.1.2 (by omega) ⟨.bl _, H, I, rfl, q⟩
  | _ => cases e1
theorem od_in {X : Cx} : OpD X.K (rInU X.K false) dIn := by
  intro F H x y dx dy d Q s hx hy e k
  obtain ⟨c, hc, rfl⟩ := Option.map_eq_some_iff.mp e
  exact ⟨dx, dy, c, dq_dp _ _ (dq_same s _ _ hx), dq_dp _ _ (dq_same s _ _ hy), hc, here k s (.bl _)⟩
theorem od_notIn {X : Cx} : OpD X.K (rInU X.K true) dNotIn := by
  intro F H x y dx dy d Q s hx hy e k
  obtain ⟨c, hc, rfl⟩ := Option.map_eq_some_iff.mp e
  exact ⟨dx, dy, c, dq_dp _ _ (dq_same s _ _ hx), dq_dp _ _ (dq_same s _ _ hy), hc, here k s (.bl _)⟩

/-! ### order of anything alike (tuples) -/
def dLtU (a b : PyData) : Option PyData := if PySem.W.alike a b && !(match a with | .none => true | _ => false) && decide (min a.depth b.depth ≤ 60) then some (.bool (PySem.W.dataLt a b)) else none
def rLtU (K : PySem.W.Frag) : R2 := fun x y H Q => ∃ dx dy, Dp K H x dx ∧ Dp K H y dy ∧ PySem.W.alike dx dy = true ∧ dx ≠ .none ∧ min dx.depth dy.depth ≤ 60 ∧ Q (.bl (PySem.W.dataLt dx dy)) H
theorem op_ltU {X : Cx} (hu : X.A.units + 64 < cLine) : OpR X (compareOp .Lt) (rLtU X.K) := by
  intro pins s σ H x y v u Q I rx ry h
  obtain ⟨dx, dy, hx, hy, ha, hn, hd, q⟩ := h
  obtain ⟨as, r1⟩ := Dp.reads I dx x v hx rx
  obtain ⟨bs, r2⟩ := Dp.reads I dy y u hy ry
  exact PySem.W.lt_data r1 r2 ha hn (by omega) ⟨.bl _, H, I, rfl, q⟩
theorem od_ltU {X : Cx} : OpD X.K (rLtU X.K) dLtU := by
  intro F H x y dx dy d Q s hx hy e k
  obtain ⟨hc, rfl⟩ := if_some e
  simp only [Bool.and_eq_true, decide_eq_true_eq] at hc
  exact ⟨dx, dy, dq_dp _ _ (dq_same s _ _ hx), dq_dp _ _ (dq_same s _ _ hy), hc.1.1, fun z => by subst z; exact absurd hc.1.2 (by decide), hc.2, here k s (.bl _)⟩

/-! ### items, parts -/
theorem DqAll.get2 {K : PySem.W.Frag} {F : Hp} : ∀ {vs : List V} {ds : List PyData} {i : Nat} {d : PyData}, DqAll K F vs ds → ds[i]? = some d → ∃ v, vs[i]? = some v ∧ Dq K F v d
  | _, _, _, _, .nil, h => by simp at h
  | _, _, 0, _, .cons h1 _, h => by
    have e := Option.some.inj (show some _ = some _ from h)
    subst e
    exact ⟨_, rfl, h1⟩
  | _, _, i + 1, _, .cons _ h2, h => DqAll.get2 (i := i) h2 (by simpa using h)
def dIx : PyData → PyData → Option PyData
  | .list xs, .int i => atI xs i
  | .tuple xs, .int i => atI xs i
  | _, _ => none
theorem atI_dq {K : PySem.W.Frag} {F : Hp} {vs : List V} {ds : List PyData} {i : Int} {d : PyData} (h : DqAll K F vs ds) (e : atI ds i = some d) : ∃ v, atI vs i = some v ∧ Dq K F v d := by
  unfold atI at e ⊢
  rw [h.len]
  obtain ⟨j, e1, e2⟩ := Option.bind_eq_some_iff.mp e
  obtain ⟨v, g, q⟩ := h.get2 e2
  exact ⟨v, by rw [e1]; exact g, q⟩
def rIxU (K : PySem.W.Frag) : R2 := fun x y H Q => rIxL K x y H Q ∨ rIxT K x y H Q
theorem ix_U {X : Cx} : IxR X (rIxU X.K) := ix_list.or ix_tup
theorem od_ix {X : Cx} : OpD X.K (rIxU X.K) dIx := by
  intro F H x y dx dy d Q s hx hy e k
  unfold dIx at e
  split at e
  · obtain ⟨a, us, rfl, ha, hus⟩ := dq_lst hx
    cases hy
    obtain ⟨v, g, q⟩ := atI_dq hus e
    exact .inl ⟨a, us, _, v, rfl, rfl, SqL.of (s _ _ ha), g, here k s q⟩
  · obtain ⟨a, us, rfl, ha, hus⟩ := dq_tup hx
    cases hy
    obtain ⟨v, g, q⟩ := atI_dq hus e
    exact .inr ⟨a, us, _, v, rfl, rfl, ha.sq s, g, here k s q⟩
  · cases e
theorem pd_ix {X : Cx} {a b : Expr} {fa fb : DE} {pos : Pos} (ha : PD X a fa) (hb : PD X b fb) (hs : PlainIx b) : PD X (.Subscript a b pos) (eOp dIx fa fb) := (pe_ix ix_U ha hb hs).imp (tOf_op od_ix)
end MP
namespace MP
open PySem PySem.Spec PyProof.Rows L2 RL

/-! ### targets -/
mutual
inductive Tg where
  | nm (i : Nat)
  | tp (n : Nat) (ts : Tgs)
inductive Tgs where
  | nil
  | cons (t : Tg) (ts : Tgs)
end
mutual
def gOf (K : PySem.W.Frag) : Tg → TG
  | .nm i => gName i
  | .tp n ts => gTup K n (gsOf K ts)
def gsOf (K : PySem.W.Frag) : Tgs → TGs
  | .nil => gNil
  | .cons t ts => gCons (gOf K t) (gsOf K ts)
end
mutual
def putT : Tg → PyData → Slots → Option Slots
  | .nm i, d, ρ => some (ρ.set i (some (.d d)))
  | .tp n ts, .tuple ds, ρ => if ds.length = n then putTs ts ds ρ else none
  | .tp _ _, _, _ => none
def putTs : Tgs → List PyData → Slots → Option Slots
  | .nil, [], ρ => some ρ
  | .cons t ts, d :: ds, ρ => (putT t d ρ).bind fun ρ1 => putTs ts ds ρ1
  | _, _, _ => none
end
mutual
def idT : Tg → List Nat
  | .nm i => [i]
  | .tp _ ts => idTs ts
def idTs : Tgs → List Nat
  | .nil => []
  | .cons t ts => idT t ++ idTs ts
end
theorem wipe_get {σ : L2.St} {vs : List Nat} {j : Nat} : (L2.wipe σ vs)[j]? = if j ∈ vs ∧ j < σ.length then some none else σ[j]? := by
  induction vs with
  | nil => show σ[j]? = _; rw [if_neg (by simp)]
  | cons v vs ih =>
    show ((L2.wipe σ vs).set v none)[j]? = _
    have hl := wipe_length σ vs
    by_cases e : v = j
    · subst e
      rw [List.getElem?_set, if_pos rfl, hl]
      by_cases h : v < σ.length
      · rw [if_pos h, if_pos ⟨by simp, h⟩]
      · rw [if_neg h, if_neg (by simp [h]), List.getElem?_eq_none (by omega)]
    · rw [List.getElem?_set_ne e, ih]
      by_cases h : j ∈ vs ∧ j < σ.length
      · rw [if_pos h, if_pos ⟨List.mem_cons_of_mem _ h.1, h.2⟩]
      · rw [if_neg h, if_neg]
        rintro ⟨h1, h2⟩
        rcases List.mem_cons.mp h1 with z | z
        · exact e z.symm
        · exact h ⟨z, h2⟩
theorem wipe_set {σ : L2.St} {vs : List Nat} {i : Nat} {x : Option V} (h : i ∈ vs) : L2.wipe (σ.set i x) vs = L2.wipe σ vs := by
  refine List.ext_getElem? fun j => ?_
  rw [wipe_get, wipe_get, List.length_set]
  by_cases hj : j ∈ vs ∧ j < σ.length
  · rw [if_pos hj, if_pos hj]
  · rw [if_neg hj, if_neg hj]
    by_cases e : i = j
    · subst e
      have : ¬ i < σ.length := fun z => hj ⟨h, z⟩
      rw [List.getElem?_eq_none (by rw [List.length_set]; omega), List.getElem?_eq_none (by omega)]
    · rw [List.getElem?_set_ne e]
section
variable {K : PySem.W.Frag} {F H : Hp} {ow : Ads}
mutual
theorem put_ok (s : Same F H) : ∀ (t : Tg) (d : PyData) (ρ ρ' : Slots) (v : V) (σ : L2.St) (Q : L2.St → Hp → Prop), Dq K F v d → RelS K F ow σ ρ → putT t d ρ = some ρ' →
    (∀ σ', RelS K F ow σ' ρ' → (∀ vs, (∀ i ∈ idT t, i ∈ vs) → L2.wipe σ' vs = L2.wipe σ vs) → Q σ' H) → gOf K t v σ H Q
  | .nm i, d, ρ, ρ', v, σ, Q, hv, rs, e, k => by
    have e := Option.some.inj (show some (ρ.set i (some (.d d))) = some ρ' from e)
    subst e
    refine k _ (rs.set ⟨v, rfl, hv⟩) fun vs hvs => wipe_set (hvs i (by simp [idT]))
  | .tp n ts, .tuple ds, ρ, ρ', v, σ, Q, hv, rs, e, k => by
    obtain ⟨hn, e⟩ : ds.length = n ∧ putTs ts ds ρ = some ρ' := by
      have e : (if ds.length = n then putTs ts ds ρ else none) = some ρ' := e
      by_cases h : ds.length = n
      · rw [if_pos h] at e
        exact ⟨h, e⟩
      · rw [if_neg h] at e
        cases e
    obtain ⟨a, xs, rfl, ha, hxs⟩ := dq_tup hv
    exact ⟨a, xs, rfl, ha.sq s, by rw [hxs.len]; exact hn, puts_ok s ts ds ρ ρ' xs σ Q hxs rs e k⟩
  | .tp _ _, .none, _, _, _, _, _, _, _, e, _ => by cases e
  | .tp _ _, .bool _, _, _, _, _, _, _, _, e, _ => by cases e
  | .tp _ _, .int _, _, _, _, _, _, _, _, e, _ => by cases e
  | .tp _ _, .str _, _, _, _, _, _, _, _, e, _ => by cases e
  | .tp _ _, .list _, _, _, _, _, _, _, _, e, _ => by cases e
  | .tp _ _, .dict _, _, _, _, _, _, _, _, e, _ => by cases e
theorem puts_ok (s : Same F H) : ∀ (ts : Tgs) (ds : List PyData) (ρ ρ' : Slots) (vs : List V) (σ : L2.St) (Q : L2.St → Hp → Prop), DqAll K F vs ds → RelS K F ow σ ρ → putTs ts ds ρ = some ρ' →
    (∀ σ', RelS K F ow σ' ρ' → (∀ ws, (∀ i ∈ idTs ts, i ∈ ws) → L2.wipe σ' ws = L2.wipe σ ws) → Q σ' H) → gsOf K ts vs σ H Q
  | .nil, [], ρ, ρ', _, σ, Q, hv, rs, e, k => by
    have e := Option.some.inj (show some ρ = some ρ' from e)
    subst e
    cases hv
    exact ⟨rfl, k σ rs fun _ _ => rfl⟩
  | .cons t ts, d :: ds, ρ, ρ', _, σ, Q, hv, rs, e, k => by
    obtain ⟨ρ1, e1, e2⟩ := Option.bind_eq_some_iff.mp (show (putT t d ρ).bind (fun ρ1 => putTs ts ds ρ1) = some ρ' from e)
    cases hv with
    | cons h1 h2 =>
      refine ⟨_, _, rfl, put_ok s t d ρ ρ1 _ σ _ h1 rs e1 fun σ1 rs1 w1 => puts_ok s ts ds ρ1 ρ' _ σ1 Q h2 rs1 e2 fun σ2 rs2 w2 => k σ2 rs2 fun ws hws => ?_⟩
      rw [w2 ws fun i hi => hws i (by simp only [idTs, List.mem_append]; exact .inr hi), w1 ws fun i hi => hws i (by simp only [idTs, List.mem_append]; exact .inl hi)]
  | .nil, _ :: _, _, _, _, _, _, _, _, e, _ => by cases e
  | .cons _ _, [], _, _, _, _, _, _, _, e, _ => by cases e
end
end
/-- an item of what is walked; w: it may be a tuple that is taken apart at once -/
def DqI (K : PySem.W.Frag) (w : Bool) (F : Hp) (v : V) (d : PyData) : Prop := Dq K F v d ∨ (w = true ∧ ∃ a xs ds, v = .ref a ∧ d = .tuple ds ∧ SqT K F a xs ∧ DqAll K F xs ds)
theorem new_tupI {K : PySem.W.Frag} {F : Hp} {p : Addr} {vs : List V} {ds : List PyData} (n : F p = none) (h : DqAll K F vs ds) : DqI K true (upd F p (.tup vs)) (.ref p) (.tuple ds) := .inr ⟨rfl, p, vs, ds, rfl, rfl, SqT.of upd_same, dqAll_same (same_new n) ds vs h⟩
def isTp : Tg → Bool
  | .nm _ => false
  | .tp _ _ => true
def isTup : Expr → Bool
  | .Tuple _ _ _ => true
  | _ => false
theorem sqT_same {K : PySem.W.Frag} {F H : Hp} {a : Addr} {xs : List V} (e : Same F H) (h : SqT K F a xs) : SqT K H a xs := by
  rcases h with (h | ⟨o, h⟩) | h
  · exact .inl (.inl (e _ _ h))
  · exact .inl (.inr ⟨o, e _ _ h⟩)
  · exact .inr h
theorem put_okI {K : PySem.W.Frag} {F H : Hp} {ow : Ads} {w : Bool} (s : Same F H) (t : Tg) (hw : w = true → isTp t = true) (d : PyData) (ρ ρ' : Slots) (v : V) (σ : L2.St) (Q : L2.St → Hp → Prop) (h : DqI K w F v d) (rs : RelS K F ow σ ρ) (e : putT t d ρ = some ρ')
    (k : ∀ σ', RelS K F ow σ' ρ' → (∀ vs, (∀ i ∈ idT t, i ∈ vs) → L2.wipe σ' vs = L2.wipe σ vs) → Q σ' H) : gOf K t v σ H Q := by
  rcases h with h | ⟨w1, a, xs, ds, rfl, rfl, ha, hxs⟩
  · exact put_ok s t d ρ ρ' v σ Q h rs e k
  · cases t with
    | nm i => exact nomatch (show false = true from hw w1)
    | tp n ts =>
      have e : (if ds.length = n then putTs ts ds ρ else none) = some ρ' := e
      by_cases hn : ds.length = n
      · rw [if_pos hn] at e
        exact ⟨a, xs, rfl, sqT_same s ha, by rw [hxs.len]; exact hn, puts_ok s ts ds ρ ρ' xs σ Q hxs rs e k⟩
      · rw [if_neg hn] at e
        cases e
abbrev PDG (X : Cx) (t : Expr) (g : Tg) : Prop := PG X t (gOf X.K g)
abbrev PDGs (X : Cx) (ts : List Expr) (g : Tgs) : Prop := PGs X ts (gsOf X.K g)
section
variable {X : Cx} {pos : Pos} {x : Str} {e : Expr} {es : List Expr}
theorem pdg_nm {i : Nat} (hN : X.N.Nodup) (hi : X.N[i]? = some x) (hx : Loc X.env.scope x) (hf : X.fn x = true ∨ X.env.scope.names.lookup x = some .local := by first | exact .inl rfl | exact .inr rfl | assumption) : PDG X (.Name x pos) (.nm i) := pg_name hN hi hx hf
theorem pdgs_nil : PDGs X [] .nil := pgs_nil
theorem pdgs_cons {t : Tg} {u : Tgs} (h1 : PDG X e t) (h2 : PDGs X es u) (hs : (assignEach (e :: es) X.env).map (·.2) = assign e X.env :: (assignEach es X.env).map (·.2) := by rfl) : PDGs X (e :: es) (.cons t u) := pgs_cons h1 h2 hs
theorem pdg_tp {k n : Nat} {t : Tgs} (hc : X.calm = true) (h : PDGs X es t) (hn : (assignEach es X.env).length = n := by rfl) (hst : (assignEach es X.env).findIdx? (·.1) = none := by rfl) : PDG X (.Tuple es k pos) (.tp n t) := pg_tup hc h hn hst
end

/-! ### what is walked -/
section
variable (K : PySem.W.Frag)
def iOf (w : Bool) (fi : DL) : TI := fun σ H R => ∃ F ow ρ so ds so', RelO K F H ow so ∧ RelS K F ow σ ρ ∧ fi ρ so = some (ds, so') ∧
  ∀ F' H' J G Y, RelO K F' H' ow so' → Stp ow F H F' H' → Walk J ds.length G Y → (∀ F2 H2, Same F' F2 → Same F2 H2 → G H2) →
    (∀ i F2 H2 x H3, i < ds.length → Same F' F2 → Same F2 H2 → Y i H2 x H3 → ∃ F3 d, ds[i]? = some d ∧ Stp [] F2 H2 F3 H3 ∧ Same F3 H3 ∧ DqI K w F3 x d) → R J H'
end
abbrev PDI (X : Cx) (tg it : Expr) (f : DL) : Prop := PI X tg it (iOf X.K (isTup tg) f)
def iSeq (f : DE) : DL := fun ρ so => (f ρ so).bind fun p => (seqOf p.1).map fun ds => (ds, p.2)
theorem pdi_seq {X : Cx} {tg l : Expr} {f : DE} (h : PD X l f) : PDI X tg l (iSeq f) := by
  refine ⟨fun pins s σ H R I q => ?_⟩
  obtain ⟨F, ow, ρ, so, ds, so', r0, rs, e, k⟩ := q
  obtain ⟨⟨d, so1⟩, e1, e2⟩ := Option.bind_eq_some_iff.mp e
  obtain ⟨es, e3, e4⟩ := Option.map_eq_some_iff.mp e2
  cases e4
  cases d with
  | list es =>
    cases e3
    refine (pi_list h).run pins s σ H R I ⟨F, ow, ρ, so, _, _, r0, rs, e1, fun F1 H1 v r1 s1 d1 => ?_⟩
    obtain ⟨a, xs, rfl, ha, hxs⟩ := dq_lst d1
    refine ⟨a, rfl, ⟨xs, SqL.of (r1.sub _ _ ha)⟩, k F1 H1 _ _ _ r1 s1 (by rw [← hxs.len]; exact walk_list (xs := xs)) (fun F2 H2 a1 a2 => SqL.of (a2 _ _ (a1 _ _ ha))) fun i F2 H2 x H3 hi a1 a2 y => ?_⟩
    obtain ⟨rfl, hx⟩ := y
    obtain ⟨d, hd, q⟩ := hxs.get hx
    exact ⟨F2, d, hd, Stp.refl _ _ _, a2, .inl (dq_same a1 _ _ q)⟩
  | tuple es =>
    cases e3
    refine (pi_tup h).run pins s σ H R I ⟨F, ow, ρ, so, _, _, r0, rs, e1, fun F1 H1 v r1 s1 d1 => ?_⟩
    obtain ⟨a, xs, rfl, ha, hxs⟩ := dq_tup d1
    refine ⟨a, rfl, ⟨xs, (ha.sq r1.sub)⟩, k F1 H1 _ _ _ r1 s1 (by rw [← hxs.len]; exact walk_tup (xs := xs)) (fun F2 H2 a1 a2 => (ha.sq (a1.trans a2))) fun i F2 H2 x H3 hi a1 a2 y => ?_⟩
    obtain ⟨rfl, hx⟩ := y
    obtain ⟨d, hd, q⟩ := hxs.get hx
    exact ⟨F2, d, hd, Stp.refl _ _ _, a2, .inl (dq_same a1 _ _ q)⟩
  | _ => cases e3
/-- lo, lo + 1, .. -/
def rangeD (lo : Int) (n : Nat) : List PyData := (List.range n).map fun (i : Nat) => PyData.int (lo + (i : Int))
theorem walk_rg {K : PySem.W.Frag} {wk : Bool} {lo : Int} {n : Nat} : ∀ i F2 H2 x H3, i < (rangeD lo n).length → YFn (fun i => V.int (lo + i)) i H2 x H3 → Same F2 H2 → ∃ F3 d, (rangeD lo n)[i]? = some d ∧ Stp [] F2 H2 F3 H3 ∧ Same F3 H3 ∧ DqI K wk F3 x d := by
  intro i F2 H2 x H3 hi y s
  obtain ⟨rfl, rfl⟩ := y
  unfold rangeD at hi ⊢
  rw [List.length_map, List.length_range] at hi
  exact ⟨F2, .int (lo + i), by rw [List.getElem?_map, List.getElem?_range hi]; rfl, Stp.refl _ _ _, s, .inl (.int _)⟩
def iRg1 (g : DL) : DL := fun ρ so => (g ρ so).bind fun p => match p.1 with
  | [.int n] => if -5000 ≤ n ∧ n ≤ 5000 then some (rangeD 0 n.toNat, p.2) else none
  | _ => none
def iRg2 (g : DL) : DL := fun ρ so => (g ρ so).bind fun p => match p.1 with
  | [.int a, .int b] => if -5000 ≤ a ∧ a ≤ 5000 ∧ -5000 ≤ b ∧ b ≤ 5000 then some (rangeD a (b - a).toNat, p.2) else none
  | _ => none
theorem rangeD_len (lo : Int) (n : Nat) : (rangeD lo n).length = n := by unfold rangeD; rw [List.length_map, List.length_range]
theorem pdi_range1 {X : Cx} {tg a : Expr} {g : DL} {p pos : Pos} (hg : Gl X "range") (hm : X.mg "range" = none) (ha : PDA X [a] g) (hs : starEach [a] X.env = [(false, eval a X.env)] := by rfl) :
    PDI X tg (.Call (.Name "range" p) [a] [] pos) (iRg1 g) := by
  refine (pi_range1 hg hm ha hs).imp fun σ H R q => ?_
  obtain ⟨F, ow, ρ, so, ds, so', r0, rs, e, k⟩ := q
  obtain ⟨⟨d, so1⟩, e1, e2⟩ := Option.bind_eq_some_iff.mp e
  refine ⟨F, ow, ρ, so, d, so1, r0, rs, e1, fun F1 H1 vs r1 s1 d1 => ?_⟩
  split at e2
  · rename_i n hd
    obtain ⟨hn, e3⟩ := if_some e2
    cases e3
    replace hd : d = [.int n] := hd
    subst hd
    cases d1 with
    | cons h1 h2 =>
      cases h1
      cases h2
      exact ⟨n, rfl, by omega, by omega, k F1 H1 _ _ _ r1 s1 (by rw [rangeD_len]; exact walk_range) (fun _ _ _ _ => trivial) fun i F2 H2 x H3 hi a1 a2 y => walk_rg i F2 H2 x H3 hi y a2⟩
  · cases e2
theorem pdi_range2 {X : Cx} {tg a b : Expr} {g : DL} {p pos : Pos} (hg : Gl X "range") (hm : X.mg "range" = none) (ha : PDA X [a, b] g) (hs : starEach [a, b] X.env = [(false, eval a X.env), (false, eval b X.env)] := by rfl) (hs2 : starEach [b] X.env = [(false, eval b X.env)] := by rfl) :
    PDI X tg (.Call (.Name "range" p) [a, b] [] pos) (iRg2 g) := by
  refine (pi_range2 hg hm ha hs hs2).imp fun σ H R q => ?_
  obtain ⟨F, ow, ρ, so, ds, so', r0, rs, e, k⟩ := q
  obtain ⟨⟨d, so1⟩, e1, e2⟩ := Option.bind_eq_some_iff.mp e
  refine ⟨F, ow, ρ, so, d, so1, r0, rs, e1, fun F1 H1 vs r1 s1 d1 => ?_⟩
  split at e2
  · rename_i n m hd
    obtain ⟨hn, e3⟩ := if_some e2
    cases e3
    replace hd : d = [.int n, .int m] := hd
    subst hd
    cases d1 with
    | cons h1 h2 =>
      cases h1
      cases h2 with
      | cons h3 h4 =>
        cases h3
        cases h4
        exact ⟨n, m, rfl, ⟨by omega, by omega, by omega, by omega⟩, k F1 H1 _ _ _ r1 s1 (by rw [rangeD_len]; exact walk_range) (fun _ _ _ _ => trivial) fun i F2 H2 x H3 hi a1 a2 y => walk_rg i F2 H2 x H3 hi y a2⟩
  · cases e2

/-! ### statements -/
def bVal (f : DE) : DB := fun ρ so => (f ρ so).bind fun p => match p.1 with
  | .bool b => some (b, p.2)
  | _ => none
def bNot (f : DB) : DB := fun ρ so => (f ρ so).map fun p => (!p.1, p.2)
def bAnd (f g : DB) : DB := fun ρ so => (f ρ so).bind fun p => if p.1 = true then g ρ p.2 else some (false, p.2)
def bOr (f g : DB) : DB := fun ρ so => (f ρ so).bind fun p => if p.1 = true then some (true, p.2) else g ρ p.2
def eIf (c : DB) (a b : DE) : DE := fun ρ so => (c ρ so).bind fun p => if p.1 = true then a ρ p.2 else b ρ p.2
def eAnd (a b : DE) : DE := fun ρ so => (a ρ so).bind fun p => match p.1 with
  | .bool true => b ρ p.2
  | .bool false => some (.bool false, p.2)
  | _ => none
def eOr (a b : DE) : DE := fun ρ so => (a ρ so).bind fun p => match p.1 with
  | .bool true => some (.bool true, p.2)
  | .bool false => b ρ p.2
  | _ => none
def dNot : PyData → Option PyData
  | .bool b => some (.bool (!b))
  | _ => none
section
variable {K : PySem.W.Frag}
theorem tOf_bVal {f : DE} (σ : L2.St) (H : Hp) (Q : Bool → Hp → Prop) (h : tOfB K (bVal f) σ H Q) : tB (tOf K f) σ H Q := by
  obtain ⟨F, ow, ρ, so, b, so', r0, rs, e, k⟩ := h
  obtain ⟨⟨d, so1⟩, e1, e2⟩ := Option.bind_eq_some_iff.mp e
  refine ⟨F, ow, ρ, so, d, so1, r0, rs, e1, fun F1 H1 v r1 s1 d1 => ?_⟩
  split at e2
  · rename_i b' hd
    cases e2
    replace hd : d = .bool b := hd
    subst hd
    exact ⟨b, dq_bl d1, k F1 H1 r1 s1⟩
  · cases e2
theorem tOf_bTest {f : DE} (σ : L2.St) (H : Hp) (Q : Bool → Hp → Prop) (h : tOfB K (bVal f) σ H Q) : tTest (tOf K f) σ H Q := tOf_bVal σ H Q h
theorem tOf_bNot {f : DB} (σ : L2.St) (H : Hp) (Q : Bool → Hp → Prop) (h : tOfB K (bNot f) σ H Q) : tNot (tOfB K f) σ H Q := by
  obtain ⟨F, ow, ρ, so, b, so', r0, rs, e, k⟩ := h
  obtain ⟨⟨d, so1⟩, e1, e2⟩ := Option.map_eq_some_iff.mp e
  cases e2
  exact ⟨F, ow, ρ, so, d, _, r0, rs, e1, k⟩
theorem tOf_bAnd {f g : DB} (σ : L2.St) (H : Hp) (Q : Bool → Hp → Prop) (h : tOfB K (bAnd f g) σ H Q) : tAnd (tOfB K f) (tOfB K g) σ H Q := by
  obtain ⟨F, ow, ρ, so, b, so', r0, rs, e, k⟩ := h
  obtain ⟨⟨d, so1⟩, e1, e2⟩ := Option.bind_eq_some_iff.mp e
  refine ⟨F, ow, ρ, so, d, so1, r0, rs, e1, fun F1 H1 r1 s1 => ?_⟩
  cases d with
  | true => exact ⟨F1, ow, ρ, so1, b, so', r1, rs.mono s1.fz, e2, fun F2 H2 r2 s2 => k F2 H2 r2 (s1.trans s2)⟩
  | false => cases e2; exact k F1 H1 r1 s1
theorem tOf_bOr {f g : DB} (σ : L2.St) (H : Hp) (Q : Bool → Hp → Prop) (h : tOfB K (bOr f g) σ H Q) : tOr (tOfB K f) (tOfB K g) σ H Q := by
  obtain ⟨F, ow, ρ, so, b, so', r0, rs, e, k⟩ := h
  obtain ⟨⟨d, so1⟩, e1, e2⟩ := Option.bind_eq_some_iff.mp e
  refine ⟨F, ow, ρ, so, d, so1, r0, rs, e1, fun F1 H1 r1 s1 => ?_⟩
  cases d with
  | true => cases e2; exact k F1 H1 r1 s1
  | false => exact ⟨F1, ow, ρ, so1, b, so', r1, rs.mono s1.fz, e2, fun F2 H2 r2 s2 => k F2 H2 r2 (s1.trans s2)⟩
theorem tOf_if {c : DB} {a b : DE} (σ : L2.St) (H : Hp) (Q : VK) (h : tOf K (eIf c a b) σ H Q) : tIf (tOfB K c) (tOf K a) (tOf K b) σ H Q := by
  obtain ⟨F, ow, ρ, so, x, so', r0, rs, e, k⟩ := h
  obtain ⟨⟨d, so1⟩, e1, e2⟩ := Option.bind_eq_some_iff.mp e
  refine ⟨F, ow, ρ, so, d, so1, r0, rs, e1, fun F1 H1 r1 s1 => ?_⟩
  cases d with
  | true => exact ⟨F1, ow, ρ, so1, x, so', r1, rs.mono s1.fz, e2, fun F2 H2 v r2 s2 d2 => k F2 H2 v r2 (s1.trans s2) d2⟩
  | false => exact ⟨F1, ow, ρ, so1, x, so', r1, rs.mono s1.fz, e2, fun F2 H2 v r2 s2 d2 => k F2 H2 v r2 (s1.trans s2) d2⟩
theorem tOf_and {a b : DE} (σ : L2.St) (H : Hp) (Q : VK) (h : tOf K (eAnd a b) σ H Q) : tAndV (tOf K a) (tOf K b) σ H Q := by
  obtain ⟨F, ow, ρ, so, x, so', r0, rs, e, k⟩ := h
  obtain ⟨⟨d, so1⟩, e1, e2⟩ := Option.bind_eq_some_iff.mp e
  refine ⟨F, ow, ρ, so, d, so1, r0, rs, e1, fun F1 H1 v r1 s1 d1 => ?_⟩
  split at e2
  · rename_i hd
    replace hd : d = .bool true := hd
    subst hd
    exact ⟨true, dq_bl d1, F1, ow, ρ, so1, x, so', r1, rs.mono s1.fz, e2, fun F2 H2 v r2 s2 d2 => k F2 H2 v r2 (s1.trans s2) d2⟩
  · rename_i hd
    replace hd : d = .bool false := hd
    subst hd
    cases e2
    exact ⟨false, dq_bl d1, k F1 H1 _ r1 s1 (.bl _)⟩
  · cases e2
theorem tOf_or {a b : DE} (σ : L2.St) (H : Hp) (Q : VK) (h : tOf K (eOr a b) σ H Q) : tOrV (tOf K a) (tOf K b) σ H Q := by
  obtain ⟨F, ow, ρ, so, x, so', r0, rs, e, k⟩ := h
  obtain ⟨⟨d, so1⟩, e1, e2⟩ := Option.bind_eq_some_iff.mp e
  refine ⟨F, ow, ρ, so, d, so1, r0, rs, e1, fun F1 H1 v r1 s1 d1 => ?_⟩
  split at e2
  · rename_i hd
    replace hd : d = .bool true := hd
    subst hd
    cases e2
    exact ⟨true, dq_bl d1, k F1 H1 _ r1 s1 (.bl _)⟩
  · rename_i hd
    replace hd : d = .bool false := hd
    subst hd
    exact ⟨false, dq_bl d1, F1, ow, ρ, so1, x, so', r1, rs.mono s1.fz, e2, fun F2 H2 v r2 s2 d2 => k F2 H2 v r2 (s1.trans s2) d2⟩
  · cases e2
theorem tOf_not {a : DE} (σ : L2.St) (H : Hp) (Q : VK) (h : tOf K (eUn dNot a) σ H Q) : tNotV (tOf K a) σ H Q := by
  obtain ⟨F, ow, ρ, so, x, so', r0, rs, e, k⟩ := h
  obtain ⟨⟨d, so1⟩, e1, e2⟩ := Option.bind_eq_some_iff.mp e
  obtain ⟨z, e3, e4⟩ := Option.map_eq_some_iff.mp e2
  cases e4
  refine ⟨F, ow, ρ, so, d, _, r0, rs, e1, fun F1 H1 v r1 s1 d1 => ?_⟩
  cases d with
  | bool b => cases e3; exact ⟨b, dq_bl d1, k F1 H1 _ r1 s1 (.bl _)⟩
  | _ => cases e3
/-- a op b op c -/
def eChain (g g' : PyData → PyData → Option PyData) (a b c : DE) : DE := fun ρ so => (a ρ so).bind fun p => (b ρ p.2).bind fun q => (g p.1 q.1).bind fun d => match d with
  | .bool true => (c ρ q.2).bind fun r => (g' q.1 r.1).map fun d => (d, r.2)
  | .bool false => some (.bool false, q.2)
  | _ => none
theorem tOf_chain {r r' : R2} {g g' : PyData → PyData → Option PyData} {a b c : DE} (hr : OpD K r g) (hr' : OpD K r' g') (σ : L2.St) (H : Hp) (Q : VK) (h : tOf K (eChain g g' a b c) σ H Q) : tChain r r' (tOf K a) (tOf K b) (tOf K c) σ H Q := by
  obtain ⟨F, ow, ρ, so, z, so', r0, rs, e, k⟩ := h
  obtain ⟨⟨x, so1⟩, e1, e⟩ := Option.bind_eq_some_iff.mp e
  obtain ⟨⟨y, so2⟩, e2, e⟩ := Option.bind_eq_some_iff.mp e
  obtain ⟨d, e3, e⟩ := Option.bind_eq_some_iff.mp e
  refine ⟨F, ow, ρ, so, x, so1, r0, rs, e1, fun F1 H1 v1 r1 s1 d1 => ⟨F1, ow, ρ, so1, y, so2, r1, rs.mono s1.fz, e2, fun F2 H2 v2 r2 s2 d2 => ?_⟩⟩
  refine hr F2 H2 v1 v2 x y d _ r2.sub (dq_same s2.fz x v1 d1) d2 e3 fun F3 H3 v s3 e4 d3 => ?_
  have r3 := r2.grow s3 e4
  have s03 := s1.trans (s2.trans (s3.some_of (ow := ow)))
  split at e
  · refine ⟨true, dq_bl d3, ?_⟩
    obtain ⟨⟨w, so3⟩, e5, e6⟩ := Option.bind_eq_some_iff.mp e
    obtain ⟨z', e7, e8⟩ := Option.map_eq_some_iff.mp e6
    cases e8
    refine ⟨F3, ow, ρ, so2, w, _, r3, rs.mono s03.fz, e5, fun F4 H4 v4 r4 s4 d4 => ?_⟩
    exact hr' F4 H4 v2 v4 y w _ Q r4.sub (dq_same (s3.fz.trans s4.fz) y v2 d2) d4 e7 fun F5 H5 v5 s5 e5' d5 => k F5 H5 v5 (r4.grow s5 e5') (s03.trans (s4.trans s5.some_of)) d5
  · cases e
    exact ⟨false, dq_bl d3, k F3 H3 _ r3 s03 (.bl _)⟩
  · cases e
end
section
variable {X : Cx} {a b c : Expr} {rest : List Expr} {fa fb fc : DE} {pos : Pos} {op op' : CmpOp} {r r' : R2} {gg gg' : PyData → PyData → Option PyData}
theorem pdb_val (h : PD X a fa) (he : ∀ whole, isTrue a X.env whole = (do let v ← whole; standAt a.pos; holding [v] (truthy v)) := by intro _; rfl) : PDB X a (bVal fa) := (pt_val h he).imp tOf_bVal
theorem pdb_cmp (ho : OpR X (compareOp op) r) (hd : OpD X.K r gg) (ha : PD X a fa) (hb : PD X b fb) (hm : behindInMarks op b = false) : PDB X (.Compare a [op] [b] pos) (bVal (eOp gg fa fb)) :=
  (pt_cmpR ho ha hb hm).imp fun σ H Q h => by
    obtain ⟨F, ow, ρ, so, z, so', r0, rs, e, k⟩ := h
    obtain ⟨⟨d, so1⟩, e1, e2⟩ := Option.bind_eq_some_iff.mp e
    refine tOf_op hd σ H _ ⟨F, ow, ρ, so, d, so1, r0, rs, e1, fun F1 H1 v r1 s1 d1 => ?_⟩
    split at e2
    · rename_i hd
      cases e2
      replace hd : d = .bool z := hd
      subst hd
      exact ⟨z, dq_bl d1, k F1 H1 r1 s1⟩
    · cases e2
theorem pdb_chain (ho : OpR X (compareOp op) r) (hd : OpD X.K r gg) (ho' : OpR X (compareOp op') r') (hd' : OpD X.K r' gg') (ha : PD X a fa) (hb : PD X b fb) (hc : PD X c fc)
    (hm : lastMarks [op, op'] [b, c] = false := by with_unfolding_all rfl) : PDB X (.Compare a [op, op'] [b, c] pos) (bVal (eChain gg gg' fa fb fc)) :=
  (pt_chain ho ho' ha hb hc hm).imp fun σ H Q h => by
    obtain ⟨F, ow, ρ, so, z, so', r0, rs, e, k⟩ := h
    obtain ⟨⟨d, so1⟩, e1, e2⟩ := Option.bind_eq_some_iff.mp e
    refine tOf_chain hd hd' σ H _ ⟨F, ow, ρ, so, d, so1, r0, rs, e1, fun F1 H1 v r1 s1 d1 => ?_⟩
    split at e2
    · rename_i hd
      cases e2
      replace hd : d = .bool z := hd
      subst hd
      exact ⟨z, dq_bl d1, k F1 H1 r1 s1⟩
    · cases e2
theorem pd_chain (ho : OpR X (compareOp op) r) (hd : OpD X.K r gg) (ho' : OpR X (compareOp op') r') (hd' : OpD X.K r' gg') (ha : PD X a fa) (hb : PD X b fb) (hc : PD X c fc)
    (hm : lastMarks [op, op'] [b, c] = false := by with_unfolding_all rfl) : PD X (.Compare a [op, op'] [b, c] pos) (eChain gg gg' fa fb fc) := (pe_chain ho ho' ha hb hc hm).imp (tOf_chain hd hd')
theorem pdb_not {f : DB} (h : PDB X a f) : PDB X (.UnaryOp .Not a pos) (bNot f) := (pt_not h).imp tOf_bNot
theorem pdw_and1 {f : DB} (h : PDB X a f) : PDW X (.BoolOp .And [a] pos) f := pw_and1 h
theorem pdw_or1 {f : DB} (h : PDB X a f) : PDW X (.BoolOp .Or [a] pos) f := pw_or1 h
theorem pdw_and {f g : DB} (h : PDB X a f) (hb : PDW X (.BoolOp .And (b :: rest) pos) g) : PDW X (.BoolOp .And (a :: b :: rest) pos) (bAnd f g) := (pw_and h hb).imp tOf_bAnd
theorem pdw_or {f g : DB} (h : PDB X a f) (hb : PDW X (.BoolOp .Or (b :: rest) pos) g) : PDW X (.BoolOp .Or (a :: b :: rest) pos) (bOr f g) := (pw_or h hb).imp tOf_bOr
theorem pdb_w {f : DB} (h : PDW X a f) : PDB X a f := PW.pt h
theorem pd_if {f : DB} (h : PDB X c f) (ha : PD X a fa) (hb : PD X b fb) : PD X (.IfExp c a b pos) (eIf f fa fb) := (pe_ifExp h ha hb).imp tOf_if
theorem pd_one {op : BoolOp} (h : PD X a fa) : PD X (.BoolOp op [a] pos) fa := pe_one h
theorem pd_and (h : PD X a fa) (hb : PD X (.BoolOp .And (b :: rest) pos) fb) : PD X (.BoolOp .And (a :: b :: rest) pos) (eAnd fa fb) := (pe_and h hb).imp tOf_and
theorem pd_or (h : PD X a fa) (hb : PD X (.BoolOp .Or (b :: rest) pos) fb) : PD X (.BoolOp .Or (a :: b :: rest) pos) (eOr fa fb) := (pe_or h hb).imp tOf_or
theorem pd_not (h : PD X a fa) : PD X (.UnaryOp .Not a pos) (eUn dNot fa) := (pe_not h).imp tOf_not
end
end MP
namespace MP
open PySem PySem.Spec PyProof.Rows L2 RL

/-! ### statements -/
def sNext : DS := fun ρ so => some (.nx ρ, so)
def sBreak : DS := fun ρ so => some (.bk ρ, so)
def sCont : DS := fun ρ so => some (.ct ρ, so)
def sSeq (f g : DS) : DS := fun ρ so => (f ρ so).bind fun p => match p.1 with
  | .nx ρ1 => g ρ1 p.2
  | fl => some (fl, p.2)
def sRet (f : DE) : DS := fun ρ so => (f ρ so).map fun p => (.rt p.1, p.2)
def sRetN : DS := fun _ so => some (.rt .none, so)
def sDrop (f : DE) : DS := fun ρ so => (f ρ so).map fun p => (.nx ρ, p.2)
def sSet (t : Tg) (f : DE) : DS := fun ρ so => (f ρ so).bind fun p => (putT t p.1 ρ).map fun ρ1 => (.nx ρ1, p.2)
def sIf (c : DB) (f g : DS) : DS := fun ρ so => (c ρ so).bind fun p => if p.1 = true then f ρ p.2 else g ρ p.2
def sNone : DS := fun _ _ => none
/-- a new list of one's own: slot i, place k -/
def noO (k : Nat) : Option Sl → Bool
  | some (.o j) => j != k
  | _ => true
def sNew (i k : Nat) (f : DL) : DS := fun ρ so => (f ρ so).bind fun p => if decide (k < p.2.length) && decide (i < ρ.length) && (ρ.set i none).all (noO k) then some (.nx (ρ.set i (some (.o k))), p.2.set k (.lst p.1)) else none
section
variable {K : PySem.W.Frag} {p : Nat} {W : Str → Hp → Prop}
theorem tOf_next (D : Ends) (σ : L2.St) (H : Hp) (h : tOfS K p W sNext D σ H) : tNext D σ H := by
  obtain ⟨F, ow, ρ, so, fl, so', r0, rs, e, k⟩ := h
  cases e
  exact k F H ow r0 (Stp.refl _ _ _) (OwTo.refl _ _ _) σ rs
theorem tOf_break (D : Ends) (σ : L2.St) (H : Hp) (h : tOfS K p W sBreak D σ H) : tBreak D σ H := by
  obtain ⟨F, ow, ρ, so, fl, so', r0, rs, e, k⟩ := h
  cases e
  exact k F H ow r0 (Stp.refl _ _ _) (OwTo.refl _ _ _) σ rs
theorem tOf_cont (D : Ends) (σ : L2.St) (H : Hp) (h : tOfS K p W sCont D σ H) : tCont D σ H := by
  obtain ⟨F, ow, ρ, so, fl, so', r0, rs, e, k⟩ := h
  cases e
  exact k F H ow r0 (Stp.refl _ _ _) (OwTo.refl _ _ _) σ rs
theorem tOf_seq {f g : DS} (D : Ends) (σ : L2.St) (H : Hp) (h : tOfS K p W (sSeq f g) D σ H) : tSeq (tOfS K p W f) (tOfS K p W g) D σ H := by
  obtain ⟨F, ow, ρ, so, fl, so', r0, rs, e, k⟩ := h
  obtain ⟨⟨fl1, so1⟩, e1, e2⟩ := Option.bind_eq_some_iff.mp e
  refine ⟨F, ow, ρ, so, fl1, so1, r0, rs, e1, fun F1 H1 ow1 r1 s1 t1 => ?_⟩
  cases fl1 with
  | nx ρ1 => exact fun σ1 rs1 => ⟨F1, ow1, ρ1, so1, fl, so', r1, rs1, e2, fun F2 H2 ow2 r2 s2 t2 => k F2 H2 ow2 r2 (s1.next t1 s2) (OwTo.trans s1 t1 t2)⟩
  | ex n => cases e2; exact k F1 H1 ow1 r1 s1 t1
  | bk ρ1 => cases e2; exact k F1 H1 ow1 r1 s1 t1
  | ct ρ1 => cases e2; exact k F1 H1 ow1 r1 s1 t1
  | rt d => cases e2; exact k F1 H1 ow1 r1 s1 t1
theorem tOf_ret {f : DE} (D : Ends) (σ : L2.St) (H : Hp) (h : tOfS K p W (sRet f) D σ H) : tRet (tOf K f) D σ H := by
  obtain ⟨F, ow, ρ, so, fl, so', r0, rs, e, k⟩ := h
  obtain ⟨⟨d, so1⟩, e1, e2⟩ := Option.map_eq_some_iff.mp e
  cases e2
  exact ⟨F, ow, ρ, so, d, _, r0, rs, e1, fun F1 H1 v r1 s1 d1 => k F1 H1 ow r1 s1 (OwTo.refl _ _ _) v d1⟩
theorem tOf_retN (D : Ends) (σ : L2.St) (H : Hp) (h : tOfS K p W sRetN D σ H) : tRetN D σ H := by
  obtain ⟨F, ow, ρ, so, fl, so', r0, rs, e, k⟩ := h
  cases e
  exact k F H ow r0 (Stp.refl _ _ _) (OwTo.refl _ _ _) _ .non
theorem tOf_drop {f : DE} (D : Ends) (σ : L2.St) (H : Hp) (h : tOfS K p W (sDrop f) D σ H) : tDrop (tOf K f) D σ H := by
  obtain ⟨F, ow, ρ, so, fl, so', r0, rs, e, k⟩ := h
  obtain ⟨⟨d, so1⟩, e1, e2⟩ := Option.map_eq_some_iff.mp e
  cases e2
  exact ⟨F, ow, ρ, so, d, _, r0, rs, e1, fun F1 H1 v r1 s1 d1 => k F1 H1 ow r1 s1 (OwTo.refl _ _ _) σ (rs.mono s1.fz)⟩
theorem tOf_set {t : Tg} {f : DE} (D : Ends) (σ : L2.St) (H : Hp) (h : tOfS K p W (sSet t f) D σ H) : tAsg (tOf K f) (gOf K t) D σ H := by
  obtain ⟨F, ow, ρ, so, fl, so', r0, rs, e, k⟩ := h
  obtain ⟨⟨d, so1⟩, e1, e2⟩ := Option.bind_eq_some_iff.mp e
  obtain ⟨ρ1, e3, e4⟩ := Option.map_eq_some_iff.mp e2
  cases e4
  exact ⟨F, ow, ρ, so, d, _, r0, rs, e1, fun F1 H1 v r1 s1 d1 => put_ok r1.sub t d ρ ρ1 v σ _ d1 (rs.mono s1.fz) e3 fun σ1 rs1 _ => k F1 H1 ow r1 s1 (OwTo.refl _ _ _) σ1 rs1⟩
theorem tOf_ifS {c : DB} {f g : DS} (D : Ends) (σ : L2.St) (H : Hp) (h : tOfS K p W (sIf c f g) D σ H) : tIfS (tOfB K c) (tOfS K p W f) (tOfS K p W g) D σ H := by
  obtain ⟨F, ow, ρ, so, fl, so', r0, rs, e, k⟩ := h
  obtain ⟨⟨b, so1⟩, e1, e2⟩ := Option.bind_eq_some_iff.mp e
  refine ⟨F, ow, ρ, so, b, so1, r0, rs, e1, fun F1 H1 r1 s1 => ?_⟩
  have go : ∀ F2 H2 ow2, RelO K F2 H2 ow2 so' → Stp ow F1 H1 F2 H2 → OwTo p ow H1 ow2 → FlOk K D W F2 ow2 H2 fl := fun F2 H2 ow2 r2 s2 t2 =>
    k F2 H2 ow2 r2 (s1.trans s2) (OwTo.trans s1 (OwTo.refl _ _ _) t2)
  cases b with
  | true => exact ⟨F1, ow, ρ, so1, fl, so', r1, rs.mono s1.fz, e2, go⟩
  | false => exact ⟨F1, ow, ρ, so1, fl, so', r1, rs.mono s1.fz, e2, go⟩
theorem tOf_new {i j : Nat} {f : DL} (hj : p ≤ j) (D : Ends) (σ : L2.St) (H : Hp) (h : tOfS K p W (sNew i j f) D σ H) : tAsg (tOfN K f) (gName i) D σ H := by
  obtain ⟨F, ow, ρ, so, fl, so', r0, rs, e, k⟩ := h
  obtain ⟨⟨ds, so1⟩, e1, e2⟩ := Option.bind_eq_some_iff.mp e
  obtain ⟨hc, e3⟩ := if_some e2
  simp only [Bool.and_eq_true, decide_eq_true_eq] at hc
  obtain ⟨⟨hj1, hi⟩, hall⟩ := hc
  cases e3
  refine ⟨F, ow, ρ, so, ds, so1, r0, rs, e1, fun F1 H1 a vs r1 s1 n0 f1 h1 d1 => ?_⟩
  have ne : ∀ (m : Nat) (b : Addr), ow[m]? = some (some b) → b ≠ a := fun m b hb e => r0.old m b hb (by rw [e]; exact n0)
  have lo : ow.length = so1.length := r1.len
  have r2 : RelO K F1 H1 (ow.set j (some a)) (so1.set j (.lst ds)) := by
    refine ⟨r1.sub, by rw [List.length_set, List.length_set]; exact lo, fun m b w hb hw => ?_, fun m n b hm hn => ?_, fun m b hb => ?_⟩
    · rcases get_set hw with ⟨rfl, rfl⟩ | ⟨nm, hw⟩
      · rcases get_set hb with ⟨_, rfl⟩ | ⟨nm, _⟩
        · exact ⟨f1, vs, h1, d1⟩
        · exact absurd rfl nm
      · rcases get_set hb with ⟨z, _⟩ | ⟨_, hb⟩
        · exact absurd z nm
        · exact r1.own m b w hb hw
    · rcases get_set hm with ⟨z1, y1⟩ | ⟨nm, hm'⟩
      · rcases get_set hn with ⟨z2, y2⟩ | ⟨nn, hn'⟩
        · rw [z1, z2]
        · exact absurd (Option.some.inj y1) (ne n b hn')
      · rcases get_set hn with ⟨z2, y2⟩ | ⟨nn, hn'⟩
        · exact absurd (Option.some.inj y2) (ne m b hm')
        · exact r1.inj m n b hm' hn'
    · rcases get_set hb with ⟨rfl, e1⟩ | ⟨nm, hb⟩
      · cases e1
        rw [h1]
        exact nofun
      · exact r1.old m b hb
  refine k F1 H1 _ r2 s1 ⟨by rw [List.length_set], fun m => ?_⟩ _ ⟨by rw [List.length_set, List.length_set]; exact rs.len, fun m v s hv hs => ?_⟩
  · by_cases e : j = m
    · subst e
      refine .inr ⟨hj, fun b hb => ?_⟩
      rcases get_set hb with ⟨_, e1⟩ | ⟨nm, _⟩
      · cases e1
        exact n0
      · exact absurd rfl nm
    · exact .inl (List.getElem?_set_ne e)
  · rcases get_set hs with ⟨rfl, rfl⟩ | ⟨nm, hs'⟩
    · rcases get_set hv with ⟨_, rfl⟩ | ⟨nm, _⟩
      · exact ⟨_, rfl, a, by rw [List.getElem?_set_self (by omega)], rfl⟩
      · exact absurd rfl nm
    · rcases get_set hv with ⟨z, _⟩ | ⟨_, hv⟩
      · exact absurd z nm
      · have q := (rs.mono s1.fz).ats m v s hv hs'
        cases s with
        | none => trivial
        | some s =>
          obtain ⟨u, hu, q⟩ := q
          refine ⟨u, hu, ?_⟩
          cases s with
          | d x => exact q
          | s ns => exact q
          | o n =>
            obtain ⟨b, hb, e⟩ := q
            have mem : some (Sl.o n) ∈ ρ.set i none := List.mem_of_getElem? (i := m) (by rw [List.getElem?_set_ne (Ne.symm nm)]; exact hs')
            have hn : (n != j) = true := List.all_eq_true.mp hall _ mem
            have hn : n ≠ j := by simpa using hn
            exact ⟨b, by rw [List.getElem?_set_ne (Ne.symm hn)]; exact hb, e⟩

/-! ### for -/
def forGo (t : Tg) (body : DS) : List PyData → Slots → Sto → Option (Fl × Sto)
  | [], ρ, so => some (.nx ρ, so)
  | d :: r, ρ, so => (putT t d ρ).bind fun ρ1 => (body ρ1 so).bind fun q => match q.1 with
    | .nx ρ2 => forGo t body r ρ2 q.2
    | .ct ρ2 => forGo t body r ρ2 q.2
    | .bk ρ2 => some (.nx ρ2, q.2)
    | .rt d => some (.rt d, q.2)
    | .ex n => some (.ex n, q.2)
def sFor (t : Tg) (fi : DL) (body : DS) : DS := fun ρ so => (fi ρ so).bind fun q => forGo t body q.1 ρ q.2
theorem tOf_for {w : Bool} {t : Tg} {fi : DL} {body : DS} (hw : w = true → isTp t = true) (D : Ends) (σ : L2.St) (H : Hp) (h : tOfS K p W (sFor t fi body) D σ H) : tFor (iOf K w fi) (gOf K t) (tOfS K p W body) D σ H := by
  obtain ⟨F, ow, ρ, so, fl, so', r0, rs, e, k⟩ := h
  obtain ⟨⟨ds, so1⟩, e1, e2⟩ := Option.bind_eq_some_iff.mp e
  refine ⟨F, ow, ρ, so, ds, so1, r0, rs, e1, fun F1 H1 J G Y r1 s1 wk hG hY => ?_⟩
  refine for_it wk (fun i σ' H' => ∃ F2 ow2 ρ2 so2, RelO K F2 H' ow2 so2 ∧ RelS K F2 ow2 σ' ρ2 ∧ Stp ow F1 H1 F2 H' ∧ OwTo p ow H1 ow2 ∧ forGo t body (ds.drop i) ρ2 so2 = some (fl, so'))
    ⟨F1, ow, ρ, so1, r1, rs.mono s1.fz, Stp.refl _ _ _, OwTo.refl _ _ _, e2⟩ (fun i σ' H' _ ⟨F2, ow2, ρ2, so2, r2, _, s2, _⟩ => hG F2 H' s2.fz r2.sub) (fun i x σ' H' H3 hi ⟨F2, ow2, ρ2, so2, r2, rs2, s2, t2, e3⟩ y => ?_) (fun σ' H' ⟨F2, ow2, ρ2, so2, r2, rs2, s2, t2, e3⟩ => ?_)
  · obtain ⟨F3, d, hd, s3, e3', dx⟩ := hY i F2 H' x H3 hi s2.fz r2.sub y
    rw [List.drop_eq_getElem_cons hi] at e3
    have ed : ds[i] = d := by rw [List.getElem?_eq_getElem hi] at hd; exact Option.some.inj hd
    rw [ed] at e3
    obtain ⟨ρ3, e4, e5⟩ := Option.bind_eq_some_iff.mp (show (putT t d ρ2).bind _ = _ from e3)
    obtain ⟨⟨fl3, so3⟩, e6, e7⟩ := Option.bind_eq_some_iff.mp e5
    have r3 := r2.grow s3 e3'
    refine put_okI r3.sub t hw d ρ2 ρ3 x σ' _ dx (rs2.mono s3.fz) e4 fun σ3 rs3 _ => ⟨F3, ow2, ρ3, so2, fl3, so3, r3, rs3, e6, fun F4 H4 ow4 r4 s4 t4 => ?_⟩
    have s23 : Stp ow F1 H1 F3 H3 := s2.next t2 s3.some_of
    have s04 : Stp ow F1 H1 F4 H4 := s23.next t2 s4
    have t23 : OwTo p ow H1 ow4 := OwTo.trans s23 t2 t4
    cases fl3 with
    | nx ρ4 => exact fun σ4 rs4 => ⟨F4, ow4, ρ4, so3, r4, rs4, s04, t23, e7⟩
    | ct ρ4 => exact fun σ4 rs4 => ⟨F4, ow4, ρ4, so3, r4, rs4, s04, t23, e7⟩
    | bk ρ4 => cases e7; exact k F4 H4 ow4 r4 (s1.trans s04) (OwTo.trans s1 (OwTo.refl _ _ _) t23)
    | ex n => cases e7; exact k F4 H4 ow4 r4 (s1.trans s04) (OwTo.trans s1 (OwTo.refl _ _ _) t23)
    | rt d' => cases e7; exact k F4 H4 ow4 r4 (s1.trans s04) (OwTo.trans s1 (OwTo.refl _ _ _) t23)
  · rw [List.drop_length] at e3
    cases e3
    exact k F2 H' ow2 r2 (s1.trans s2) (OwTo.trans s1 (OwTo.refl _ _ _) t2) σ' rs2

/-! ### while, so many turns at most -/
def whGo (c : DB) (body : DS) : Nat → Slots → Sto → Option (Fl × Sto)
  | 0, _, _ => none
  | n + 1, ρ, so => (c ρ so).bind fun b => if b.1 = true then (body ρ b.2).bind fun q => match q.1 with
      | .nx ρ2 => whGo c body n ρ2 q.2
      | .ct ρ2 => whGo c body n ρ2 q.2
      | .bk ρ2 => some (.nx ρ2, q.2)
      | .rt d => some (.rt d, q.2)
      | .ex n => some (.ex n, q.2)
    else some (.nx ρ, b.2)
def sWhile (n : Nat) (c : DB) (body : DS) : DS := whGo c body n
theorem tOf_while {n : Nat} {c : DB} {body : DS} (D : Ends) (σ : L2.St) (H : Hp) (h : tOfS K p W (sWhile n c body) D σ H) : tWhile (tOfB K c) (tOfS K p W body) D σ H := by
  obtain ⟨F, ow, ρ, so, fl, so', r0, rs, e, k⟩ := h
  refine ⟨fun m σ' H' => ∃ F2 ow2 ρ2 so2, RelO K F2 H' ow2 so2 ∧ RelS K F2 ow2 σ' ρ2 ∧ Stp ow F H F2 H' ∧ OwTo p ow H ow2 ∧ whGo c body m ρ2 so2 = some (fl, so'), ⟨n, F, ow, ρ, so, r0, rs, Stp.refl _ _ _, OwTo.refl _ _ _, e⟩, ?_⟩
  rintro m σ' H' ⟨F2, ow2, ρ2, so2, r2, rs2, s2, t2, e2⟩
  cases m with
  | zero => cases e2
  | succ m =>
    obtain ⟨⟨b, so3⟩, e3, e4⟩ := Option.bind_eq_some_iff.mp (show (c ρ2 so2).bind _ = _ from e2)
    refine ⟨F2, ow2, ρ2, so2, b, so3, r2, rs2, e3, fun F3 H3 r3 s3 => ?_⟩
    have s03 : Stp ow F H F3 H3 := s2.next t2 s3
    cases b with
    | true =>
      obtain ⟨⟨fl4, so4⟩, e5, e6⟩ := Option.bind_eq_some_iff.mp (show (body ρ2 so3).bind _ = _ from e4)
      refine ⟨fun σ4 H4 => ∃ F4 ow4 ρ4 so4, RelO K F4 H4 ow4 so4 ∧ RelS K F4 ow4 σ4 ρ4 ∧ Stp ow F H F4 H4 ∧ OwTo p ow H ow4 ∧ whGo c body m ρ4 so4 = some (fl, so'), fun σ4 H4 q => ⟨m, Nat.lt_succ_self m, q⟩, F3, ow2, ρ2, so3, fl4, so4, r3, rs2.mono s3.fz, e5, fun F4 H4 ow4 r4 s4 t4 => ?_⟩
      have s04 : Stp ow F H F4 H4 := s03.next t2 s4
      have t04 : OwTo p ow H ow4 := OwTo.trans s03 t2 t4
      cases fl4 with
      | nx ρ4 => exact fun σ4 rs4 => ⟨F4, ow4, ρ4, so4, r4, rs4, s04, t04, e6⟩
      | ct ρ4 => exact fun σ4 rs4 => ⟨F4, ow4, ρ4, so4, r4, rs4, s04, t04, e6⟩
      | bk ρ4 => cases e6; exact k F4 H4 ow4 r4 s04 t04
      | ex n => cases e6; exact k F4 H4 ow4 r4 s04 t04
      | rt d' => cases e6; exact k F4 H4 ow4 r4 s04 t04
    | false =>
      cases e4
      exact k F3 H3 ow2 r3 s03 t2 σ' (rs2.mono s3.fz)
end
section
variable {X : Cx} {p : Nat} {W : Str → Hp → Prop} {st : Stmt} {rest body orelse : List Stmt} {f g : DS} {pos : Pos} {e c : Expr} {fe : DE} {fb : DB}
theorem pdss_nil : PDSs X p W [] sNext := pss_nil.imp tOf_next
theorem pdss_cons (h1 : PDS X p W st f) (h2 : PDSs X p W rest g) : PDSs X p W (st :: rest) (sSeq f g) := (pss_cons h1 h2).imp tOf_seq
theorem pdss_one (h1 : PDS X p W st f) : PDSs X p W [st] f := pss_one h1
theorem pds_pass : PDS X p W (.Pass pos) sNext := ps_pass.imp tOf_next
theorem pds_break : PDS X p W (.Break pos) sBreak := ps_break.imp tOf_break
theorem pds_cont : PDS X p W (.Continue pos) sCont := ps_continue.imp tOf_cont
theorem pds_never : PDS X p W st sNone := ps_never.imp fun D σ H h => by obtain ⟨_, _, _, _, _, _, _, _, e, _⟩ := h; cases e
theorem pds_expr (h : PD X e fe) (hs : swapsWith e none pos.line X.env = pure false := by rfl) : PDS X p W (.Expr e pos) (sDrop fe) := (ps_expr h hs).imp tOf_drop
theorem pds_ret (h : PD X e fe) : PDS X p W (.Return (some e) pos) (sRet fe) := (ps_ret h).imp tOf_ret
theorem pds_retN : PDS X p W (.Return none pos) sRetN := ps_retN.imp tOf_retN
theorem pds_if (hc : PDB X c fb) (ha : PDSs X p W body f) (hb : PDSs X p W orelse g) : PDS X p W (.If c body orelse pos) (sIf fb f g) := (ps_if hc ha hb).imp tOf_ifS
theorem pds_asg {tg : Expr} {t : Tg} (he : PD X e fe) (hg : PDG X tg t) (hs : swapsWithSole [tg] e pos.line X.env = pure false := by rfl) (hw : swappedStores [tg] e X.env = pure none := by rfl)
    (h1 : (assignEach [tg] X.env).map (·.2) = [assign tg X.env] := by rfl) : PDS X p W (.Assign [tg] e pos) (sSet t fe) := (ps_asg he hg hs hw h1).imp tOf_set
theorem pds_set {i : Nat} {x : Str} {pos' : Pos} (hN : X.N.Nodup) (hi : X.N[i]? = some x) (hx : Loc X.env.scope x) (he : PD X e fe) (hs : swapsWith e (some (.Name x pos')) pos.line X.env = pure false := by rfl) (hf : X.fn x = true ∨ X.env.scope.names.lookup x = some .local := by first | exact .inl rfl | exact .inr rfl | assumption) :
    PDS X p W (.Assign [.Name x pos'] e pos) (sSet (.nm i) fe) := (ps_set hN hi hx he hs hf).imp (tOf_set (t := .nm i))
theorem pds_new {i j : Nat} {x : Str} {pos' : Pos} {fl : DL} (hj : p ≤ j) (hN : X.N.Nodup) (hi : X.N[i]? = some x) (hx : Loc X.env.scope x) (he : PDN X e fl) (hs : swapsWith e (some (.Name x pos')) pos.line X.env = pure false := by rfl) (hf : X.fn x = true ∨ X.env.scope.names.lookup x = some .local := by first | exact .inl rfl | exact .inr rfl | assumption) :
    PDS X p W (.Assign [.Name x pos'] e pos) (sNew i j fl) := (ps_set hN hi hx he hs hf).imp (tOf_new hj)
theorem pds_for {tg iter : Expr} {t : Tg} {fi : DL} (hp : PassesOwn (model X.prog X.w) X.A X.env X.xe) (hc : X.calm = true) (hi : PDI X tg iter fi) (hg : PDG X tg t) (hb : PDSs X p W body f)
    (hs : ∀ x, foldedSetIterable iter X.env x = pure x := by intro _; rfl) (hw : isTup tg = true → isTp t = true := by first | exact fun _ => rfl | exact fun h => nomatch (show false = true from h)) : PDS X p W (.For tg iter body [] pos) (sFor t fi f) := (ps_for hp hc hi hg hb hs).imp (tOf_for hw)
theorem pds_while (n : Nat) (hp : PassesOwn (model X.prog X.w) X.A X.env X.xe) (hc : PDB X c fb) (hb : PDSs X p W body f) : PDS X p W (.While c body [] pos) (sWhile n fb f) := (ps_while hp hc hb).imp tOf_while
end
end MP
namespace MP
open PySem PySem.Spec PyProof.Rows L2 RL

/-! ### comprehensions -/
def lcGo (body : PyData → Sto → Option (List PyData × Sto)) : List PyData → Sto → Option (List PyData × Sto)
  | [], so => some ([], so)
  | d :: r, so => (body d so).bind fun p => (lcGo body r p.2).bind fun q => some (p.1 ++ q.1, q.2)
def bYes : DB := fun _ so => some (true, so)
def lcBody (t : Tg) (tt : DB) (te : DE) (ρ : Slots) (d : PyData) (so : Sto) : Option (List PyData × Sto) :=
  (putT t d ρ).bind fun ρ1 => (tt ρ1 so).bind fun b => if b.1 = true then (te ρ1 b.2).map fun y => ([y.1], y.2) else some ([], b.2)
def nLc (vs : List Nat) (t : Tg) (fi : DL) (tt : DB) (te : DE) : DL := fun ρ so => (fi ρ so).bind fun p => (lcGo (lcBody t tt te (wipeS ρ vs)) p.1 p.2).bind fun q => if q.1.length ≤ LIM then some q else none
def lcBody2 (t : Tg) (tt : DB) (vs1 : List Nat) (fi1 : DL) (t1 : Tg) (tt1 : DB) (te : DE) (ρ : Slots) (d : PyData) (so : Sto) : Option (List PyData × Sto) :=
  (putT t d ρ).bind fun ρ1 => (tt ρ1 so).bind fun b => if b.1 = true then (fi1 ρ1 b.2).bind fun p => lcGo (lcBody t1 tt1 te (wipeS ρ1 vs1)) p.1 p.2 else some ([], b.2)
def nLc2 (vs vs1 : List Nat) (t : Tg) (fi : DL) (tt : DB) (fi1 : DL) (t1 : Tg) (tt1 : DB) (te : DE) : DL := fun ρ so => (fi ρ so).bind fun p => (lcGo (lcBody2 t tt vs1 fi1 t1 tt1 te (wipeS ρ vs)) p.1 p.2).bind fun q => if q.1.length ≤ LIM then some q else none
section
variable {K : PySem.W.Frag}
/-- a list that is no one's yet is changed -/
theorem RelO.out {F H : Hp} {ow : Ads} {so : Sto} {D : Addr} {o : HO} (r : RelO K F H ow so) (f : F D = none) (n : some D ∉ ow) : RelO K F (upd H D o) ow so := by
  refine ⟨fun b u hb => ?_, r.len, fun k a w ha hw => ?_, r.inj, fun k a h => live_upd (r.old k a h)⟩
  · rw [upd_ne (ne_of_none hb f)]
    exact r.sub b u hb
  · have q := r.own k a w ha hw
    cases w with
    | no => cases a <;> trivial
    | lst es =>
      cases a with
      | none => exact q.elim
      | some a =>
        obtain ⟨fb, us, hu, hd2⟩ := q
        have nab : a ≠ D := fun e => n (by rw [← e]; exact List.mem_of_getElem? ha)
        exact ⟨fb, us, by rw [upd_ne nab]; exact hu, hd2⟩
    | dct es =>
      cases a with
      | none => exact q.elim
      | some a =>
        obtain ⟨fb, us, hu, hd2⟩ := q
        have nab : a ≠ D := fun e => n (by rw [← e]; exact List.mem_of_getElem? ha)
        exact ⟨fb, us, by rw [upd_ne nab]; exact hu, hd2⟩
    | fz d =>
      cases a with
      | none => exact q.elim
      | some a => exact ⟨live_upd q.1, q.2⟩
/-- the list that a comprehension makes, so far -/
structure Acc (F0 H0 F H : Hp) (ow : Ads) (so : Sto) (D : Addr) (acc : List V) (ds : List PyData) : Prop where
  rel : RelO K F H ow so
  stp : Stp ow F0 H0 F H
  lst : H D = some (.lst acc)
  fre : F D = none
  all : DqAll K F acc ds
theorem Acc.step {F0 H0 F H F' H' : Hp} {ow : Ads} {so so' : Sto} {D : Addr} {acc : List V} {ds : List PyData} (A : Acc (K := K) F0 H0 F H ow so D acc ds) (n : some D ∉ ow) (r : RelO K F' H' ow so') (s : Stp ow F H F' H') : Acc (K := K) F0 H0 F' H' ow so' D acc ds :=
  ⟨r, A.stp.trans s, s.keep D _ n A.lst, s.own D _ n A.lst A.fre, dqAll_same s.fz _ _ A.all⟩
theorem Acc.push {F0 H0 F H : Hp} {ow : Ads} {so : Sto} {D : Addr} {acc : List V} {ds : List PyData} {y : V} {d : PyData} (A : Acc (K := K) F0 H0 F H ow so D acc ds) (n : some D ∉ ow) (h0 : H0 D = none) (hy : Dq K F y d) :
    Acc (K := K) F0 H0 F (upd H D (.lst (acc ++ [y]))) ow so D (acc ++ [y]) (ds ++ [d]) := by
  refine ⟨A.rel.out A.fre n, ⟨A.stp.fz, fun a o hn h => ?_, A.stp.own, fun a h => live_upd (A.stp.live a h)⟩, upd_same, A.fre, A.all.app (.cons hy .nil)⟩
  rw [upd_ne (ne_of_none h h0)]
  exact A.stp.keep a o hn h
theorem wipe_wipe (σ : L2.St) (vs : List Nat) : L2.wipe (L2.wipe σ vs) vs = L2.wipe σ vs := by
  refine List.ext_getElem? fun j => ?_
  rw [wipe_get, wipe_length]
  by_cases h : j ∈ vs ∧ j < σ.length
  · rw [if_pos h, wipe_get, if_pos h]
  · rw [if_neg h]
/-- a turn's expression and the new item -/
theorem lc_turn {w : Bool} {t : Tg} {tt : DB} {te : DE} {vs : List Nat} {F0 H0 F H F3 H3 : Hp} {ow : Ads} {so so1 : Sto} {D : Addr} {acc : List V} {ds ys rest : List PyData} {σ : L2.St} {ρ : Slots} {x : V} {d : PyData} {Nx : Hp → Prop}
    (hw : w = true → isTp t = true) (hv : ∀ i ∈ idT t, i ∈ vs) (n : some D ∉ ow) (h0 : H0 D = none) (A : Acc (K := K) F0 H0 F H ow so D acc ds) (rs : RelS K F ow (L2.wipe σ vs) ρ) (s3 : Stp [] F H F3 H3) (e3 : Same F3 H3) (dx : DqI K w F3 x d)
    (e : lcBody t tt te ρ d so = some (ys, so1)) (hl : (ds ++ ys ++ rest).length ≤ LIM) (k : ∀ F' H' acc', Same F F' → Acc (K := K) F0 H0 F' H' ow so1 D acc' (ds ++ ys) → RelS K F' ow (L2.wipe σ vs) ρ → Nx H') :
    gOf K t x (L2.wipe σ vs) H3 fun σ2 H2 => L2.wipe σ2 vs = L2.wipe σ vs ∧ tOfB K tt σ2 H2 fun b H3 =>
      if b = true then tOf K te σ2 H3 fun y H4 => ∃ acc, H4 D = some (.lst acc) ∧ acc.length < sizeLine ∧ Nx (upd H4 D (.lst (acc ++ [y]))) else Nx H3 := by
  obtain ⟨ρ1, e1, e2⟩ := Option.bind_eq_some_iff.mp e
  obtain ⟨⟨b, so2⟩, e4, e5⟩ := Option.bind_eq_some_iff.mp e2
  have A3 := A.step n (A.rel.grow s3 e3) s3.some_of
  have ww := wipe_wipe σ vs
  refine put_okI A3.rel.sub t hw d ρ ρ1 x _ _ dx (rs.mono s3.fz) e1 fun σ2 rs2 w2 => ⟨by rw [w2 vs hv, ww], F3, ow, ρ1, so, b, so2, A3.rel, rs2, e4, fun F4 H4 r4 s4 => ?_⟩
  have A4 := A3.step n r4 s4
  have rs0 : ∀ {F'}, Same F3 F' → RelS K F' ow (L2.wipe σ vs) ρ := fun h => rs.mono (s3.fz.trans h)
  cases b with
  | true =>
    obtain ⟨⟨y, so3⟩, e6, e7⟩ := Option.map_eq_some_iff.mp e5
    cases e7
    refine ⟨F4, ow, ρ1, so2, y, _, r4, rs2.mono s4.fz, e6, fun F5 H5 v r5 s5 d5 => ?_⟩
    have A5 := A4.step n r5 s5
    refine ⟨acc, A5.lst, ?_, k F5 _ _ (s3.fz.trans (s4.fz.trans s5.fz)) (A5.push n h0 d5) (rs0 (s4.fz.trans s5.fz))⟩
    rw [A5.all.len]
    rw [List.length_append, List.length_append] at hl
    exact lim_lt (by omega)
  | false =>
    cases e5
    rw [List.append_nil] at k
    exact k F4 H4 acc (s3.fz.trans s4.fz) A4 (rs0 s4.fz)
theorem lcGo_cons {body : PyData → Sto → Option (List PyData × Sto)} {d : PyData} {r tot : List PyData} {so soE : Sto} (e : lcGo body (d :: r) so = some (tot, soE)) : ∃ ys so1 rest, body d so = some (ys, so1) ∧ lcGo body r so1 = some (rest, soE) ∧ tot = ys ++ rest := by
  obtain ⟨⟨ys, so1⟩, e1, e2⟩ := Option.bind_eq_some_iff.mp (show (body d so).bind _ = _ from e)
  obtain ⟨⟨rest, so2⟩, e3, e4⟩ := Option.bind_eq_some_iff.mp e2
  cases e4
  exact ⟨ys, so1, rest, e1, e3, rfl⟩
theorem tOf_lc {w : Bool} {vs : List Nat} {t : Tg} {fi : DL} {tt : DB} {te : DE} (hw : w = true → isTp t = true) (hv : ∀ i ∈ idT t, i ∈ vs) (σ : L2.St) (H : Hp) (Q : VK) (h : tOfN K (nLc vs t fi tt te) σ H Q) : tLc (iOf K w fi) (gOf K t) (tOfB K tt) (tOf K te) vs σ H Q := by
  obtain ⟨F, ow, ρ, so, ds, so', r0, rs, e, k⟩ := h
  obtain ⟨⟨items, so1⟩, e1, e2⟩ := Option.bind_eq_some_iff.mp e
  obtain ⟨⟨tot, so2⟩, e3, e4⟩ := Option.bind_eq_some_iff.mp e2
  obtain ⟨hl, e5⟩ := if_some e4
  cases e5
  refine ⟨F, ow, ρ, so, items, so1, r0, rs, e1, fun F1 H1 J G Y r1 s1 wk hG hY D nD => ?_⟩
  have nD0 : H D = none := by
    cases q : H D with
    | none => rfl
    | some o => exact absurd nD (s1.live D (by rw [q]; exact nofun))
  have nw : some D ∉ ow := fun m => by
    obtain ⟨j, hj⟩ := List.mem_iff_getElem?.mp m
    exact r1.old j D hj nD
  have fD : F1 D = none := r1.sub.free nD
  refine walk_any wk (body := fun x H' Nx => gOf K t x (L2.wipe σ vs) H' fun σ2 H2 => L2.wipe σ2 vs = L2.wipe σ vs ∧ tOfB K tt σ2 H2 fun b H3 =>
      if b = true then tOf K te σ2 H3 fun y H4 => ∃ acc, H4 D = some (.lst acc) ∧ acc.length < sizeLine ∧ Nx (upd H4 D (.lst (acc ++ [y]))) else Nx H3)
    (fun i H' => ∃ F2 so_i acc dacc rest, Acc (K := K) F1 H1 F2 H' ow so_i D acc dacc ∧ RelS K F2 ow (L2.wipe σ vs) (wipeS ρ vs) ∧ lcGo (lcBody t tt te (wipeS ρ vs)) (items.drop i) so_i = some (rest, so') ∧ dacc ++ rest = ds)
    ⟨F1, so1, [], [], ds, ⟨r1.out fD nw, ⟨Same.refl _, fun a o _ h => by rw [upd_ne (ne_of_none h nD)]; exact h, fun _ _ _ _ h => h, fun a h => live_upd h⟩, upd_same, fD, .nil⟩, (rs.mono s1.fz).wipe vs, e3, rfl⟩
    (fun i H' _ ⟨F2, so_i, acc, dacc, rest, A, _⟩ => hG F2 H' A.stp.fz A.rel.sub) (fun i x H2 H3 hi ⟨F2, so_i, acc, dacc, rest, A, rs2, e6, e7⟩ y => ?_) (fun H2 ⟨F2, so_i, acc, dacc, rest, A, rs2, e6, e7⟩ => ?_)
  · obtain ⟨F3, d, hd, s3, e3', dx⟩ := hY i F2 H2 x H3 hi A.stp.fz A.rel.sub y
    rw [List.drop_eq_getElem_cons hi] at e6
    have ed : items[i] = d := by rw [List.getElem?_eq_getElem hi] at hd; exact Option.some.inj hd
    rw [ed] at e6
    obtain ⟨ys, so3, rest', e8, e9, rfl⟩ := lcGo_cons e6
    refine lc_turn (rest := rest') hw hv nw nD A rs2 s3 e3' dx e8 (by rw [List.append_assoc, e7]; exact hl) fun F' H' acc' _ A' rs' => ⟨F', so3, acc', _, rest', A', rs', e9, by rw [List.append_assoc]; exact e7⟩
  · rw [List.drop_length] at e6
    cases e6
    rw [List.append_nil] at e7
    subst e7
    exact k F2 H2 D acc A.rel (s1.trans A.stp) nD0 A.fre A.lst A.all
theorem tOf_lc2 {w w1 : Bool} {vs vs1 : List Nat} {t t1 : Tg} {fi fi1 : DL} {tt tt1 : DB} {te : DE} (hw : w = true → isTp t = true) (hw1 : w1 = true → isTp t1 = true) (hv : ∀ i ∈ idT t, i ∈ vs) (hv1 : ∀ i ∈ idT t1, i ∈ vs1) (σ : L2.St) (H : Hp) (Q : VK) (h : tOfN K (nLc2 vs vs1 t fi tt fi1 t1 tt1 te) σ H Q) :
    tLc2 (iOf K w fi) (gOf K t) (tOfB K tt) (iOf K w1 fi1) (gOf K t1) (tOfB K tt1) (tOf K te) vs vs1 σ H Q := by
  obtain ⟨F, ow, ρ, so, ds, so', r0, rs, e, k⟩ := h
  obtain ⟨⟨items, so1⟩, e1, e2⟩ := Option.bind_eq_some_iff.mp e
  obtain ⟨⟨tot, so2⟩, e3, e4⟩ := Option.bind_eq_some_iff.mp e2
  obtain ⟨hl, e5⟩ := if_some e4
  cases e5
  refine ⟨F, ow, ρ, so, items, so1, r0, rs, e1, fun F1 H1 J G Y r1 s1 wk hG hY D nD => ?_⟩
  have nD0 : H D = none := by
    cases q : H D with
    | none => rfl
    | some o => exact absurd nD (s1.live D (by rw [q]; exact nofun))
  have nw : some D ∉ ow := fun m => by
    obtain ⟨j, hj⟩ := List.mem_iff_getElem?.mp m
    exact r1.old j D hj nD
  have fD : F1 D = none := r1.sub.free nD
  refine walk_any wk (body := fun x H' Nx => gOf K t x (L2.wipe σ vs) H' fun σ2 H2 => L2.wipe σ2 vs = L2.wipe σ vs ∧ tOfB K tt σ2 H2 fun b H3 =>
      if b = true then iOf K w1 fi1 σ2 H3 fun J1 H4 => ∃ W1 : Nat → Nat → Hp → Prop, (∃ m, W1 0 m H4) ∧ ∀ j k H, W1 j k H →
      (J1.stop j H ∧ Nx H) ∨ (J1.go j H ∧ ∃ Nx1 : Hp → Prop, (∀ H', Nx1 H' → ∃ k', k' < k ∧ W1 (j + 1) k' H') ∧ ∀ x H', J1.yld j H x H' → gOf K t1 x (L2.wipe σ2 vs1) H' fun σ3 H5 => L2.wipe σ3 vs1 = L2.wipe σ2 vs1 ∧ tOfB K tt1 σ3 H5 fun b H6 =>
        if b = true then tOf K te σ3 H6 fun y H7 => ∃ acc, H7 D = some (.lst acc) ∧ acc.length < sizeLine ∧ Nx1 (upd H7 D (.lst (acc ++ [y]))) else Nx1 H6)
      else Nx H3)
    (fun i H' => ∃ F2 so_i acc dacc rest, Acc (K := K) F1 H1 F2 H' ow so_i D acc dacc ∧ RelS K F2 ow (L2.wipe σ vs) (wipeS ρ vs) ∧ lcGo (lcBody2 t tt vs1 fi1 t1 tt1 te (wipeS ρ vs)) (items.drop i) so_i = some (rest, so') ∧ dacc ++ rest = ds)
    ⟨F1, so1, [], [], ds, ⟨r1.out fD nw, ⟨Same.refl _, fun a o _ h => by rw [upd_ne (ne_of_none h nD)]; exact h, fun _ _ _ _ h => h, fun a h => live_upd h⟩, upd_same, fD, .nil⟩, (rs.mono s1.fz).wipe vs, e3, rfl⟩
    (fun i H' _ ⟨F2, so_i, acc, dacc, rest, A, _⟩ => hG F2 H' A.stp.fz A.rel.sub) (fun i x H2 H3 hi ⟨F2, so_i, acc, dacc, rest, A, rs2, e6, e7⟩ y => ?_) (fun H2 ⟨F2, so_i, acc, dacc, rest, A, rs2, e6, e7⟩ => ?_)
  · obtain ⟨F3, d, hd, s3, e3', dx⟩ := hY i F2 H2 x H3 hi A.stp.fz A.rel.sub y
    rw [List.drop_eq_getElem_cons hi] at e6
    have ed : items[i] = d := by rw [List.getElem?_eq_getElem hi] at hd; exact Option.some.inj hd
    rw [ed] at e6
    obtain ⟨ys, so3, rest', e8, e9, rfl⟩ := lcGo_cons e6
    obtain ⟨ρ1, e10, e11⟩ := Option.bind_eq_some_iff.mp (show (putT t d (wipeS ρ vs)).bind _ = _ from e8)
    obtain ⟨⟨b, so4⟩, e12, e13⟩ := Option.bind_eq_some_iff.mp e11
    have A3 := A.step nw (A.rel.grow s3 e3') s3.some_of
    have ww := wipe_wipe σ vs
    refine put_okI A3.rel.sub t hw d _ ρ1 x _ _ dx (rs2.mono s3.fz) e10 fun σ2 rs3 w2 => ⟨by rw [w2 vs hv, ww], F3, ow, ρ1, so_i, b, so4, A3.rel, rs3, e12, fun F4 H4 r4 s4 => ?_⟩
    have A4 := A3.step nw r4 s4
    have rs0 : ∀ {F'}, Same F3 F' → RelS K F' ow (L2.wipe σ vs) (wipeS ρ vs) := fun h => rs2.mono (s3.fz.trans h)
    cases b with
    | false =>
      cases e13
      rw [List.nil_append] at e7
      exact ⟨F4, _, acc, dacc, rest', A4, rs0 s4.fz, e9, e7⟩
    | true =>
      obtain ⟨⟨items1, so5⟩, e14, e15⟩ := Option.bind_eq_some_iff.mp e13
      refine ⟨F4, ow, ρ1, so4, items1, so5, r4, rs3.mono s4.fz, e14, fun F5 H5 J1 G1 Y1 r5 s5 wk1 hG1 hY1 => ?_⟩
      have A5 := A4.step nw r5 s5
      have rs5 : RelS K F5 ow σ2 ρ1 := rs3.mono (s4.fz.trans s5.fz)
      refine walk_any wk1 (body := fun x H' Nx1 => gOf K t1 x (L2.wipe σ2 vs1) H' fun σ3 H5 => L2.wipe σ3 vs1 = L2.wipe σ2 vs1 ∧ tOfB K tt1 σ3 H5 fun b H6 =>
          if b = true then tOf K te σ3 H6 fun y H7 => ∃ acc, H7 D = some (.lst acc) ∧ acc.length < sizeLine ∧ Nx1 (upd H7 D (.lst (acc ++ [y]))) else Nx1 H6)
        (fun j H' => ∃ F6 so_j acc dacc' rest1, Acc (K := K) F1 H1 F6 H' ow so_j D acc dacc' ∧ Same F5 F6 ∧ RelS K F6 ow (L2.wipe σ2 vs1) (wipeS ρ1 vs1) ∧ lcGo (lcBody t1 tt1 te (wipeS ρ1 vs1)) (items1.drop j) so_j = some (rest1, so3) ∧ dacc' ++ rest1 = dacc ++ ys)
        ⟨F5, so5, acc, dacc, ys, A5, Same.refl _, rs5.wipe vs1, e15, rfl⟩ (fun j H' _ ⟨F6, so_j, acc, dacc', rest1, A6, q6, _⟩ => hG1 F6 H' q6 A6.rel.sub) (fun j x H6 H7 hj ⟨F6, so_j, acc, dacc', rest1, A6, q6, rs6, e16, e17⟩ y => ?_) (fun H6 ⟨F6, so_j, acc, dacc', rest1, A6, q6, rs6, e16, e17⟩ => ?_)
      · obtain ⟨F7, d', hd', s7, e7', dx'⟩ := hY1 j F6 H6 x H7 hj q6 A6.rel.sub y
        rw [List.drop_eq_getElem_cons hj] at e16
        have ed' : items1[j] = d' := by rw [List.getElem?_eq_getElem hj] at hd'; exact Option.some.inj hd'
        rw [ed'] at e16
        obtain ⟨ys', so6, rest2, e18, e19, rfl⟩ := lcGo_cons e16
        refine lc_turn (rest := rest2 ++ rest') hw1 hv1 nw nD A6 rs6 s7 e7' dx' e18 ?_ fun F' H' acc' q' A' rs' => ⟨F', so6, acc', _, rest2, A', q6.trans q', rs', e19, by rw [List.append_assoc]; exact e17⟩
        have : dacc' ++ ys' ++ (rest2 ++ rest') = ds := by rw [← e7, ← List.append_assoc dacc, ← e17]; simp [List.append_assoc]
        rw [this]
        exact hl
      · rw [List.drop_length] at e16
        cases e16
        rw [List.append_nil] at e17
        subst e17
        refine ⟨F6, _, acc, _, rest', A6, rs0 (s4.fz.trans (s5.fz.trans q6)), e9, by rw [List.append_assoc]; exact e7⟩
  · rw [List.drop_length] at e6
    cases e6
    rw [List.append_nil] at e7
    subst e7
    exact k F2 H2 D acc A.rel (s1.trans A.stp) nD0 A.fre A.lst A.all
end
abbrev PDTs (X : Cx) (ifs : List Expr) (f : DB) : Prop := PTs X ifs (tOfB X.K f)
section
variable {X : Cx} {elt tg iter tg1 iter1 c : Expr} {ifs ifs1 : List Expr} {scope : Scope} {own : List (Str × Nat)} {vs1 : List Nat} {pos : Pos} {fi fi1 : DL} {t t1 : Tg} {tt tt1 : DB} {te : DE}
theorem pdts_nil : PDTs X [] bYes := ⟨fun pins s σ H Q I h => pts_nil.run pins s σ H Q I (by
  obtain ⟨F, ow, ρ, so, b, so', r0, rs, e, k⟩ := h
  cases e
  exact k F H r0 (Stp.refl _ _ _))⟩
theorem pdts_one {f : DB} (h : PDB X c f) : PDTs X [c] f := pts_one h
theorem pdn_lc (hc : X.calm = true) (hN : X.N.Nodup) (hi : PDI X tg iter fi) (ok : BlkOk X.N X.env.scope scope own) (hv : ∀ i ∈ idT t, i ∈ own.map (·.2))
    (hg : ∀ (s : Shared) (H : Hp) (C : Addr) (cl : List (Str × Addr)) (fp : List Addr), PDG (X.blk s H scope (compEnvC scope cl C X.env) fp) tg t) (ht : ∀ (s : Shared) (H : Hp) (C : Addr) (cl : List (Str × Addr)) (fp : List Addr), PDTs (X.blk s H scope (compEnvC scope cl C X.env) fp) ifs tt)
    (he : ∀ (s : Shared) (H : Hp) (C : Addr) (cl : List (Str × Addr)) (fp : List Addr), PD (X.blk s H scope (compEnvC scope cl C X.env) fp) elt te) (hs : ∀ x, foldedSetIterable iter X.env x = pure x := by intro _; rfl) (hw : isTup tg = true → isTp t = true := by first | exact fun _ => rfl | exact fun h => nomatch (show false = true from h)) :
    PDN X (.ListComp elt [⟨tg, iter, ifs, 0⟩] scope pos) (nLc (own.map (·.2)) t fi tt te) := (pe_lc hc hN hi ok hg ht he hs).imp (tOf_lc hw hv)
theorem pdn_lc2 (hc : X.calm = true) (hN : X.N.Nodup) (hi : PDI X tg iter fi) (ok : BlkOk X.N X.env.scope scope own) (hwv : ∀ i ∈ vs1, i ∈ own.map (·.2)) (hv : ∀ i ∈ idT t, i ∈ own.map (·.2)) (hv1 : ∀ i ∈ idT t1, i ∈ vs1)
    (hg : ∀ (s : Shared) (H : Hp) (C : Addr) (cl : List (Str × Addr)) (fp : List Addr), PDG (X.blk s H scope (compEnvC scope cl C X.env) fp) tg t) (ht : ∀ (s : Shared) (H : Hp) (C : Addr) (cl : List (Str × Addr)) (fp : List Addr), PDTs (X.blk s H scope (compEnvC scope cl C X.env) fp) ifs tt)
    (hi1 : ∀ (s : Shared) (H : Hp) (C : Addr) (cl : List (Str × Addr)) (fp : List Addr), PDI (X.blk s H scope (compEnvC scope cl C X.env) fp) tg1 iter1 fi1)
    (hg1 : ∀ (s : Shared) (H : Hp) (C : Addr) (cl : List (Str × Addr)) (fp : List Addr), PDG (X.blk s H scope (compEnvC scope cl C X.env) fp) tg1 t1) (ht1 : ∀ (s : Shared) (H : Hp) (C : Addr) (cl : List (Str × Addr)) (fp : List Addr), PDTs (X.blk s H scope (compEnvC scope cl C X.env) fp) ifs1 tt1)
    (he : ∀ (s : Shared) (H : Hp) (C : Addr) (cl : List (Str × Addr)) (fp : List Addr), PD (X.blk s H scope (compEnvC scope cl C X.env) fp) elt te) (hs : ∀ x, foldedSetIterable iter X.env x = pure x := by intro _; rfl) (hs1 : ∀ env x, foldedSetIterable iter1 env x = pure x := by intro _ _; rfl) (hw : isTup tg = true → isTp t = true := by first | exact fun _ => rfl | exact fun h => nomatch (show false = true from h)) (hw1 : isTup tg1 = true → isTp t1 = true := by first | exact fun _ => rfl | exact fun h => nomatch (show false = true from h)) :
    PDN X (.ListComp elt [⟨tg, iter, ifs, 0⟩, ⟨tg1, iter1, ifs1, 0⟩] scope pos) (nLc2 (own.map (·.2)) vs1 t fi tt fi1 t1 tt1 te) := (pe_lc2 hc hN hi ok hwv hg ht hi1 hg1 ht1 he hs hs1).imp (tOf_lc2 hw hw1 hv hv1)
/-- x = [..] on one line, x a plain local: as a list of one's own, or at once as data -/
theorem tOf_asgN {K : PySem.W.Frag} {p i : Nat} {W : Str → Hp → Prop} {f : DL} (D : Ends) (σ : L2.St) (H : Hp) (h : tOfS K p W (sSet (.nm i) (eOfN f)) D σ H) : tAsg (tOfN K f) (gName i) D σ H := tOf_ofN σ H _ (tOf_set (t := .nm i) D σ H h)
theorem pds_setLc {p : Nat} {W : Str → Hp → Prop} {i : Nat} {y : Str} {py spos : Pos} (hc : X.calm = true) (hN : X.N.Nodup) (hy : X.N[i]? = some y) (hyl : X.env.scope.names.lookup y = some .local)
    (hsw : swapsWith (.ListComp elt [⟨tg, iter, ifs, 0⟩] scope pos) (some (.Name y py)) spos.line X.env = pure true) (hi : PDI X tg iter fi) (ok : BlkOk X.N X.env.scope scope own) (hv : ∀ i ∈ idT t, i ∈ own.map (·.2))
    (hg : ∀ (s : Shared) (H : Hp) (C : Addr) (cl : List (Str × Addr)) (fp : List Addr), PDG (X.blk s H scope (compEnvC scope cl C X.env) fp) tg t) (ht : ∀ (s : Shared) (H : Hp) (C : Addr) (cl : List (Str × Addr)) (fp : List Addr), PDTs (X.blk s H scope (compEnvC scope cl C X.env) fp) ifs tt)
    (he : ∀ (s : Shared) (H : Hp) (C : Addr) (cl : List (Str × Addr)) (fp : List Addr), PD (X.blk s H scope (compEnvC scope cl C X.env) fp) elt te) (hs : ∀ x, foldedSetIterable iter X.env x = pure x := by intro _; rfl) (hw : isTup tg = true → isTp t = true := by first | exact fun _ => rfl | exact fun h => nomatch (show false = true from h)) :
    PDS X p W (.Assign [.Name y py] (.ListComp elt [⟨tg, iter, ifs, 0⟩] scope pos) spos) (sSet (.nm i) (eOfN (nLc (own.map (·.2)) t fi tt te))) :=
  ((ps_setLc hc hN hy hyl hsw hi ok hg ht he hs).imp fun D σ H h => tOf_lc hw hv σ H _ (tOf_asgN D σ H h))
theorem pds_newLc {p : Nat} {W : Str → Hp → Prop} {i j : Nat} {y : Str} {py spos : Pos} (hj : p ≤ j) (hc : X.calm = true) (hN : X.N.Nodup) (hy : X.N[i]? = some y) (hyl : X.env.scope.names.lookup y = some .local)
    (hsw : swapsWith (.ListComp elt [⟨tg, iter, ifs, 0⟩] scope pos) (some (.Name y py)) spos.line X.env = pure true) (hi : PDI X tg iter fi) (ok : BlkOk X.N X.env.scope scope own) (hv : ∀ i ∈ idT t, i ∈ own.map (·.2))
    (hg : ∀ (s : Shared) (H : Hp) (C : Addr) (cl : List (Str × Addr)) (fp : List Addr), PDG (X.blk s H scope (compEnvC scope cl C X.env) fp) tg t) (ht : ∀ (s : Shared) (H : Hp) (C : Addr) (cl : List (Str × Addr)) (fp : List Addr), PDTs (X.blk s H scope (compEnvC scope cl C X.env) fp) ifs tt)
    (he : ∀ (s : Shared) (H : Hp) (C : Addr) (cl : List (Str × Addr)) (fp : List Addr), PD (X.blk s H scope (compEnvC scope cl C X.env) fp) elt te) (hs : ∀ x, foldedSetIterable iter X.env x = pure x := by intro _; rfl) (hw : isTup tg = true → isTp t = true := by first | exact fun _ => rfl | exact fun h => nomatch (show false = true from h)) :
    PDS X p W (.Assign [.Name y py] (.ListComp elt [⟨tg, iter, ifs, 0⟩] scope pos) spos) (sNew i j (nLc (own.map (·.2)) t fi tt te)) :=
  ((ps_setLc hc hN hy hyl hsw hi ok hg ht he hs).imp fun D σ H h => tOf_lc hw hv σ H _ (tOf_new hj D σ H h))
theorem pds_setLc2 {p : Nat} {W : Str → Hp → Prop} {i : Nat} {y : Str} {py spos : Pos} (hc : X.calm = true) (hN : X.N.Nodup) (hy : X.N[i]? = some y) (hyl : X.env.scope.names.lookup y = some .local)
    (hsw : swapsWith (.ListComp elt [⟨tg, iter, ifs, 0⟩, ⟨tg1, iter1, ifs1, 0⟩] scope pos) (some (.Name y py)) spos.line X.env = pure true) (hi : PDI X tg iter fi) (ok : BlkOk X.N X.env.scope scope own) (hwv : ∀ i ∈ vs1, i ∈ own.map (·.2)) (hv : ∀ i ∈ idT t, i ∈ own.map (·.2)) (hv1 : ∀ i ∈ idT t1, i ∈ vs1)
    (hg : ∀ (s : Shared) (H : Hp) (C : Addr) (cl : List (Str × Addr)) (fp : List Addr), PDG (X.blk s H scope (compEnvC scope cl C X.env) fp) tg t) (ht : ∀ (s : Shared) (H : Hp) (C : Addr) (cl : List (Str × Addr)) (fp : List Addr), PDTs (X.blk s H scope (compEnvC scope cl C X.env) fp) ifs tt)
    (hi1 : ∀ (s : Shared) (H : Hp) (C : Addr) (cl : List (Str × Addr)) (fp : List Addr), PDI (X.blk s H scope (compEnvC scope cl C X.env) fp) tg1 iter1 fi1)
    (hg1 : ∀ (s : Shared) (H : Hp) (C : Addr) (cl : List (Str × Addr)) (fp : List Addr), PDG (X.blk s H scope (compEnvC scope cl C X.env) fp) tg1 t1) (ht1 : ∀ (s : Shared) (H : Hp) (C : Addr) (cl : List (Str × Addr)) (fp : List Addr), PDTs (X.blk s H scope (compEnvC scope cl C X.env) fp) ifs1 tt1)
    (he : ∀ (s : Shared) (H : Hp) (C : Addr) (cl : List (Str × Addr)) (fp : List Addr), PD (X.blk s H scope (compEnvC scope cl C X.env) fp) elt te) (hs : ∀ x, foldedSetIterable iter X.env x = pure x := by intro _; rfl) (hs1 : ∀ env x, foldedSetIterable iter1 env x = pure x := by intro _ _; rfl) (hw : isTup tg = true → isTp t = true := by first | exact fun _ => rfl | exact fun h => nomatch (show false = true from h)) (hw1 : isTup tg1 = true → isTp t1 = true := by first | exact fun _ => rfl | exact fun h => nomatch (show false = true from h)) :
    PDS X p W (.Assign [.Name y py] (.ListComp elt [⟨tg, iter, ifs, 0⟩, ⟨tg1, iter1, ifs1, 0⟩] scope pos) spos) (sSet (.nm i) (eOfN (nLc2 (own.map (·.2)) vs1 t fi tt fi1 t1 tt1 te))) :=
  ((ps_setLc2 hc hN hy hyl hsw hi ok hwv hg ht hi1 hg1 ht1 he hs hs1).imp fun D σ H h => tOf_lc2 hw hw1 hv hv1 σ H _ (tOf_asgN D σ H h))
end
end MP
namespace MP
open PySem PySem.Spec PyProof.Rows L2 RL

/-! ### defs -/
abbrev FD := List Sl → Sto → Option (PyData × Sto)
/-- n parameters, m names, p lists that are handed in, q lists of its own -/
def fDef (n m p q : Nat) (f : DS) : FD := fun as so => if as.length = n ∧ so.length = p then
    (f (as.map some ++ List.replicate (m - n) none) (so ++ List.replicate q .no)).bind fun r => match r.1 with
      | .rt d => some (d, r.2.take p)
      | .nx _ => some (.none, r.2.take p)
      | _ => none
  else none
def spF (K : PySem.W.Frag) (n : Nat) (G : FD) : Sp := fun vs H Q _ => vs.length = n ∧ ∃ F ow so as d so', RelO K F H ow so ∧ RelS K F ow (vs.map some) (as.map some) ∧ G as so = some (d, so') ∧
  ∀ F' H' v, RelO K F' H' ow so' → Stp ow F H F' H' → Dq K F' v d → Q v H'
section
variable {K : PySem.W.Frag}
theorem body_of {N : List Str} {n p q : Nat} {f : DS} {W : Str → Hp → Prop} (vs : List V) (H : Hp) (Q : VK) (E : XK) (h : spF K n (fDef n N.length p q f) vs H Q E) : tOfS K p W f { nx := fun _ H' => Q .non H', rt := Q } (L2.start N vs) H := by
  obtain ⟨hn, F, ow, so, as, d, so', r0, rs, e, k⟩ := h
  have la : vs.length = as.length := by have := rs.len; simpa using this
  have e : (if as.length = n ∧ so.length = p then _ else none) = some (d, so') := e
  by_cases hc : as.length = n ∧ so.length = p
  · rw [if_pos hc] at e
    obtain ⟨⟨fl, so1⟩, e1, e2⟩ := Option.bind_eq_some_iff.mp e
    have hp : so.length = p := hc.2
    have ho : ow.length = p := by rw [r0.len]; exact hp
    have nn : ∀ a : Addr, some a ∈ ow ++ List.replicate q none ↔ some a ∈ ow := fun a => by
      rw [List.mem_append, List.mem_replicate]
      constructor
      · rintro (h | h)
        · exact h
        · cases h.2
      · exact .inl
    have get1 : ∀ {m : Nat} {a : Addr}, (ow ++ List.replicate q none)[m]? = some (some a) → m < p ∧ ow[m]? = some (some a) := fun {m a} h => by
      by_cases hm : m < p
      · rw [List.getElem?_append_left (by omega)] at h
        exact ⟨hm, h⟩
      · rw [List.getElem?_append_right (by omega)] at h
        rw [List.getElem?_replicate] at h
        split at h <;> cases h
    have r1 : RelO K F H (ow ++ List.replicate q none) (so ++ List.replicate q .no) := by
      refine ⟨r0.sub, by rw [List.length_append, List.length_append, r0.len, List.length_replicate, List.length_replicate], fun m a w ha hw => ?_, fun i j a hi hj => ?_, fun m a ha => r0.old m a (get1 ha).2⟩
      · by_cases hm : m < p
        · rw [List.getElem?_append_left (by omega)] at ha hw
          exact r0.own m a w ha hw
        · rw [List.getElem?_append_right (by omega), List.getElem?_replicate] at hw
          split at hw
          · cases hw
            cases a <;> trivial
          · cases hw
      · exact r0.inj i j a (get1 hi).2 (get1 hj).2
    have rs1 : RelS K F (ow ++ List.replicate q none) (L2.start N vs) (as.map some ++ List.replicate (N.length - n) none) := by
      refine ⟨?_, fun i v s hv hs => ?_⟩
      · unfold L2.start
        rw [List.length_append, List.length_append, List.length_map, List.length_map, List.length_replicate, List.length_replicate, la, hc.1]
      · unfold L2.start at hv
        by_cases hi : i < as.length
        · rw [List.getElem?_append_left (by rw [List.length_map]; omega)] at hv hs
          have q := rs.ats i v s hv hs
          cases s with
          | none => trivial
          | some s =>
            obtain ⟨u, hu, q⟩ := q
            refine ⟨u, hu, ?_⟩
            cases s with
            | d x => exact q
            | s ns => exact q
            | o j =>
              obtain ⟨a, ha, e⟩ := q
              exact ⟨a, by rw [List.getElem?_append_left (List.getElem?_eq_some_iff.mp ha).1]; exact ha, e⟩
        · rw [List.getElem?_append_right (by rw [List.length_map]; omega), List.getElem?_replicate] at hs
          split at hs
          · cases hs; trivial
          · cases hs
    refine ⟨F, _, _, _, fl, so1, r1, rs1, e1, fun F' H' ow' r' s' t' => ?_⟩
    have lt' : ow'.length = p + q := by rw [t'.1, List.length_append, List.length_replicate, ho]
    have same : ∀ m, m < p → ow'[m]? = ow[m]? := fun m hm => by
      rcases t'.2 m with z | ⟨z, _⟩
      · rw [z, List.getElem?_append_left (by omega)]
      · omega
    have r2 : RelO K F' H' ow (so1.take p) := by
      have l1 : so1.length = p + q := by rw [← r'.len]; exact lt'
      refine ⟨r'.sub, by rw [List.length_take, ho, l1]; omega, fun m a w ha hw => ?_, r0.inj, fun m a ha => ?_⟩
      · have hm : m < p := by have := (List.getElem?_eq_some_iff.mp ha).1; omega
        rw [List.getElem?_take_of_lt hm] at hw
        exact r'.own m a w (by rw [same m hm]; exact ha) hw
      · have hm : m < p := by have := (List.getElem?_eq_some_iff.mp ha).1; omega
        exact r'.old m a (by rw [same m hm]; exact ha)
    have s2 : Stp ow F H F' H' := ⟨s'.fz, fun a o h => s'.keep a o (fun z => h ((nn a).mp z)), fun a o h => s'.own a o (fun z => h ((nn a).mp z)), s'.live⟩
    cases fl with
    | nx ρ => cases e2; exact fun σ _ => k F' H' _ r2 s2 .non
    | rt d' => cases e2; exact fun v hv => k F' H' v r2 s2 hv
    | bk ρ => cases e2
    | ct ρ => cases e2
    | ex n => cases e2
  · rw [if_neg hc] at e
    cases e
end
section
variable {P : Program} {w : World} {K : PySem.W.Frag} {mg : Str → Option Value} {base : Heap} {x : Str} {st : Stmt} {N ps : List Str} {k n p q : Nat} {f : DS} {W : Str → Hp → Prop}
theorem mk_cal (D : Df K mg x st) (S : FnScope N ps (defScope st)) (hn : ps.length = n)
    (hb : ∀ (kV doc pm : Value) (an : Option Addr) (cdv ct : Value) (us : List Value), us.length = ps.length → bindArgs (PySem.W.fnOf x x (defArgs st) (defBody st) (defScope st) .none kV doc pm an cdv ct) ⟨us, []⟩ = pure (ps.zip us))
    (h : ∀ (f0 : Addr) (cdv : Value) (A : Around) (outer : List Env) (s : Shared) (H : Hp) (E : XK), Room k (A.deeper (envOfC x (defScope st) s.heap.objs.size f0 cdv)) → PDSs (cxOf CX0 P w K mg base N x (defScope st) f0 cdv A outer s H E).nox p W (defBody st) f) :
    C8.Cal P w K mg base (k + 1) x (spF K n (fDef n N.length p q f)) [] :=
  D.cal S hb (fun vs H Q E h => by rw [hn]; exact h.1) fun f0 cdv A outer s H vs Q E hr hsp => ⟨_, h f0 cdv A outer s H E hr, body_of vs H Q E hsp⟩
/-- where nothing is being shown: for the defs that ask repr -/
structure CalG (P : Program) (w : World) (K : PySem.W.Frag) (mg : Str → Option Value) (base : Heap) (k : Nat) (x : Str) (sp : Sp) : Prop where
  ex : ∃ (f : Addr) (fd : FuncData) (ps : List Str), FnG P w K mg base k f fd ps sp ∧ mg x = some (.ref f) ∧ PySem.W.keepIn K (.ref f) = true ∧ Binds K fd ps []
theorem mk_calG (D : Df K mg x st) (S : FnScope N ps (defScope st)) (hn : ps.length = n)
    (hb : ∀ (kV doc pm : Value) (an : Option Addr) (cdv ct : Value) (us : List Value), us.length = ps.length → bindArgs (PySem.W.fnOf x x (defArgs st) (defBody st) (defScope st) .none kV doc pm an cdv ct) ⟨us, []⟩ = pure (ps.zip us))
    (h : ∀ (f0 : Addr) (cdv : Value) (A : Around) (outer : List Env) (s : Shared) (H : Hp) (E : XK), A.guards = some [] → Room k (A.deeper (envOfC x (defScope st) s.heap.objs.size f0 cdv)) → PDSs (cxOf CX0 P w K mg base N x (defScope st) f0 cdv A outer s H E).nox p W (defBody st) f) :
    CalG P w K mg base (k + 1) x (spF K n (fDef n N.length p q f)) := by
  obtain ⟨f0, fd, F, g⟩ := D.ex
  exact ⟨⟨f0, fd, ps, fnG F S (fun vs H Q E h => by rw [hn]; exact h.1) fun cdv A outer s H vs Q E gd hr hsp => ⟨_, h f0 cdv A outer s H E gd hr, body_of vs H Q E hsp⟩, g, F.kp, F.binds hb⟩⟩
end

/-! ### calls of defs -/
def fCall0 (G : FD) (g : DL) : DE := fun ρ so => (g ρ so).bind fun p => (G (p.1.map .d) []).map fun r => (r.1, p.2)
/-- the first argument is a list of one's own -/
def fCall1 (G : FD) (i : Nat) (g : DL) : DE := fun ρ so => (g ρ so).bind fun p => match ρ[i]? with
  | some (some (.o k)) => match p.2[k]? with
    | some (.lst ds) => (G (.o 0 :: p.1.map .d) [.lst ds]).bind fun r => match r.2 with
      | [w] => some (r.1, p.2.set k w)
      | _ => none
    | _ => none
  | _ => none
/-- the first argument is the script -/
def fCallS (G : FD) (i : Nat) (g : DL) : DE := fun ρ so => (g ρ so).bind fun p => match ρ[i]? with
  | some (some (.s ns)) => (G (.s ns :: p.1.map .d) []).map fun r => (r.1, p.2)
  | _ => none
section
variable {K : PySem.W.Frag}
theorem RelO.none {F H : Hp} {ow : Ads} {so : Sto} (r : RelO K F H ow so) : RelO K F H [] [] := ⟨r.sub, rfl, fun k a w h => by simp at h, fun j k a h => by simp at h, fun k a h => by simp at h⟩
theorem relS_args {F : Hp} {ow : Ads} {vs : List V} {ds : List PyData} (h : DqAll K F vs ds) : RelS K F ow (vs.map some) ((ds.map Sl.d).map some) := by
  refine ⟨by rw [List.length_map, List.length_map, List.length_map, h.len], fun i v s hv hs => ?_⟩
  obtain ⟨u, hu, rfl⟩ := get_map hv
  rw [List.map_map] at hs
  obtain ⟨d, hd, rfl⟩ := get_map hs
  obtain ⟨d', hd', q⟩ := h.get hu
  rw [hd] at hd'
  cases hd'
  exact ⟨u, rfl, q⟩
theorem relS_cons {F : Hp} {ow : Ads} {v : V} {s : Sl} {σ : L2.St} {ρ : Slots} (h : SvOk K F ow v s) (r : RelS K F ow σ ρ) : RelS K F ow (some v :: σ) (some s :: ρ) := by
  refine ⟨by rw [List.length_cons, List.length_cons, r.len], fun i a b ha hb => ?_⟩
  cases i with
  | zero =>
    cases ha
    cases hb
    exact ⟨v, rfl, h⟩
  | succ i => exact r.ats i a b (by simpa using ha) (by simpa using hb)
theorem tOf_call0 {G : FD} {n : Nat} {g : DL} {E : XK} (σ : L2.St) (H : Hp) (Q : VK) (h : tOf K (fCall0 G g) σ H Q) (hn : ∀ ρ so p, g ρ so = some p → p.1.length = n) : tCall (spF K n G) [] E (tOfA K g) σ H Q := by
  obtain ⟨F, ow, ρ, so, d, so', r0, rs, e, k⟩ := h
  obtain ⟨⟨ds, so1⟩, e1, e2⟩ := Option.bind_eq_some_iff.mp e
  obtain ⟨⟨x, so2⟩, e3, e4⟩ := Option.map_eq_some_iff.mp e2
  cases e4
  refine ⟨F, ow, ρ, so, ds, _, r0, rs, e1, fun F1 H1 vs r1 s1 d1 => ?_⟩
  simp only [List.append_nil]
  exact ⟨by rw [d1.len]; exact hn _ _ _ e1, F1, [], [], ds.map .d, x, so2, r1.none, relS_args d1, e3, fun F2 H2 v r2 s2 d2 => k F2 H2 v (r1.grow s2 r2.sub) (s1.trans s2.some_of) d2⟩
theorem tOf_callS {G : FD} {n i : Nat} {g : DL} {E : XK} (σ : L2.St) (H : Hp) (Q : VK) (h : tOf K (fCallS G i g) σ H Q) (hn : ∀ ρ so p, g ρ so = some p → p.1.length + 1 = n) : tCall (spF K n G) [] E (tCons (tVar i) (tOfA K g)) σ H Q := by
  obtain ⟨F, ow, ρ, so, d, so', r0, rs, e, k⟩ := h
  obtain ⟨⟨ds, so1⟩, e1, e2⟩ := Option.bind_eq_some_iff.mp e
  split at e2
  · rename_i ns hi
    obtain ⟨⟨x, so2⟩, e3, e4⟩ := Option.map_eq_some_iff.mp e2
    cases e4
    obtain ⟨v, hv, a, ha, rfl⟩ := rs.get hi
    refine ⟨_, hv, F, ow, ρ, so, ds, _, r0, rs, e1, fun F1 H1 vs r1 s1 d1 => ?_⟩
    simp only [List.append_nil]
    exact ⟨by rw [List.length_cons, d1.len]; exact hn _ _ _ e1, F1, [], [], .s ns :: ds.map .d, x, so2, r1.none, relS_cons ⟨a, s1.fz.seq ha, rfl⟩ (relS_args d1), e3, fun F2 H2 v r2 s2 d2 => k F2 H2 v (r1.grow s2 r2.sub) (s1.trans s2.some_of) d2⟩
  · cases e2
/-- one list of one's own, as it stands alone -/
theorem RelO.one {F H : Hp} {ow : Ads} {so : Sto} {k : Nat} {a : Addr} {w : Own} (r : RelO K F H ow so) (ha : ow[k]? = some (some a)) (hw : so[k]? = some w) : RelO K F H [some a] [w] := by
  refine ⟨r.sub, rfl, fun m b w' hb hw' => ?_, fun i j b hi hj => ?_, fun m b hb => ?_⟩
  · cases m with
    | zero =>
      cases hb
      cases hw'
      exact r.own k _ _ ha hw
    | succ m => simp at hb
  · cases i with
    | zero =>
      cases j with
      | zero => rfl
      | succ j => simp at hj
    | succ i => simp at hi
  · cases m with
    | zero =>
      cases hb
      exact r.old k a ha
    | succ m => simp at hb
/-- .. and put back -/
theorem RelO.back {F H F' H' : Hp} {ow : Ads} {so : Sto} {k : Nat} {a : Addr} {w w' : Own} (r : RelO K F H ow so) (ha : ow[k]? = some (some a)) (hw : so[k]? = some w) (r' : RelO K F' H' [some a] [w']) (s : Stp [some a] F H F' H') :
    RelO K F' H' ow (so.set k w') ∧ Stp ow F H F' H' := by
  have out : ∀ {m : Nat} {b : Addr}, ow[m]? = some (some b) → m ≠ k → some b ∉ [some a] := fun {m b} hb hm z => by
    have : b = a := by simpa using z
    exact hm (r.inj m k a (by rw [← this]; exact hb) ha)
  refine ⟨⟨r'.sub, by rw [List.length_set]; exact r.len, fun m b u hb hu => ?_, r.inj, fun m b hb => s.live b (r.old m b hb)⟩, ⟨s.fz, fun c o n h => s.keep c o (fun z => n ?_) h, fun c o n h => s.own c o (fun z => n ?_) h, s.live⟩⟩
  · rcases get_set hu with ⟨rfl, rfl⟩ | ⟨nm, hu⟩
    · rw [ha] at hb
      cases hb
      exact r'.own 0 _ _ rfl rfl
    · have q := r.own m b u hb hu
      cases u with
      | no => cases b <;> trivial
      | lst es =>
        cases b with
        | none => exact q.elim
        | some b =>
          obtain ⟨fb, us, hu', hd2⟩ := q
          exact ⟨s.own b _ (out hb nm) hu' fb, us, s.keep b _ (out hb nm) hu', dqAll_same s.fz _ _ hd2⟩
      | dct es =>
        cases b with
        | none => exact q.elim
        | some b =>
          obtain ⟨fb, us, hu', hd2⟩ := q
          exact ⟨s.own b _ (out hb nm) hu' fb, us, s.keep b _ (out hb nm) hu', dct_same s.fz hd2⟩
      | fz d =>
        cases b with
        | none => exact q.elim
        | some b => exact ⟨s.live b q.1, dq_same s.fz _ _ q.2⟩
  · have : c = a := by simpa using z
    rw [this]
    exact List.mem_of_getElem? ha
  · have : c = a := by simpa using z
    rw [this]
    exact List.mem_of_getElem? ha
theorem tOf_call1 {G : FD} {n i : Nat} {g : DL} {E : XK} (σ : L2.St) (H : Hp) (Q : VK) (h : tOf K (fCall1 G i g) σ H Q) (hn : ∀ ρ so p, g ρ so = some p → p.1.length + 1 = n) : tCall (spF K n G) [] E (tCons (tVar i) (tOfA K g)) σ H Q := by
  obtain ⟨F, ow, ρ, so, d, so', r0, rs, e, k⟩ := h
  obtain ⟨⟨ds, so1⟩, e1, e2⟩ := Option.bind_eq_some_iff.mp e
  split at e2
  · rename_i j hi
    split at e2
    · rename_i es hj
      obtain ⟨⟨x, so2⟩, e3, e4⟩ := Option.bind_eq_some_iff.mp e2
      obtain ⟨v, hv, a, ha, rfl⟩ := rs.get hi
      refine ⟨_, hv, F, ow, ρ, so, ds, so1, r0, rs, e1, fun F1 H1 vs r1 s1 d1 => ?_⟩
      simp only [List.append_nil]
      refine ⟨by rw [List.length_cons, d1.len]; exact hn _ _ _ e1, F1, [some a], [.lst es], .o 0 :: ds.map .d, x, so2, r1.one ha hj, relS_cons ⟨a, rfl, rfl⟩ (relS_args d1), e3, fun F2 H2 v r2 s2 d2 => ?_⟩
      split at e4
      · rename_i w' hw
        replace hw : so2 = [w'] := hw
        subst hw
        cases e4
        obtain ⟨b1, b2⟩ := r1.back ha hj r2 s2
        exact k F2 H2 v b1 (s1.trans b2) d2
      · cases e4
    · cases e2
  · cases e2
/-- the arguments' number -/
theorem aNil_len {ρ : Slots} {so : Sto} {p : List PyData × Sto} (h : aNil ρ so = some p) : p.1.length = 0 := by cases h; rfl
theorem aCons_len {f : DE} {g : DL} {m : Nat} (hg : ∀ ρ so p, g ρ so = some p → p.1.length = m) : ∀ ρ so p, aCons f g ρ so = some p → p.1.length = m + 1 := fun ρ so p h => by
  obtain ⟨x, _, h⟩ := Option.bind_eq_some_iff.mp h
  obtain ⟨y, hy, h⟩ := Option.bind_eq_some_iff.mp h
  cases h
  rw [List.length_cons, hg _ _ _ hy]
end
section
variable {X : Cx} {k j n : Nat} {x y : Str} {G : FD} {p p2 pos : Pos} {e : Expr} {es : List Expr} {g : DL}
theorem pd_call0 (c : C8.Cal X.prog X.w X.K X.mg X.base k x (spF X.K n G) []) (hr : Room j X.A) (hk : k ≤ j) (hg : Gl X x) (ha : PDA X (e :: es) g) (hn : ∀ ρ so p, g ρ so = some p → p.1.length = n)
    (hdb : (x == ("__debug__" : Str)) = false := by decide) (he : starEach (e :: es) X.env = (false, eval e X.env) :: starEach es X.env := by rfl) (hpl : (backTo pos (starEach es X.env)).any (·.1) = false := by rfl) :
    PD X (.Call (.Name x p) (e :: es) [] pos) (fCall0 G g) := (C8.pe_c c hr hk hg ha hdb he hpl).imp fun σ H Q h => tOf_call0 σ H Q h hn
theorem pd_call1 {i : Nat} (c : C8.Cal X.prog X.w X.K X.mg X.base k x (spF X.K n G) []) (hr : Room j X.A) (hk : k ≤ j) (hg : Gl X x) (hN : X.N[i]? = some y) (hv : Vis X.env.scope y) (ha : PDA X es g) (hn : ∀ ρ so p, g ρ so = some p → p.1.length + 1 = n)
    (hd : (y == ("__debug__" : Str)) = false := by decide) (hcd : (y == ("__classdict__" : Str)) = false := by decide)
    (hdb : (x == ("__debug__" : Str)) = false := by decide) (he : starEach (.Name y p2 :: es) X.env = (false, eval (.Name y p2) X.env) :: starEach es X.env := by rfl) (hpl : (backTo pos (starEach es X.env)).any (·.1) = false := by rfl) :
    PD X (.Call (.Name x p) (.Name y p2 :: es) [] pos) (fCall1 G i g) := (C8.pe_c c hr hk hg (pa_cons (pe_var hN hv hd hcd) ha he) hdb he hpl).imp fun σ H Q h => tOf_call1 σ H Q h hn
theorem pd_callS {i : Nat} (c : C8.Cal X.prog X.w X.K X.mg X.base k x (spF X.K n G) []) (hr : Room j X.A) (hk : k ≤ j) (hg : Gl X x) (hN : X.N[i]? = some y) (hv : Vis X.env.scope y) (ha : PDA X es g) (hn : ∀ ρ so p, g ρ so = some p → p.1.length + 1 = n)
    (hd : (y == ("__debug__" : Str)) = false := by decide) (hcd : (y == ("__classdict__" : Str)) = false := by decide)
    (hdb : (x == ("__debug__" : Str)) = false := by decide) (he : starEach (.Name y p2 :: es) X.env = (false, eval (.Name y p2) X.env) :: starEach es X.env := by rfl) (hpl : (backTo pos (starEach es X.env)).any (·.1) = false := by rfl) :
    PD X (.Call (.Name x p) (.Name y p2 :: es) [] pos) (fCallS G i g) := (C8.pe_c c hr hk hg (pa_cons (pe_var hN hv hd hcd) ha he) hdb he hpl).imp fun σ H Q h => tOf_callS σ H Q h hn
theorem pe_cG (c : CalG X.prog X.w X.K X.mg X.base k x (spF X.K n G)) (gd : X.A.guards = some []) (hr : Room j X.A) (hk : k ≤ j) (hg : Gl X x) {t : TA} (ha : PA X (e :: es) t)
    (hdb : (x == ("__debug__" : Str)) = false := by decide) (he : starEach (e :: es) X.env = (false, eval e X.env) :: starEach es X.env := by rfl) (hpl : (backTo pos (starEach es X.env)).any (·.1) = false := by rfl) :
    PE X (.Call (.Name x p) (e :: es) [] pos) (tCall (spF X.K n G) [] E0 t) := by
  obtain ⟨f, fd, ps, F, hm, kp, b⟩ := c.ex
  exact pe_callG F gd (hr.mono hk) hg hm kp b ha hdb he hpl
theorem pd_callG0 (c : CalG X.prog X.w X.K X.mg X.base k x (spF X.K n G)) (gd : X.A.guards = some []) (hr : Room j X.A) (hk : k ≤ j) (hg : Gl X x) (ha : PDA X (e :: es) g) (hn : ∀ ρ so p, g ρ so = some p → p.1.length = n)
    (hdb : (x == ("__debug__" : Str)) = false := by decide) (he : starEach (e :: es) X.env = (false, eval e X.env) :: starEach es X.env := by rfl) (hpl : (backTo pos (starEach es X.env)).any (·.1) = false := by rfl) :
    PD X (.Call (.Name x p) (e :: es) [] pos) (fCall0 G g) := (pe_cG c gd hr hk hg ha hdb he hpl).imp fun σ H Q h => tOf_call0 σ H Q h hn
theorem pd_callG1 {i : Nat} (c : CalG X.prog X.w X.K X.mg X.base k x (spF X.K n G)) (gd : X.A.guards = some []) (hr : Room j X.A) (hk : k ≤ j) (hg : Gl X x) (hN : X.N[i]? = some y) (hv : Vis X.env.scope y) (ha : PDA X es g) (hn : ∀ ρ so p, g ρ so = some p → p.1.length + 1 = n)
    (hd : (y == ("__debug__" : Str)) = false := by decide) (hcd : (y == ("__classdict__" : Str)) = false := by decide)
    (hdb : (x == ("__debug__" : Str)) = false := by decide) (he : starEach (.Name y p2 :: es) X.env = (false, eval (.Name y p2) X.env) :: starEach es X.env := by rfl) (hpl : (backTo pos (starEach es X.env)).any (·.1) = false := by rfl) :
    PD X (.Call (.Name x p) (.Name y p2 :: es) [] pos) (fCall1 G i g) := (pe_cG c gd hr hk hg (pa_cons (pe_var hN hv hd hcd) ha he) hdb he hpl).imp fun σ H Q h => tOf_call1 σ H Q h hn
end

/-! ### lists of one's own: items, lengths, more, less -/
/-- the items of the list of one's own in slot i -/
def ownAt (i : Nat) (ρ : Slots) (so : Sto) : Option (Nat × List PyData) := match ρ[i]? with
  | some (some (.o k)) => match so[k]? with
    | some (.lst ds) => some (k, ds)
    | _ => none
  | _ => none
def oIx (i : Nat) (b : DE) : DE := fun ρ so => (b ρ so).bind fun p => (ownAt i ρ p.2).bind fun q => match p.1 with
  | .int j => (atI q.2 j).map fun d => (d, p.2)
  | _ => none
/-- a built-in of the list that hands on a number, a text, a bool -/
def oCall (i : Nat) (g : List PyData → Option PyData) : DE := fun ρ so => (ownAt i ρ so).bind fun q => (g [.list q.2]).bind fun d => (scV d).map fun _ => (d, so)
def oTuple (i : Nat) : DE := fun ρ so => (ownAt i ρ so).map fun q => (.tuple q.2, so)
def oAppend (i : Nat) (f : DE) : DE := fun ρ so => (ownAt i ρ so).bind fun _ => (f ρ so).bind fun p => (ownAt i ρ p.2).bind fun q => if q.2.length < LIM then some (.none, p.2.set q.1 (.lst (q.2 ++ [p.1]))) else none
def oExtend (i : Nat) (f : DL) : DE := fun ρ so => (ownAt i ρ so).bind fun _ => (f ρ so).bind fun p => (ownAt i ρ p.2).bind fun q => if q.2.length + p.1.length ≤ LIM then some (.none, p.2.set q.1 (.lst (q.2 ++ p.1))) else none
def oPop (i : Nat) (f : DE) : DE := fun ρ so => (ownAt i ρ so).bind fun _ => (f ρ so).bind fun p => (ownAt i ρ p.2).bind fun q => match p.1 with
  | .int j => (ixN q.2.length j).bind fun m => (q.2[m]?).bind fun d => if -5000 ≤ j ∧ j ≤ 5000 then some (d, p.2.set q.1 (.lst (q.2.eraseIdx m))) else none
  | _ => none
def sOwn (i : Nat) (b f : DE) : DS := fun ρ so => (f ρ so).bind fun p => (b ρ p.2).bind fun r => (ownAt i ρ r.2).bind fun q => match r.1 with
  | .int j => (ixN q.2.length j).map fun m => (.nx ρ, r.2.set q.1 (.lst (q.2.set m p.1)))
  | _ => none
def oEq (neg : Bool) (i : Nat) (f : DE) : DE := fun ρ so => (f ρ so).bind fun p => (ownAt i ρ p.2).bind fun q => (if neg then dNe (.list q.2) p.1 else dEq (.list q.2) p.1).map fun d => (d, p.2)
section
variable {K : PySem.W.Frag} {F H : Hp} {ow : Ads} {so : Sto} {σ : L2.St} {ρ : Slots}
theorem own_at {i k : Nat} {ds : List PyData} (rs : RelS K F ow σ ρ) (h : ownAt i ρ so = some (k, ds)) : ∃ a, σ[i]? = some (some (.ref a)) ∧ ow[k]? = some (some a) ∧ so[k]? = some (.lst ds) := by
  unfold ownAt at h
  split at h
  · rename_i j hj
    split at h
    · rename_i es he
      cases h
      obtain ⟨v, hv, a, ha, rfl⟩ := rs.get hj
      exact ⟨a, hv, ha, he⟩
    · cases h
  · cases h
theorem own_lst {F' H' : Hp} {so' : Sto} {k : Nat} {a : Addr} {ds : List PyData} (r : RelO K F' H' ow so') (ha : ow[k]? = some (some a)) (h : so'[k]? = some (.lst ds)) : F' a = none ∧ ∃ vs, H' a = some (.lst vs) ∧ DqAll K F' vs ds := r.own k _ _ ha h
/-- the list of one's own is changed -/
theorem RelO.put {k : Nat} {a : Addr} {vs vs' : List V} {ds ds' : List PyData} (r : RelO K F H ow so) (ha : ow[k]? = some (some a)) (h : so[k]? = some (.lst ds)) (hv : H a = some (.lst vs)) (hd : DqAll K F vs' ds') :
    RelO K F (upd H a (.lst vs')) ow (so.set k (.lst ds')) ∧ Stp ow F H F (upd H a (.lst vs')) := by
  obtain ⟨fa, _⟩ := own_lst r ha h
  refine ⟨⟨fun b o hb => ?_, by rw [List.length_set]; exact r.len, fun m b u hb hu => ?_, r.inj, fun m b hb => live_upd (r.old m b hb)⟩, ⟨Same.refl _, fun c o n hc => ?_, fun _ _ _ _ h => h, fun c h => live_upd h⟩⟩
  · rw [upd_ne (ne_of_none hb fa)]
    exact r.sub b o hb
  · rcases get_set hu with ⟨rfl, rfl⟩ | ⟨nm, hu⟩
    · rw [ha] at hb
      cases hb
      exact ⟨fa, vs', upd_same, hd⟩
    · have q := r.own m b u hb hu
      cases u with
      | no => cases b <;> trivial
      | lst es =>
        cases b with
        | none => exact q.elim
        | some b =>
          obtain ⟨fb, us, hu', hd2⟩ := q
          have nb : b ≠ a := fun e => nm (r.inj m k a (by rw [← e]; exact hb) ha)
          exact ⟨fb, us, by rw [upd_ne nb]; exact hu', hd2⟩
      | dct es =>
        cases b with
        | none => exact q.elim
        | some b =>
          obtain ⟨fb, us, hu', hd2⟩ := q
          have nb : b ≠ a := fun e => nm (r.inj m k a (by rw [← e]; exact hb) ha)
          exact ⟨fb, us, by rw [upd_ne nb]; exact hu', hd2⟩
      | fz d =>
        cases b with
        | none => exact q.elim
        | some b => exact ⟨live_upd q.1, q.2⟩
  · have nc : c ≠ a := fun e => n (by rw [e]; exact List.mem_of_getElem? ha)
    rw [upd_ne nc]
    exact hc
theorem tOf_oIx {i : Nat} {b : DE} (σ : L2.St) (H : Hp) (Q : VK) (h : tOf K (oIx i b) σ H Q) : tOp (rIxL K) (tVar i) (tOf K b) σ H Q := by
  obtain ⟨F, ow, ρ, so, d, so', r0, rs, e, k⟩ := h
  obtain ⟨⟨x, so1⟩, e1, e2⟩ := Option.bind_eq_some_iff.mp e
  obtain ⟨⟨j, ds⟩, e3, e4⟩ := Option.bind_eq_some_iff.mp e2
  obtain ⟨a, hv, ha, hj⟩ := own_at rs e3
  refine ⟨_, hv, F, ow, ρ, so, x, so1, r0, rs, e1, fun F1 H1 v r1 s1 d1 => ?_⟩
  split at e4
  · rename_i m hm
    replace hm : x = .int m := hm
    subst hm
    obtain ⟨d', g1, g2⟩ := Option.map_eq_some_iff.mp e4
    cases g2
    cases d1
    obtain ⟨fa, vs, hvs, hd⟩ := own_lst r1 ha hj
    obtain ⟨u, gu, qu⟩ := atI_dq hd g1
    exact ⟨a, vs, m, u, rfl, rfl, SqL.of hvs, gu, k F1 H1 u r1 s1 qu⟩
  · cases e4
end
end MP
namespace RL
open PySem PySem.Spec PyProof.Rows L2
/-! ### zip of three tuples -/
theorem tc_zip3 (a b c : Value) : checkTypeCall "zip" ⟨[a, b, c], []⟩ = pure () := by kernel_rfl
theorem nc_zip3 (a b c : Value) : checkBuiltinCall "zip.__new__" ⟨[.type "zip", a, b, c], []⟩ = pure () := by kernel_rfl
theorem oi_zip3 (o a b c : Value) : argsOk "object.__init__" ⟨[o, a, b, c], []⟩ := by unfold argsOk; kernel_rfl
abbrev z3a (h : Heap) (l1 l2 l3 : Addr) : Heap := ((h.push (itO l1)).push (itO l2)).push (itO l3)
abbrev z3b (h : Heap) (l1 l2 l3 : Addr) : Heap := (z3a h l1 l2 l3).push { cls := .type "tuple", data := .seq #[.ref h.objs.size, .ref (h.push (itO l1)).objs.size, .ref ((h.push (itO l1)).push (itO l2)).objs.size] }
abbrev z3c (h : Heap) (l1 l2 l3 : Addr) : Heap := (z3b h l1 l2 l3).push { cls := .type "tuple", data := .seq #[.none, .none, .none] }
abbrev z3d (h : Heap) (l1 l2 l3 : Addr) : Heap := (z3c h l1 l2 l3).push { cls := .type "zip", data := .fields #[.none, .bool false, .bool false, .ref (z3a h l1 l2 l3).objs.size, .ref (z3b h l1 l2 l3).objs.size] }
theorem meets_zip3 (l1 l2 l3 : Addr) (b1 b2 b3 : Array Value) :
    Meets (Builtin.«zip.__new__» ⟨[.type "zip", .ref l1, .ref l2, .ref l3], []⟩) (fun _ R s => (s.heap.IsTuple l1 b1 ∧ s.heap.IsTuple l2 b2 ∧ s.heap.IsTuple l3 b3) ∧
      R (.ok (.ret (.ref (z3c s.heap l1 l2 l3).objs.size))) { s with heap := z3d s.heap l1 l2 l3 }) :=
  .of_wp fun prog w A R s h => by
    obtain ⟨hp, g, d, tk, os⟩ := s
    obtain ⟨⟨h1, h2, h3⟩, h⟩ := h
    have hsub := sub_zip
    have q1 : Heap.IsTuple (Shared.heap ⟨hp, g, d, tk, os⟩) l1 b1 := h1
    have q2 : Heap.IsTuple (Shared.heap ⟨hp.push (itO l1), g, d, tk, os⟩) l2 b2 := Heap.IsTuple.push h2 _
    have q3 : Heap.IsTuple (Shared.heap ⟨(hp.push (itO l1)).push (itO l2), g, d, tk, os⟩) l3 b3 := Heap.IsTuple.push (Heap.IsTuple.push h3 _) _
    wp_walk using wpAny_pyIter_tuple q1, wpAny_pyIter_tuple q2, wpAny_pyIter_tuple q3
    exact ⟨_, rfl, h⟩
section
variable {prog : Program} {w : World} {A : Around} {E : Value → Shared → Prop} {s : Shared}
theorem call_zip3 {l1 l2 l3 : Addr} {b1 b2 b3 : Array Value} {Q : Value → Shared → Prop} (h1 : s.heap.IsTuple l1 b1) (h2 : s.heap.IsTuple l2 b2) (h3 : s.heap.IsTuple l3 b3)
    (h : ∀ h', ZSt (s.heap.objs.size + 5) (s.heap.objs.size + 3) (s.heap.objs.size + 4) [s.heap.objs.size, s.heap.objs.size + 1, s.heap.objs.size + 2] [l1, l2, l3] 0 h' →
      (∀ c o, s.heap.get? c = some o → h'.get? c = some o) → Q (.ref (s.heap.objs.size + 5)) { s with heap := h' }) :
    wpAny (model prog w) A (call (.type "zip") [.ref l1, .ref l2, .ref l3]) Q E s := by
  refine callType_new F.called_zip (by decide) (tc_zip3 _ _ _) (nc_zip3 _ _ _) (fun obj => oi_zip3 obj _ _ _) F.entry_zip_new (meets_zip3 l1 l2 l3 b1 b2 b3) ⟨⟨h1, h2, h3⟩, ?_⟩
  have n1 : (s.heap.push (itO l1)).objs.size = s.heap.objs.size + 1 := Heap.size_push ..
  have n2 : ((s.heap.push (itO l1)).push (itO l2)).objs.size = s.heap.objs.size + 2 := by rw [Heap.size_push, n1]
  have n3 : (z3a s.heap l1 l2 l3).objs.size = s.heap.objs.size + 3 := by rw [Heap.size_push, n2]
  have n4 : (z3b s.heap l1 l2 l3).objs.size = s.heap.objs.size + 4 := by rw [Heap.size_push, n3]
  have n5 : (z3c s.heap l1 l2 l3).objs.size = s.heap.objs.size + 5 := by rw [Heap.size_push, n4]
  have up1 : ∀ {hh : Heap} {o : Obj} {c : Addr} {x : Obj}, hh.get? c = some x → (hh.push o).get? c = some x := fun e => Heap.get?_push_of_some _ e
  have g5 : (z3d s.heap l1 l2 l3).get? (z3c s.heap l1 l2 l3).objs.size = some { cls := .type "zip", data := .fields #[.none, .bool false, .bool false, .ref (z3a s.heap l1 l2 l3).objs.size, .ref (z3b s.heap l1 l2 l3).objs.size] } := Heap.get?_push_size _ rfl
  have g4 : (z3d s.heap l1 l2 l3).get? (z3b s.heap l1 l2 l3).objs.size = some { cls := .type "tuple", data := .seq #[.none, .none, .none] } := up1 (Heap.get?_push_size _ rfl)
  have g3 : (z3d s.heap l1 l2 l3).get? (z3a s.heap l1 l2 l3).objs.size = some { cls := .type "tuple", data := .seq #[.ref s.heap.objs.size, .ref (s.heap.push (itO l1)).objs.size, .ref ((s.heap.push (itO l1)).push (itO l2)).objs.size] } := up1 (up1 (Heap.get?_push_size _ rfl))
  have g2 : (z3d s.heap l1 l2 l3).get? ((s.heap.push (itO l1)).push (itO l2)).objs.size = some (itO l3) := up1 (up1 (up1 (Heap.get?_push_size _ rfl)))
  have g1 : (z3d s.heap l1 l2 l3).get? (s.heap.push (itO l1)).objs.size = some (itO l2) := up1 (up1 (up1 (up1 (Heap.get?_push_size _ rfl))))
  have g0 : (z3d s.heap l1 l2 l3).get? s.heap.objs.size = some (itO l1) := up1 (up1 (up1 (up1 (up1 (Heap.get?_push_size _ rfl)))))
  rw [n5, n4, n3] at g5
  rw [n4] at g4
  rw [n3, n2, n1] at g3
  rw [n2] at g2
  rw [n1] at g1
  show _ ∧ _
  rw [n5]
  refine ⟨⟨_, g5, rfl⟩, h _ ⟨g5, g3, ⟨[.none, .none, .none], rfl, g4⟩, fun k t l hk hl => ?_⟩ fun c o e => up1 (up1 (up1 (up1 (up1 (up1 e)))))⟩
  match k, hk, hl with
  | 0, hk, hl => cases hk; cases hl; exact ⟨_, g0, rfl, rfl⟩
  | 1, hk, hl => cases hk; cases hl; exact ⟨_, g1, rfl, rfl⟩
  | 2, hk, hl => cases hk; cases hl; exact ⟨_, g2, rfl, rfl⟩
  | k + 3, hk, hl => simp at hk
end
theorem apart3 {N l1 l2 l3 : Nat} (h1 : l1 < N) (h2 : l2 < N) (h3 : l3 < N) : ZA (N + 5) (N + 3) (N + 4) [N, N + 1, N + 2] [l1, l2, l3] := by
  have three : ∀ {P : Nat → Prop} {a b c : Nat}, P a → P b → P c → ∀ t ∈ [a, b, c], P t := fun {P a b c} p1 p2 p3 t ht => by
    simp only [List.mem_cons, List.not_mem_nil, or_false] at ht
    rcases ht with rfl | rfl | rfl <;> assumption
  refine ⟨nne (by omega), nne (by omega), nne (by omega), ?_, ?_, ?_, ?_, ?_, ?_, ?_, rfl⟩
  · exact three (P := fun t => t ≠ N + 5) (nne (by omega)) (nne (by omega)) (nne (by omega))
  · exact three (P := fun t => t ≠ N + 3) (nne (by omega)) (nne (by omega)) (nne (by omega))
  · exact three (P := fun t => t ≠ N + 4) (nne (by omega)) (nne (by omega)) (nne (by omega))
  · have : ([N, N + 1, N + 2] : List Nat).Nodup := by
      simp only [List.nodup_cons, List.mem_cons, List.not_mem_nil, or_false, not_or, List.nodup_nil, and_true, not_false_iff]
      exact ⟨⟨by omega, by omega⟩, by omega⟩
    exact this
  · exact three (P := fun t => t ≠ N + 5) (nne (by omega)) (nne (by omega)) (nne (by omega))
  · exact three (P := fun t => t ≠ N + 4) (nne (by omega)) (nne (by omega)) (nne (by omega))
  · have one : ∀ l : Nat, l < N → ∀ t ∈ [N, N + 1, N + 2], l ≠ t := fun l hl => three (P := fun t => l ≠ t) (nne (by omega)) (nne (by omega)) (nne (by omega))
    exact three (P := fun l => ∀ t ∈ [N, N + 1, N + 2], l ≠ t) (one l1 h1) (one l2 h2) (one l3 h3)
def iZip3 (K : PySem.W.Frag) (ta : TA) : TI := fun σ H R => ta σ H fun vs H1 => ∃ a b c x1 x2 x3, vs = [.ref a, .ref b, .ref c] ∧ SqT K H1 a x1 ∧ SqT K H1 b x2 ∧ SqT K H1 c x3 ∧ R (ItzN K [a, b, c]) H1
theorem pi_zip3 {X : Cx} {e1 e2 e3 : Expr} {ta : TA} {p pos tpos : Pos} {elts : List Expr} {kk : Nat} (hg : Gl X "zip") (hm : X.mg "zip" = none) (ha : PA X [e1, e2, e3] ta)
    (hs : starEach [e1, e2, e3] X.env = (false, eval e1 X.env) :: starEach [e2, e3] X.env := by rfl) (hpl : (backTo pos (starEach [e2, e3] X.env)).any (·.1) = false := by rfl) :
    PI X (.Tuple elts kk tpos) (.Call (.Name "zip" p) [e1, e2, e3] [] pos) (iZip3 X.K ta) := by
  refine ⟨fun pins s σ H R I h => Call_ (ld_blt I hg hm PyProof.Rows.boot_zip (PyProof.Rows.callWith_type1 (thn (ha.run pos pins s σ H _ I h) ?_) hs hpl))⟩
  intro us s1 ⟨vs, H1, I1, r1, a, b, c, x1, x2, x3, ex, q1, q2, q3, q⟩
  subst ex
  cases r1 with
  | cons r rr =>
    cases r
    cases rr with
    | cons r rr =>
      cases r
      cases rr with
      | cons r rr =>
        cases r
        cases rr
        obtain ⟨_, _, p1, _⟩ := I1.tuple q1
        obtain ⟨_, _, p2, _⟩ := I1.tuple q2
        obtain ⟨_, _, p3, _⟩ := I1.tuple q3
        obtain ⟨_, o1, _⟩ := id p1
        obtain ⟨_, o2, _⟩ := id p2
        obtain ⟨_, o3, _⟩ := id p3
        refine call_zip3 p1 p2 p3 fun h' st hk => wpAny_pyIter_zip st.1 ?_
        refine ⟨_, _, _, _, H1, rfl, I1.kept (t' := s1.toks) hk, turn_zipN (apart3 (Heap.lt_size o1) (Heap.lt_size o2) (Heap.lt_size o3)) (by simp) (by simp), st, fun c hcm => ?_, q⟩
        have hle : s1.heap.objs.size ≤ c := by
          simp only [List.mem_cons, List.not_mem_nil, or_false] at hcm
          rcases hcm with rfl | rfl | rfl | rfl | rfl | rfl
          · exact Nat.le_add_right _ _
          · exact Nat.le_add_right _ _
          · exact Nat.le_add_right _ _
          · exact Nat.le_refl _
          · exact Nat.le_add_right _ _
          · exact Nat.le_add_right _ _
        exact I1.fpOk hle (I1.hok.fresh hle)
theorem walk_zip3 {K : PySem.W.Frag} {a b c : Addr} {x1 x2 x3 : List V} (l2 : x2.length = x1.length) (l3 : x3.length = x1.length) :
    Walk (ItzN K [a, b, c]) x1.length (fun H => SqT K H a x1 ∧ SqT K H b x2 ∧ SqT K H c x3)
      (fun i H v H' => ∃ T y1 y2 y3, v = .ref T ∧ H T = none ∧ H' = upd H T (.tup [y1, y2, y3]) ∧ x1[i]? = some y1 ∧ x2[i]? = some y2 ∧ x3[i]? = some y3) := by
  refine ⟨fun i H hi ⟨q1, q2, q3⟩ => ⟨[x1, x2, x3], rfl, fun k l xs hk hx => ?_⟩, fun H ⟨q1, _⟩ => ⟨a, x1, rfl, q1, rfl⟩, fun i H v H' hi ⟨q1, q2, q3⟩ y => ?_⟩
  · match k, hk, hx with
    | 0, hk, hx => cases hk; cases hx; exact ⟨q1, hi⟩
    | 1, hk, hx => cases hk; cases hx; exact ⟨q2, by omega⟩
    | 2, hk, hx => cases hk; cases hx; exact ⟨q3, by omega⟩
    | k + 3, hk, hx => simp at hk
  · obtain ⟨T, ys, e1, e2, e3, ly, hy⟩ := y
    have y1 := hy 0 a x1 rfl q1
    have y2 := hy 1 b x2 rfl q2
    have y3 := hy 2 c x3 rfl q3
    match ys, ly with
    | [v1, v2, v3], _ => exact ⟨T, v1, v2, v3, e1, e2, e3, y1, y2, y3⟩
/-! ### t.count(k), t.index(k) of a tuple of ints -/
section
variable {X : Cx}
def rCntT (K : PySem.W.Frag) : V → List V → Hp → VK → Prop := fun x xs H Q => ∃ (p : Addr) (ns : List Int) (k : Int), x = .ref p ∧ xs = [.int k] ∧ SqT K H p (ns.map V.int) ∧ Q (.int (ns.count k : Nat)) H
theorem mt_tcount : MtR X "tuple.count" (rCntT X.K) := by
  intro pins s σ H x xs v us Q I rx rxs h
  obtain ⟨p, ns, k, rfl, rfl, hs, q⟩ := h
  cases rx
  obtain ⟨u, rfl, ru⟩ := rxs.one
  obtain ⟨t, rfl⟩ := ru
  obtain ⟨its, rv, ⟨⟨cls, dd, data, sl⟩, ho, hc, n, hd⟩, hlen⟩ := I.tuple hs
  simp only at hc hd
  subst hc hd
  have hi := ints_of_vals rv
  refine call_meets PySem.F.slot_tuple_count ⟨_, ho, rfl⟩ PySem.F.entry_tuple_count (PySem.F.args_tuple_count_2 _ _)
    (SeqAt.tuple_countAt p its.toArray n dd sl (.int k t) (eqk k)) ⟨ho, fun y hy => (eqk_gives hi y (by simpa using hy)).at _ _, ?_⟩
  have ec : its.toArray.toList.countP (eqk k) = ns.count k := eqk_count hi
  refine ⟨.int (ns.count k : Nat), H, I.tok _, ⟨s.toks, ?_⟩, q⟩
  show Value.int ((its.toArray.toList.countP (eqk k) : Nat) : Int) s.toks = Value.int ((ns.count k : Nat) : Int) s.toks
  rw [ec]
def rIdxT (K : PySem.W.Frag) : V → List V → Hp → VK → Prop := fun x xs H Q => ∃ (p : Addr) (ns : List Int) (k : Int), x = .ref p ∧ xs = [.int k] ∧ SqT K H p (ns.map V.int) ∧ k ∈ ns ∧ Q (.int (ns.idxOf k : Nat)) H
theorem mt_tindex : MtR X "tuple.index" (rIdxT X.K) := by
  intro pins s σ H x xs v us Q I rx rxs h
  obtain ⟨p, ns, k, rfl, rfl, hs, hk, q⟩ := h
  cases rx
  obtain ⟨u, rfl, ru⟩ := rxs.one
  obtain ⟨t, rfl⟩ := ru
  obtain ⟨its, rv, pl, hlen⟩ := I.tuple hs
  exact PySem.SeqAt.tuple_index_ints pl (ints_of_vals rv) hk ⟨.int (ns.idxOf k : Nat), H, I.tok _, ⟨_, rfl⟩, q⟩
/-! ### min of a list of things that are alike, told as its place -/
def rMinL (K : PySem.W.Frag) : List V → Hp → VK → Prop := fun vs H Q =>
  ∃ (a : Addr) (xs : List V) (d : PyData) (ds : List PyData), vs = [V.ref a] ∧ SqL K H a xs ∧ DpAll K H xs (d :: ds) ∧ PySem.W.AlikeAll (d :: ds) ∧ PyData.depthAll (d :: ds) ≤ 50 ∧ ∀ (i : Nat) (x : V), xs[i]? = some x → Dp K H x (PySem.W.minD d ds) → Q x H
end
end RL
namespace MP
open PySem PySem.Spec PyProof.Rows L2 RL

/-! ### built-ins -/
def CallD (K : PySem.W.Frag) (r : List V → Hp → VK → Prop) (g : List PyData → Option PyData) : Prop := ∀ (F H : Hp) (vs : List V) (ds : List PyData) (d : PyData) (Q : VK), Same F H → DqAll K F vs ds → g ds = some d →
  (∀ F' H' v, Stp [] F H F' H' → Same F' H' → Dq K F' v d → Q v H') → r vs H Q
def eCall (g : List PyData → Option PyData) (a : DL) : DE := fun ρ so => (a ρ so).bind fun p => (g p.1).map fun d => (d, p.2)
section
variable {K : PySem.W.Frag}
theorem tOf_eCall {r : List V → Hp → VK → Prop} {g : List PyData → Option PyData} {a : DL} (hr : CallD K r g) (σ : L2.St) (H : Hp) (Q : VK) (h : tOf K (eCall g a) σ H Q) : tCB r (tOfA K a) σ H Q := by
  obtain ⟨F, ow, ρ, so, d, so', r0, rs, e, k⟩ := h
  obtain ⟨⟨ds, so1⟩, e1, e2⟩ := Option.bind_eq_some_iff.mp e
  obtain ⟨z, e3, e4⟩ := Option.map_eq_some_iff.mp e2
  cases e4
  exact ⟨F, ow, ρ, so, ds, _, r0, rs, e1, fun F1 H1 vs r1 s1 d1 => hr F1 H1 vs ds _ Q r1.sub d1 e3 fun F2 H2 v s2 e5 d2 => k F2 H2 v (r1.grow s2 e5) (s1.trans s2.some_of) d2⟩
/-- a built-in that hands on a value -/
def CallS (K : PySem.W.Frag) (r : List V → Hp → VK → Prop) (g : List PyData → Option PyData) : Prop := ∀ (H : Hp) (vs : List V) (ds : List PyData) (d : PyData) (v : V) (Q : VK), DpAll K H vs ds → g ds = some d → scV d = some v → Q v H → r vs H Q
end
section
variable {X : Cx} {x : Str} {p pos : Pos} {e : Expr} {es : List Expr} {a : DL} {id T : String} {r : List V → Hp → VK → Prop} {g : List PyData → Option PyData}
theorem pd_callB (hc : CallR X (.builtin id) r) (hd : CallD X.K r g) (hg : Gl X x) (hm : X.mg x = none) (hv : bootBuiltins x = some (.builtin id)) (ha : PDA X (e :: es) a) (hn : x ≠ "__name__" := by decide) (hdb : (x == ("__debug__" : Str)) = false := by decide)
    (he : starEach (e :: es) X.env = (false, eval e X.env) :: starEach es X.env := by rfl) (hpl : (backTo pos (starEach es X.env)).any (·.1) = false := by rfl) : PD X (.Call (.Name x p) (e :: es) [] pos) (eCall g a) := (pe_callB hc hg hm hv ha hn hdb he hpl).imp (tOf_eCall hd)
theorem pd_callTy (hc : CallR X (.type T) r) (hd : CallD X.K r g) (hg : Gl X x) (hm : X.mg x = none) (hv : bootBuiltins x = some (.type T)) (ha : PDA X (e :: es) a) (hn : x ≠ "__name__" := by decide) (hdb : (x == ("__debug__" : Str)) = false := by decide)
    (he : starEach (e :: es) X.env = (false, eval e X.env) :: starEach es X.env := by rfl) (hpl : (backTo pos (starEach es X.env)).any (·.1) = false := by rfl) : PD X (.Call (.Name x p) (e :: es) [] pos) (eCall g a) := (pe_callTy hc hg hm hv ha hn hdb he hpl).imp (tOf_eCall hd)
end
theorem DqAll.one {K : PySem.W.Frag} {F : Hp} {vs : List V} {d : PyData} (h : DqAll K F vs [d]) : ∃ v, vs = [v] ∧ Dq K F v d := by
  cases h with
  | cons h1 h2 => cases h2; exact ⟨_, rfl, h1⟩
theorem DqAll.two {K : PySem.W.Frag} {F : Hp} {vs : List V} {d e : PyData} (h : DqAll K F vs [d, e]) : ∃ v u, vs = [v, u] ∧ Dq K F v d ∧ Dq K F u e := by
  cases h with
  | cons h1 h2 =>
    cases h2 with
    | cons h3 h4 => cases h4; exact ⟨_, _, rfl, h1, h3⟩
/-! len -/
def gLen : List PyData → Option PyData
  | [.list ds] => some (.int ds.length)
  | [.tuple ds] => some (.int ds.length)
  | [.str x] => if x.length ≤ 1000000 then some (.int x.length) else none
  | _ => none
def rLenU (K : PySem.W.Frag) : List V → Hp → VK → Prop := fun xs H Q => (∃ p ys, xs = [.ref p] ∧ (SqL K H p ys ∨ SqT K H p ys) ∧ Q (.int ys.length) H) ∨ (∃ z, xs = [.str z] ∧ z.length ≤ sizeLine ∧ Q (.int z.length) H)
theorem cr_lenU {X : Cx} : CallR X (.builtin "len") (rLenU X.K) := call_len_seq.or call_len_str
theorem cd_len {X : Cx} : CallD X.K (rLenU X.K) gLen := by
  intro F H vs ds d Q s hv e k
  unfold gLen at e
  split at e
  · cases e
    obtain ⟨v, rfl, h⟩ := hv.one
    obtain ⟨a, xs, rfl, ha, hx⟩ := dq_lst h
    exact .inl ⟨a, xs, rfl, .inl (SqL.of (s _ _ ha)), by rw [hx.len]; exact here k s (.int _)⟩
  · cases e
    obtain ⟨v, rfl, h⟩ := hv.one
    obtain ⟨a, xs, rfl, ha, hx⟩ := dq_tup h
    exact .inl ⟨a, xs, rfl, .inr ((ha.sq s)), by rw [hx.len]; exact here k s (.int _)⟩
  · obtain ⟨hl, rfl⟩ := if_some e
    obtain ⟨v, rfl, h⟩ := hv.one
    cases h
    exact .inr ⟨_, rfl, Nat.le_trans hl (by decide), here k s (.int _)⟩
  · cases e
/-! tuple(..), list(..) -/
def gTuple : List PyData → Option PyData
  | [.list ds] => some (.tuple ds)
  | [.tuple ds] => some (.tuple ds)
  | _ => none
theorem cd_tuple {X : Cx} : CallD X.K (fun xs H Q => ∃ p ys, xs = [.ref p] ∧ ((SqL X.K H p ys ∧ NewT H ys Q) ∨ (SqT X.K H p ys ∧ Q (.ref p) H))) gTuple := by
  intro F H vs ds d Q s hv e k
  unfold gTuple at e
  split at e
  · cases e
    obtain ⟨v, rfl, h⟩ := hv.one
    obtain ⟨a, xs, rfl, ha, hx⟩ := dq_lst h
    exact ⟨a, xs, rfl, .inl ⟨SqL.of (s _ _ ha), fun l ob nl pl => fresh k s nl (new_tup (s.free nl) pl hx)⟩⟩
  · cases e
    obtain ⟨v, rfl, h⟩ := hv.one
    obtain ⟨a, xs, rfl, ha, hx⟩ := dq_tup h
    exact ⟨a, xs, rfl, .inr ⟨(ha.sq s), here k s (.tup ha hx)⟩⟩
  · cases e
def nList (f : DE) : DL := fun ρ so => (f ρ so).bind fun p => (seqOf p.1).map fun ds => (ds, p.2)
theorem tOf_nList {K : PySem.W.Frag} {f : DE} (σ : L2.St) (H : Hp) (Q : VK) (h : tOfN K (nList f) σ H Q) : tCB (fun xs H Q => ∃ p ys, xs = [.ref p] ∧ (SqL K H p ys ∨ SqT K H p ys) ∧ ∀ l, H l = none → Q (.ref l) (upd H l (.lst ys))) (tCons (tOf K f) tNil) σ H Q := by
  obtain ⟨F, ow, ρ, so, ds, so', r0, rs, e, k⟩ := h
  obtain ⟨⟨d, so1⟩, e1, e2⟩ := Option.bind_eq_some_iff.mp e
  obtain ⟨es, e3, e4⟩ := Option.map_eq_some_iff.mp e2
  cases e4
  refine ⟨F, ow, ρ, so, d, _, r0, rs, e1, fun F1 H1 v r1 s1 d1 => ?_⟩
  obtain ⟨p, xs, rfl, hs, ha⟩ := dq_seq d1 e3
  refine ⟨p, xs, rfl, ?_, fun l nl => keepN k r1 s1 ha nl⟩
  rcases hs with ⟨hs, _⟩ | ⟨hs, _⟩
  · exact .inl (SqL.of (r1.sub _ _ hs))
  · exact .inr ((hs.sq r1.sub))
section
variable {X : Cx} {p pos : Pos} {e : Expr} {f : DE}
theorem pdn_list (hg : Gl X "list") (hm : X.mg "list" = none) (ha : PD X e f) (hs : starEach [e] X.env = (false, eval e X.env) :: starEach [] X.env := by rfl) : PDN X (.Call (.Name "list" p) [e] [] pos) (nList f) :=
  (pe_callTy call_list_of hg hm (by decide +kernel) (pa_cons ha pa_nil hs) (by decide) (by decide) hs rfl).imp tOf_nList
end
/-! list(range(n)) -/
def nRange (f : DE) : DL := fun ρ so => (f ρ so).bind fun p => match p.1 with
  | .int n => if 0 ≤ n ∧ n ≤ 5000 then some (rangeD 0 n.toNat, p.2) else none
  | _ => none
theorem rgV_dq {K : PySem.W.Frag} {F : Hp} {n : Int} : DqAll K F (rgV 0 n) (rangeD 0 n.toNat) := by
  unfold rgV rangeD
  rw [Int.sub_zero]
  generalize List.range n.toNat = xs
  induction xs with
  | nil => exact .nil
  | cons x r ih => exact .cons (.int _) ih
theorem tOf_nRange {K : PySem.W.Frag} {f : DE} (σ : L2.St) (H : Hp) (Q : VK) (h : tOfN K (nRange f) σ H Q) : tLstRg (tRg1 (tOf K f)) σ H Q := by
  obtain ⟨F, ow, ρ, so, ds, so', r0, rs, e, k⟩ := h
  obtain ⟨⟨d, so1⟩, e1, e2⟩ := Option.bind_eq_some_iff.mp e
  refine ⟨F, ow, ρ, so, d, so1, r0, rs, e1, fun F1 H1 v r1 s1 d1 => ?_⟩
  split at e2
  · rename_i n hn
    replace hn : d = .int n := hn
    subst hn
    obtain ⟨hc, e3⟩ := if_some e2
    cases e3
    exact ⟨n, dq_int d1, RgOk.of_le (by omega) (by omega) (by omega) (by omega), fun q nq => keepN k r1 s1 rgV_dq nq⟩
  · cases e2
section
variable {X : Cx} {p p2 pos pos2 : Pos} {e : Expr} {f : DE}
theorem pdn_listRange (hc : X.calm = true) (hg : Gl X "list") (hm : X.mg "list" = none) (hg2 : Gl X "range") (hm2 : X.mg "range" = none) (ha : PD X e f) (hs : starEach [e] X.env = (false, eval e X.env) :: starEach [] X.env := by rfl)
    (hs2 : starEach [.Call (.Name "range" p2) [e] [] pos2] X.env = (false, eval (.Call (.Name "range" p2) [e] [] pos2) X.env) :: starEach [] X.env := by rfl) : PDN X (.Call (.Name "list" p) [.Call (.Name "range" p2) [e] [] pos2] [] pos) (nRange f) :=
  (pe_listRg hc hg hm (prg_1 hg2 hm2 ha hs) hs2).imp tOf_nRange
end
/-! sum -/
def gSum : List PyData → Option PyData
  | [.list ds] => (intsOf ds).map fun ns => .int ns.sum
  | [.tuple ds] => (intsOf ds).map fun ns => .int ns.sum
  | _ => none
def rSumU (K : PySem.W.Frag) : List V → Hp → VK → Prop := fun vs H Q => ∃ (a : Addr) (ns : List Int), vs = [V.ref a] ∧ (SqL K H a (ns.map V.int) ∨ SqT K H a (ns.map V.int)) ∧ Q (.int ns.sum) H
theorem sum_rawT {prog : Program} {w : World} {A : Around} {E : Value → Shared → Prop} {s : Shared} {l : Addr} {its : List Value} {ns : List Int} {Q : Value → Shared → Prop} (hh : A.handled = none) (hl : s.heap.IsTuple l its.toArray) (hi : IntsAre its ns)
    (h : ∀ h' tk t', (∀ b o, s.heap.get? b = some o → h'.get? b = some o) → Q (.int ns.sum t') { s with heap := h', toks := tk }) : wpAny (model prog w) A (call (.builtin "sum") [.ref l]) Q E s := by
  obtain ⟨xs, e⟩ := hi.allInts.items
  have hn : numsOf (intItems xs).toList = ns := by rw [← e]; exact hi.numsOf
  rw [nums_intItems] at hn
  rw [e] at hl
  have hlt : l < s.heap.objs.size := by obtain ⟨_, e, _⟩ := hl; exact Heap.lt_size e
  refine call_sum_walkG (wpAny_pyIter_tuple hl ?_)
  refine ⟨_, _, _, _, _, _, PySem.numAt xs, rfl, Walks.tuple (A := A.in1) hh _ l (Nat.ne_of_lt hlt) (intItems xs), ⟨⟨_, Heap.get?_push_size _ rfl, rfl, rfl⟩, hl.push _⟩, (fun b hb => ?_), (fun _ _ => intItems_at), fun h' tk t' hk => ?_⟩
  · show b < (s.heap.push _).objs.size
    rw [Heap.size_push]
    rcases List.mem_cons.mp hb with rfl | hb
    · exact Nat.lt_succ_self _
    · rcases List.mem_cons.mp hb with rfl | hb
      · exact Nat.lt_succ_of_lt hlt
      · cases hb
  · have := h h' tk t' (fun b o eo => hk b o (fun hm => absurd (Heap.lt_size eo) ((List.mem_singleton.mp hm) ▸ Nat.lt_irrefl _)) (Heap.get?_push_of_some _ eo))
    rw [preSum_eq, List.take_of_length_le (by simp [intItems]), hn]
    exact this
theorem cr_sumU {X : Cx} (hc : X.calm = true) : CallR X (.builtin "sum") (rSumU X.K) := by
  intro pins s σ H vs us Q I r h
  obtain ⟨a, ns, rfl, hs, q⟩ := h
  rcases hs with hs | hs
  · exact cr_sum hc pins s σ H _ us Q I r ⟨a, ns, rfl, hs, q⟩
  · obtain ⟨its, rv, hl, _⟩ := I.tuple hs
    rw [Vals.ref1 r]
    exact sum_rawT (I.ok.hd hc) hl rv.ints fun h' tk t' hk => ⟨.int _, H, I.kept hk, ⟨_, rfl⟩, q⟩
theorem cd_sum {X : Cx} : CallD X.K (rSumU X.K) gSum := by
  intro F H vs ds d Q s hv e k
  unfold gSum at e
  split at e
  · obtain ⟨ns, h1, rfl⟩ := Option.map_eq_some_iff.mp e
    obtain ⟨v, rfl, h⟩ := hv.one
    obtain ⟨a, xs, rfl, ha, hx⟩ := dq_lst h
    rw [intsOf_eq h1] at hx
    rw [dqInts hx] at ha
    exact ⟨a, ns, rfl, .inl (SqL.of (s _ _ ha)), here k s (.int _)⟩
  · obtain ⟨ns, h1, rfl⟩ := Option.map_eq_some_iff.mp e
    obtain ⟨v, rfl, h⟩ := hv.one
    obtain ⟨a, xs, rfl, ha, hx⟩ := dq_tup h
    rw [intsOf_eq h1] at hx
    rw [dqInts hx] at ha
    exact ⟨a, ns, rfl, .inr ((ha.sq s)), here k s (.int _)⟩
  · cases e
/-! max, min -/
def gMax : List PyData → Option PyData
  | [.int a, .int b] => some (.int (if b > a then b else a))
  | [d] => (seqOf d).bind fun ds => (intsOf ds).bind fun ns => match ns with
    | [] => none
    | n :: r => some (.int (r.foldl max n))
  | _ => none
def rMaxU (K : PySem.W.Frag) : List V → Hp → VK → Prop := fun xs H Q => (∃ i j, xs = [.int i, .int j] ∧ Q (.int (if j > i then j else i)) H) ∨ rMaxD K xs H Q
theorem cr_maxU {X : Cx} (hc : X.calm = true) (hu : X.A.units + 64 < cLine) : CallR X (.builtin "max") (rMaxU X.K) := (call_max2 hc).or (cr_maxD hc hu)
theorem cd_max {X : Cx} : CallD X.K (rMaxU X.K) gMax := by
  intro F H vs ds d Q s hv e k
  unfold gMax at e
  split at e
  · cases e
    obtain ⟨v, u, rfl, h1, h2⟩ := hv.two
    cases h1
    cases h2
    exact .inl ⟨_, _, rfl, here k s (.int _)⟩
  · obtain ⟨es, e1, e2⟩ := Option.bind_eq_some_iff.mp e
    obtain ⟨ns, e3, e4⟩ := Option.bind_eq_some_iff.mp e2
    obtain ⟨v, rfl, h⟩ := hv.one
    cases ns with
    | nil => cases e4
    | cons n r =>
      cases e4
      obtain ⟨p, xs, rfl, hs, ha⟩ := dq_seq h e1
      rw [intsOf_eq e3] at ha
      rw [dqInts ha] at hs
      refine .inr ⟨p, n, r, rfl, ?_, here k s (.int _)⟩
      rcases hs with ⟨hs, _⟩ | ⟨hs, _⟩
      · exact .inr (SqL.of (s _ _ hs))
      · exact .inl ((hs.sq s))
  · cases e
def gMin : List PyData → Option PyData
  | [.int a, .int b] => some (.int (if b < a then b else a))
  | [d] => (seqOf d).bind fun ds => (intsOf ds).bind fun ns => match ns with
    | [] => none
    | n :: r => some (.int (r.foldl min n))
  | _ => none
def rMinI (K : PySem.W.Frag) : List V → Hp → VK → Prop := fun vs H Q =>
  ∃ (a : Addr) (n : Int) (ns : List Int), vs = [V.ref a] ∧ (SqT K H a ((n :: ns).map V.int) ∨ SqL K H a ((n :: ns).map V.int)) ∧ Q (.int (ns.foldl min n)) H
theorem cr_minI {X : Cx} (hc : X.calm = true) (hu : X.A.units + 64 < cLine) : CallR X (.builtin "min") (rMinI X.K) := by
  intro pins s σ H vs us Q I r h
  obtain ⟨a, n, ns, rfl, hs, q⟩ := h
  rw [Vals.ref1 r]
  have hd : PyData.depthAll (PyData.int n :: ns.map PyData.int) = 0 := RL.depth_ints (n :: ns)
  have fin : ∀ (v : Value) (h' : Heap) (tk : Nat) (bs : List Addr), Reads h' v (PySem.W.minD (.int n) (ns.map PyData.int)) bs → (∀ b o, s.heap.get? b = some o → h'.get? b = some o) →
      EP X pins σ Q v { s with heap := h', toks := tk } := fun v h' tk bs rd hk => by
    rw [PySem.W.minD_ints] at rd
    cases rd with
    | int i t => exact ⟨.int _, H, I.kept hk, ⟨t, rfl⟩, q⟩
  rcases hs with hs | hs
  · obtain ⟨its, rv, hl, _⟩ := I.tuple hs
    obtain ⟨as, rd⟩ := readsAll_ints (h := s.heap) rv
    exact PySem.W.min_tuple_data (I.ok.hd hc) hl (by simpa using rd) (RL.alike_ints (n :: ns)) (by rw [hd]; omega) fun _ v h' tk bs _ r hk => fin v h' tk bs r hk
  · obtain ⟨its, rv, hl, _⟩ := I.list hs
    obtain ⟨as, rd⟩ := readsAll_ints (h := s.heap) rv
    exact PySem.W.min_list_data (I.ok.hd hc) hl.isList (by simpa using rd) (RL.alike_ints (n :: ns)) (by rw [hd]; omega) fun _ v h' tk bs _ r hk => fin v h' tk bs r hk
def rMinU (K : PySem.W.Frag) : List V → Hp → VK → Prop := fun xs H Q => (∃ i j, xs = [.int i, .int j] ∧ Q (.int (if j < i then j else i)) H) ∨ rMinI K xs H Q
theorem cr_minU {X : Cx} (hc : X.calm = true) (hu : X.A.units + 64 < cLine) : CallR X (.builtin "min") (rMinU X.K) := (call_min2 hc).or (cr_minI hc hu)
theorem cd_min {X : Cx} : CallD X.K (rMinU X.K) gMin := by
  intro F H vs ds d Q s hv e k
  unfold gMin at e
  split at e
  · cases e
    obtain ⟨v, u, rfl, h1, h2⟩ := hv.two
    cases h1
    cases h2
    exact .inl ⟨_, _, rfl, here k s (.int _)⟩
  · obtain ⟨es, e1, e2⟩ := Option.bind_eq_some_iff.mp e
    obtain ⟨ns, e3, e4⟩ := Option.bind_eq_some_iff.mp e2
    obtain ⟨v, rfl, h⟩ := hv.one
    cases ns with
    | nil => cases e4
    | cons n r =>
      cases e4
      obtain ⟨p, xs, rfl, hs, ha⟩ := dq_seq h e1
      rw [intsOf_eq e3] at ha
      rw [dqInts ha] at hs
      refine .inr ⟨p, n, r, rfl, ?_, here k s (.int _)⟩
      rcases hs with ⟨hs, _⟩ | ⟨hs, _⟩
      · exact .inr (SqL.of (s _ _ hs))
      · exact .inl ((hs.sq s))
  · cases e
end MP
namespace MP
open PySem PySem.Spec PyProof.Rows L2 RL

/-! ### isinstance -/
def isA : String → PyData → Option Bool
  | "int", d => some d.isInt
  | "str", d => some d.isStr
  | "tuple", d => some d.isTuple
  | "list", d => some d.isList
  | "bool", d => some d.isBool
  | _, _ => none
def eIsi (T : String) (f : DE) : DE := fun ρ so => (f ρ so).bind fun p => (isA T p.1).map fun b => (.bool b, p.2)
def rIsiD (K : PySem.W.Frag) (T : String) : List V → Hp → VK → Prop := fun xs H Q => ∃ x d b, xs = [x, .ty T] ∧ Dp K H x d ∧ isA T d = some b ∧ Q (.bl b) H
theorem cr_isiD {X : Cx} {T : String} : CallR X (.builtin "isinstance") (rIsiD X.K T) := by
  intro pins s σ H xs us Q I r h
  obtain ⟨x, d, b, rfl, hd, hb, q⟩ := h
  obtain ⟨u, w, rfl, r1, r2⟩ := vals2 r
  obtain ⟨as, rd⟩ := Dp.reads I d x u hd r1
  cases r2
  unfold isA at hb
  split at hb <;> cases hb
  · exact PySem.W.isinstance_int_data rd fun tk _ => ⟨.bl _, H, I.tok _, rfl, q⟩
  · exact PySem.W.isinstance_str_data rd fun tk _ => ⟨.bl _, H, I.tok _, rfl, q⟩
  · exact PySem.W.isinstance_tuple_data rd fun tk _ => ⟨.bl _, H, I.tok _, rfl, q⟩
  · exact PySem.W.isinstance_list_data rd fun tk _ => ⟨.bl _, H, I.tok _, rfl, q⟩
  · exact PySem.W.isinstance_bool_data rd fun tk _ => ⟨.bl _, H, I.tok _, rfl, q⟩
theorem tOf_isi {K : PySem.W.Frag} {T : String} {f : DE} (σ : L2.St) (H : Hp) (Q : VK) (h : tOf K (eIsi T f) σ H Q) : tCB (rIsiD K T) (tCons (tOf K f) (tCons (tC (.ty T)) tNil)) σ H Q := by
  obtain ⟨F, ow, ρ, so, d, so', r0, rs, e, k⟩ := h
  obtain ⟨⟨x, so1⟩, e1, e2⟩ := Option.bind_eq_some_iff.mp e
  obtain ⟨b, e3, e4⟩ := Option.map_eq_some_iff.mp e2
  cases e4
  exact ⟨F, ow, ρ, so, x, _, r0, rs, e1, fun F1 H1 v r1 s1 d1 => ⟨v, x, b, rfl, dq_dp _ _ (dq_same r1.sub _ _ d1), e3, k F1 H1 _ r1 s1 (.bl _)⟩⟩
section
variable {X : Cx} {p p2 pos : Pos} {e : Expr} {f : DE} {t : Str} {T : String}
theorem pd_isi (hg : Gl X "isinstance") (hm : X.mg "isinstance" = none) (hg2 : Gl X t) (hm2 : X.mg t = none) (hv2 : bootBuiltins t = some (.type T)) (ha : PD X e f) (hn2 : t ≠ "__name__" := by decide) (hd2 : (t == ("__debug__" : Str)) = false := by decide)
    (hs : starEach [e, .Name t p2] X.env = (false, eval e X.env) :: starEach [.Name t p2] X.env := by rfl) (hs2 : starEach [.Name t p2] X.env = (false, eval (.Name t p2) X.env) :: starEach [] X.env := by rfl) (hpl : (backTo pos (starEach [.Name t p2] X.env)).any (·.1) = false := by rfl) :
    PD X (.Call (.Name "isinstance" p) [e, .Name t p2] [] pos) (eIsi T f) :=
  (pe_callB cr_isiD hg hm (by decide +kernel) (pa_cons ha (pa_cons (pe_bltn (v := .ty T) hg2 hm2 hv2 rfl hn2 hd2) pa_nil hs2) hs) (by decide) (by decide) hs hpl).imp tOf_isi
end

/-! ### any, all -/
def fits63b : PyData → Bool
  | .str x => decide (x.length < 2 ^ 60)
  | .list xs => decide (xs.length < 2 ^ 60)
  | .tuple xs => decide (xs.length < 2 ^ 60)
  | _ => true
theorem fits63_of {d : PyData} (h : fits63b d = true) : d.fits63 := by
  cases d <;> first
    | trivial
    | (have := of_decide_eq_true (show decide _ = true from h); simp only [PyData.fits63]; omega)
def gAny : List PyData → Option PyData
  | [d] => (seqOf d).bind fun ds => if PyData.plainAll ds && ds.all fits63b then some (.bool (ds.any PyData.truthy)) else none
  | _ => none
def gAll : List PyData → Option PyData
  | [d] => (seqOf d).bind fun ds => if PyData.plainAll ds && ds.all fits63b then some (.bool (ds.all PyData.truthy)) else none
  | _ => none
def rAnyD (K : PySem.W.Frag) (f : List PyData → Bool) : List V → Hp → VK → Prop := fun vs H Q => ∃ v d ds, vs = [v] ∧ Dp K H v d ∧ seqOf d = some ds ∧ PyData.plainAll ds = true ∧ ds.all fits63b = true ∧ Q (.bl (f ds)) H
theorem cr_anyD {X : Cx} (hc : X.calm = true) : CallR X (.builtin "any") (rAnyD X.K fun ds => ds.any PyData.truthy) := by
  intro pins s σ H vs us Q I r h
  obtain ⟨v, d, ds, rfl, hd, e, hp, hf, q⟩ := h
  obtain ⟨u, rfl, ru⟩ := vals1 r
  obtain ⟨as, rd⟩ := Dp.reads I d v u hd ru
  have hf' : ∀ x ∈ ds, x.fits63 := fun x hx => fits63_of (List.all_eq_true.mp hf x hx)
  have fin : ∀ h' tk, (∀ b o, s.heap.get? b = some o → h'.get? b = some o) → EP X pins σ Q (.bool (ds.any PyData.truthy)) { s with heap := h', toks := tk } := fun h' tk hk => ⟨.bl _, H, I.kept hk, rfl, q⟩
  cases rd with
  | list h1 h2 h3 h4 => cases e; exact PySem.W.any_list_data (I.ok.hd hc) ⟨_, h1, h2, _, h3⟩ h4 hp hf' fin
  | tuple h1 h2 h3 h4 => cases e; exact PySem.W.any_tuple_data (I.ok.hd hc) ⟨_, h1, h2, _, h3⟩ h4 hp hf' fin
  | _ => cases e
theorem cr_allD {X : Cx} (hc : X.calm = true) : CallR X (.builtin "all") (rAnyD X.K fun ds => ds.all PyData.truthy) := by
  intro pins s σ H vs us Q I r h
  obtain ⟨v, d, ds, rfl, hd, e, hp, hf, q⟩ := h
  obtain ⟨u, rfl, ru⟩ := vals1 r
  obtain ⟨as, rd⟩ := Dp.reads I d v u hd ru
  have hf' : ∀ x ∈ ds, x.fits63 := fun x hx => fits63_of (List.all_eq_true.mp hf x hx)
  have fin : ∀ h' tk, (∀ b o, s.heap.get? b = some o → h'.get? b = some o) → EP X pins σ Q (.bool (ds.all PyData.truthy)) { s with heap := h', toks := tk } := fun h' tk hk => ⟨.bl _, H, I.kept hk, rfl, q⟩
  cases rd with
  | list h1 h2 h3 h4 => cases e; exact PySem.W.all_list_data (I.ok.hd hc) ⟨_, h1, h2, _, h3⟩ h4 hp hf' fin
  | tuple h1 h2 h3 h4 => cases e; exact PySem.W.all_tuple_data (I.ok.hd hc) ⟨_, h1, h2, _, h3⟩ h4 hp hf' fin
  | _ => cases e
theorem cd_any {X : Cx} : CallD X.K (rAnyD X.K fun ds => ds.any PyData.truthy) gAny := by
  intro F H vs ds d Q s hv e k
  unfold gAny at e
  split at e
  · obtain ⟨es, e1, e2⟩ := Option.bind_eq_some_iff.mp e
    obtain ⟨hc, rfl⟩ := if_some e2
    rw [Bool.and_eq_true] at hc
    obtain ⟨v, rfl, h⟩ := hv.one
    exact ⟨v, _, es, rfl, dq_dp _ _ (dq_same s _ _ h), e1, hc.1, hc.2, here k s (.bl _)⟩
  · cases e
theorem cd_all {X : Cx} : CallD X.K (rAnyD X.K fun ds => ds.all PyData.truthy) gAll := by
  intro F H vs ds d Q s hv e k
  unfold gAll at e
  split at e
  · obtain ⟨es, e1, e2⟩ := Option.bind_eq_some_iff.mp e
    obtain ⟨hc, rfl⟩ := if_some e2
    rw [Bool.and_eq_true] at hc
    obtain ⟨v, rfl, h⟩ := hv.one
    exact ⟨v, _, es, rfl, dq_dp _ _ (dq_same s _ _ h), e1, hc.1, hc.2, here k s (.bl _)⟩
  · cases e

/-! ### repr, str, int -/
def isShown : PyData → Bool
  | .dict _ => false
  | _ => true
theorem isShown_of {d : PyData} (h : isDisplay d = true) : isShown d = true := by cases d <;> first | rfl | cases h
def rReprX (K : PySem.W.Frag) : List V → Hp → VK → Prop := fun xs H Q =>
  ∃ x d, xs = [x] ∧ Dp K H x d ∧ isShown d = true ∧ d.showable = true ∧ d.hasDict = false ∧ d.depth ≤ 50 ∧ d.shown.length ≤ sizeLine ∧ Q (.str d.shown) H
theorem call_reprX {X : Cx} (hg : X.A.guards = some []) (hu : X.A.units + 64 < cLine) : CallR X (.builtin "repr") (rReprX X.K) := by
  intro pins s σ H xs us Q I r h
  obtain ⟨x, d, rfl, hd, disp, sh, nd, dp, sz, q⟩ := h
  cases d with
  | list ds => exact call_repr hg hu pins s σ H _ _ Q I r ⟨x, _, rfl, hd, rfl, sh, nd, dp, sz, q⟩
  | tuple ds => exact call_repr hg hu pins s σ H _ _ Q I r ⟨x, _, rfl, hd, rfl, sh, nd, dp, sz, q⟩
  | dict kvs => cases disp
  | none =>
    cases hd
    obtain ⟨u, rfl, r1⟩ := vals1 r
    cases r1
    exact P.repr_of_none ⟨.str _, H, I.kept (fun _ _ e => e), ⟨_, rfl⟩, q⟩
  | bool b =>
    cases hd
    obtain ⟨u, rfl, r1⟩ := vals1 r
    cases r1
    exact P.repr_of_bool ⟨.str _, H, I.kept (fun _ _ e => e), ⟨_, rfl⟩, q⟩
  | int i =>
    cases hd
    obtain ⟨u, rfl, r1⟩ := vals1 r
    obtain ⟨t, rfl⟩ := r1
    exact P.repr_of_int (of_decide_eq_true sh) ⟨.str _, H, I.kept (fun _ _ e => e), ⟨_, rfl⟩, q⟩
  | str t =>
    cases hd
    obtain ⟨u, rfl, r1⟩ := vals1 r
    obtain ⟨t, rfl⟩ := r1
    exact P.repr_of_str ⟨.str _, H, I.kept (fun _ _ e => e), ⟨_, rfl⟩, q⟩ sz
def fitsB (d : PyData) : Bool := isShown d && d.showable && !d.hasDict && decide (d.depth ≤ 50) && decide (d.shown.length ≤ 16000000)
def gRepr : List PyData → Option PyData
  | [d] => if fitsB d then some (.str d.shown) else none
  | _ => none
theorem cd_repr {X : Cx} : CallD X.K (rReprX X.K) gRepr := by
  intro F H vs ds d Q s hv e k
  unfold gRepr at e
  split at e
  · obtain ⟨hc, rfl⟩ := if_some e
    unfold fitsB at hc
    simp only [Bool.and_eq_true, decide_eq_true_eq, Bool.not_eq_true'] at hc
    obtain ⟨⟨⟨⟨h1, h2⟩, h3⟩, h4⟩, h5⟩ := hc
    obtain ⟨v, rfl, h⟩ := hv.one
    exact ⟨v, _, rfl, dq_dp _ _ (dq_same s _ _ h), h1, h2, h3, h4, Nat.le_trans h5 (by decide), here k s (.str _)⟩
  · cases e
theorem fits_B {d : PyData} (h1 : isDisplay d = true) (h2 : plainD d = true) (h3 : d.depth ≤ 50) (h4 : wt d ≤ 1000000) : fitsB d = true := by
  have f := Fits.of h1 h2 h3 h4
  unfold fitsB
  have h5 := Nat.le_trans (shown_le d h2) h4
  rw [isShown_of f.disp, f.sh, f.nd, decide_eq_true f.dp, decide_eq_true (by omega)]
  rfl
def gInt : List PyData → Option PyData
  | [.int i] => some (.int i)
  | [.bool b] => some (.int (if b then 1 else 0))
  | _ => none
theorem cd_int {X : Cx} : CallD X.K (fun xs H Q => (∃ i, xs = [.int i] ∧ Q (.int i) H) ∨ ∃ k, xs = [.bl k] ∧ Q (.int (if k then 1 else 0)) H) gInt := by
  intro F H vs ds d Q s hv e k
  unfold gInt at e
  split at e
  · cases e
    obtain ⟨v, rfl, h⟩ := hv.one
    cases h
    exact .inl ⟨_, rfl, here k s (.int _)⟩
  · cases e
    obtain ⟨v, rfl, h⟩ := hv.one
    cases h
    exact .inr ⟨_, rfl, here k s (.int _)⟩
  · cases e

/-! ### parts of lists and tuples -/
abbrev DO := Slots → Sto → Option (Option Int × Sto)
def oNo : DO := fun _ so => some (none, so)
def oSome (f : DE) : DO := fun ρ so => (f ρ so).bind fun p => match p.1 with
  | .int i => some (some i, p.2)
  | _ => none
def tOfO (K : PySem.W.Frag) (f : DO) : TO := fun σ H Q => ∃ F ow ρ so d so', RelO K F H ow so ∧ RelS K F ow σ ρ ∧ f ρ so = some (d, so') ∧ ∀ F' H', RelO K F' H' ow so' → Stp ow F H F' H' → Q d H'
abbrev PDO (X : Cx) (e : Option Expr) (f : DO) : Prop := PO X e (tOfO X.K f)
theorem _root_.L2.PO.imp {X : Cx} {e : Option Expr} {t t' : TO} (h : PO X e t) (i : ∀ σ H Q, t' σ H Q → t σ H Q) : PO X e t' := ⟨fun pins s σ H Q I q => h.run pins s σ H Q I (i σ H Q q)⟩
section
variable {X : Cx} {e : Expr} {f : DE}
theorem pdo_none : PDO X none oNo := po_none.imp fun σ H Q h => by
  obtain ⟨F, ow, ρ, so, d, so', r0, rs, e, k⟩ := h
  cases e
  exact k F H r0 (Stp.refl _ _ _)
theorem pdo_some (h : PD X e f) : PDO X (some e) (oSome f) := (po_some h).imp fun σ H Q h => by
  obtain ⟨F, ow, ρ, so, d, so', r0, rs, e, k⟩ := h
  obtain ⟨⟨x, so1⟩, e1, e2⟩ := Option.bind_eq_some_iff.mp e
  refine ⟨F, ow, ρ, so, x, so1, r0, rs, e1, fun F1 H1 v r1 s1 d1 => ?_⟩
  split at e2
  · rename_i i hi
    cases e2
    replace hi : x = .int i := hi
    subst hi
    exact ⟨i, dq_int d1, k F1 H1 r1 s1⟩
  · cases e2
end
def cutD (xs : List PyData) (lo hi : Option Int) : List PyData := (xs.drop (HT.sIx xs.length 0 lo)).take (HT.sIx xs.length xs.length hi - HT.sIx xs.length 0 lo)
def dSl (d : PyData) (lo hi : Option Int) : Option PyData := match d with
  | .list xs => some (.list (cutD xs lo hi))
  | .tuple xs => some (.tuple (cutD xs lo hi))
  | _ => none
def eSl (f : DE) (lo hi : DO) : DE := fun ρ so => (f ρ so).bind fun p => (lo ρ p.2).bind fun q => (hi ρ q.2).bind fun r => (dSl p.1 q.1 r.1).map fun d => (d, r.2)
theorem cut_dq {K : PySem.W.Frag} {F : Hp} {vs : List V} {ds : List PyData} (h : DqAll K F vs ds) (lo hi : Option Int) : DqAll K F (cutV vs lo hi) (cutD ds lo hi) := by
  unfold cutV cutD
  rw [h.len]
  exact (h.drop _).take _
theorem cutV_whole {vs : List V} {lo hi : Option Int} (h : HT.sIx vs.length 0 lo = 0 ∧ HT.sIx vs.length vs.length hi = vs.length) : cutV vs lo hi = vs := by
  unfold cutV
  rw [h.1, h.2]
  simp
theorem tOf_sl {K : PySem.W.Frag} {f : DE} {lo hi : DO} (σ : L2.St) (H : Hp) (Q : VK) (h : tOf K (eSl f lo hi) σ H Q) : tSl (fun x lo hi H Q => rSlL K x lo hi H Q ∨ rSlP K x lo hi H Q) (tOf K f) (tOfO K lo) (tOfO K hi) σ H Q := by
  obtain ⟨F, ow, ρ, so, d, so', r0, rs, e, k⟩ := h
  obtain ⟨⟨x, so1⟩, e1, e⟩ := Option.bind_eq_some_iff.mp e
  obtain ⟨⟨l, so2⟩, e2, e⟩ := Option.bind_eq_some_iff.mp e
  obtain ⟨⟨u, so3⟩, e3, e⟩ := Option.bind_eq_some_iff.mp e
  obtain ⟨z, e4, e⟩ := Option.map_eq_some_iff.mp e
  cases e
  refine ⟨F, ow, ρ, so, x, so1, r0, rs, e1, fun F1 H1 v r1 s1 d1 => ⟨F1, ow, ρ, so1, l, so2, r1, rs.mono s1.fz, e2, fun F2 H2 r2 s2 => ⟨F2, ow, ρ, so2, u, _, r2, (rs.mono s1.fz).mono s2.fz, e3, fun F3 H3 r3 s3 => ?_⟩⟩⟩
  have s03 := s1.trans (s2.trans s3)
  have dx := dq_same (s2.fz.trans s3.fz) _ _ d1
  have kk : ∀ F' H' v, Stp [] F3 H3 F' H' → Same F' H' → Dq K F' v _ → Q v H' := fun F' H' v s e d => k F' H' v (r3.grow s e) (s03.trans s.some_of) d
  cases x with
  | list xs =>
    cases e4
    obtain ⟨a, vs, rfl, ha, hv⟩ := dq_lst dx
    exact .inl ⟨a, vs, rfl, SqL.of (r3.sub _ _ ha), fun p np => fresh kk r3.sub np (new_lst (r3.sub.free np) (cut_dq hv _ _))⟩
  | tuple xs =>
    cases e4
    obtain ⟨a, vs, rfl, ha, hv⟩ := dq_tup dx
    refine .inr ⟨a, vs, rfl, (ha.sq r3.sub), fun w => ?_, fun _ p ob np pl => fresh kk r3.sub np (new_tup (r3.sub.free np) pl (cut_dq hv _ _))⟩
    have := cut_dq hv l u
    rw [cutV_whole w] at this
    exact here kk r3.sub (.tup ha this)
  | _ => cases e4
theorem pd_sl {X : Cx} {e : Expr} {lo hi : Option Expr} {f : DE} {l h : DO} {pos p2 : Pos} (he : PD X e f) (hl : PDO X lo l) (hh : PDO X hi h) : PD X (.Subscript e (.Slice lo hi none p2) pos) (eSl f l h) := (pe_slice (sl_list.or sl_tupP) he hl hh).imp tOf_sl

/-! ### lists of one's own, the rest -/
section
variable {K : PySem.W.Frag}
theorem tOf_oCall {i : Nat} {r : List V → Hp → VK → Prop} {g : List PyData → Option PyData} (hr : CallD K r g) (σ : L2.St) (H : Hp) (Q : VK) (h : tOf K (oCall i g) σ H Q) : tCB r (tCons (tVar i) tNil) σ H Q := by
  obtain ⟨F, ow, ρ, so, d, so', r0, rs, e, k⟩ := h
  obtain ⟨⟨j, ds⟩, e1, e2⟩ := Option.bind_eq_some_iff.mp e
  obtain ⟨z, e3, e4⟩ := Option.bind_eq_some_iff.mp e2
  obtain ⟨v, e5, e6⟩ := Option.map_eq_some_iff.mp e4
  cases e6
  obtain ⟨a, hv, ha, hj⟩ := own_at rs e1
  obtain ⟨fa, vs, hvs, hd⟩ := own_lst r0 ha hj
  refine ⟨_, hv, ?_⟩
  have s1 : Same F (upd F a (.lst vs)) := same_new fa
  have s2 : Same (upd F a (.lst vs)) H := fun b o hb => by
    by_cases e : b = a
    · subst e
      rw [upd_same] at hb
      cases hb
      exact hvs
    · rw [upd_ne e] at hb
      exact r0.sub b o hb
  refine hr (upd F a (.lst vs)) H [.ref a] [.list ds] _ Q s2 (.cons (.lst upd_same (dqAll_same s1 _ _ hd)) .nil) e3 fun F' H' u s3 e7 du => ?_
  -- the value is no thing of the heap: what was frozen for it is forgotten
  have hu : Dq K F u d := by
    have : u = v := by
      cases d <;> cases e5 <;> (cases du; rfl)
    rw [this]
    exact scV_dq e5
  have hs : Same H H' := s3.same
  have r1 : RelO K F H' ow so := by
    refine ⟨fun b o hb => hs b o (r0.sub b o hb), r0.len, fun m b w hb hw => ?_, r0.inj, fun m b hb => s3.live b (r0.old m b hb)⟩
    have q := r0.own m b w hb hw
    cases w with
    | no => cases b <;> trivial
    | lst es =>
      cases b with
      | none => exact q.elim
      | some b =>
        obtain ⟨fb, us, hu', hd2⟩ := q
        exact ⟨fb, us, hs _ _ hu', hd2⟩
    | dct es =>
      cases b with
      | none => exact q.elim
      | some b =>
        obtain ⟨fb, us, hu', hd2⟩ := q
        exact ⟨fb, us, hs _ _ hu', hd2⟩
    | fz d =>
      cases b with
      | none => exact q.elim
      | some b => exact ⟨s3.live b q.1, q.2⟩
  exact k F H' u r1 ⟨Same.refl _, fun a o _ h => hs a o h, fun _ _ _ _ h => h, s3.live⟩ hu
theorem tOf_oTuple {i : Nat} (σ : L2.St) (H : Hp) (Q : VK) (h : tOf K (oTuple i) σ H Q) : tCB (fun xs H Q => ∃ p ys, xs = [.ref p] ∧ ((SqL K H p ys ∧ NewT H ys Q) ∨ (SqT K H p ys ∧ Q (.ref p) H))) (tCons (tVar i) tNil) σ H Q := by
  obtain ⟨F, ow, ρ, so, d, so', r0, rs, e, k⟩ := h
  obtain ⟨⟨j, ds⟩, e1, e2⟩ := Option.map_eq_some_iff.mp e
  cases e2
  obtain ⟨a, hv, ha, hj⟩ := own_at rs e1
  obtain ⟨fa, vs, hvs, hd⟩ := own_lst r0 ha hj
  exact ⟨_, hv, a, vs, rfl, .inl ⟨SqL.of hvs, fun l ob nl pl => k _ _ _ (r0.grow (Stp.new nl r0.sub) (same_upd r0.sub)) (Stp.new nl r0.sub).some_of (new_tup (r0.sub.free nl) pl hd)⟩⟩
theorem tOf_oAppend {i : Nat} {f : DE} (σ : L2.St) (H : Hp) (Q : VK) (h : tOf K (oAppend i f) σ H Q) : tBM K "list" rAppend (tVar i) (tCons (tOf K f) tNil) σ H Q := by
  obtain ⟨F, ow, ρ, so, d, so', r0, rs, e, k⟩ := h
  obtain ⟨⟨j0, ds0⟩, e0, e⟩ := Option.bind_eq_some_iff.mp e
  obtain ⟨⟨x, so1⟩, e1, e2⟩ := Option.bind_eq_some_iff.mp e
  obtain ⟨⟨j, ds⟩, e3, e4⟩ := Option.bind_eq_some_iff.mp e2
  obtain ⟨hl, e5⟩ := if_some e4
  cases e5
  obtain ⟨a0, hv0, ha0, hj0⟩ := own_at rs e0
  obtain ⟨_, vs0, hvs0, _⟩ := own_lst r0 ha0 hj0
  obtain ⟨a, hv, ha, hj⟩ := own_at rs e3
  rw [hv] at hv0
  cases hv0
  refine ⟨_, hv, .inl ⟨rfl, _, SqL.of hvs0⟩, F, ow, ρ, so, x, so1, r0, rs, e1, fun F1 H1 v r1 s1 d1 => ?_⟩
  obtain ⟨fa, vs, hvs, hd⟩ := own_lst r1 ha hj
  obtain ⟨p1, p2⟩ := r1.put ha hj hvs (hd.app (.cons d1 .nil))
  exact ⟨_, vs, v, rfl, rfl, hvs, by rw [hd.len]; exact lim_lt (Nat.le_of_lt hl), k F1 _ _ p1 (s1.trans p2) .non⟩
theorem tOf_oExtend {i : Nat} {f : DL} (σ : L2.St) (H : Hp) (Q : VK) (h : tOf K (oExtend i f) σ H Q) : tBM K "list" rExtend (tVar i) (tCons (tOfN K f) tNil) σ H Q := by
  obtain ⟨F, ow, ρ, so, d, so', r0, rs, e, k⟩ := h
  obtain ⟨⟨j0, ds0⟩, e0, e⟩ := Option.bind_eq_some_iff.mp e
  obtain ⟨⟨x, so1⟩, e1, e2⟩ := Option.bind_eq_some_iff.mp e
  obtain ⟨⟨j, ds⟩, e3, e4⟩ := Option.bind_eq_some_iff.mp e2
  obtain ⟨hl, e5⟩ := if_some e4
  cases e5
  obtain ⟨a0, hv0, ha0, hj0⟩ := own_at rs e0
  obtain ⟨_, vs0, hvs0, _⟩ := own_lst r0 ha0 hj0
  obtain ⟨a, hv, ha, hj⟩ := own_at rs e3
  rw [hv] at hv0
  cases hv0
  refine ⟨_, hv, .inl ⟨rfl, _, SqL.of hvs0⟩, F, ow, ρ, so, x, so1, r0, rs, e1, fun F1 H1 b ws r1 s1 n0 f1 h1 d1 => ?_⟩
  obtain ⟨fa, vs, hvs, hd⟩ := own_lst r1 ha hj
  obtain ⟨p1, p2⟩ := r1.put ha hj hvs (hd.app d1)
  exact ⟨_, b, vs, ws, rfl, rfl, hvs, h1, by rw [hd.len, d1.len]; exact lim_le hl, k F1 _ _ p1 (s1.trans p2) .non⟩
theorem erase_dq {F : Hp} : ∀ {vs : List V} {ds : List PyData} (i : Nat), DqAll K F vs ds → DqAll K F (vs.eraseIdx i) (ds.eraseIdx i) := fun i h => h.erase i
theorem tOf_oPop {i : Nat} {f : DE} (σ : L2.St) (H : Hp) (Q : VK) (h : tOf K (oPop i f) σ H Q) : tBM K "list" rPopAt (tVar i) (tCons (tOf K f) tNil) σ H Q := by
  obtain ⟨F, ow, ρ, so, d, so', r0, rs, e, k⟩ := h
  obtain ⟨⟨j0, ds0⟩, e0, e⟩ := Option.bind_eq_some_iff.mp e
  obtain ⟨⟨x, so1⟩, e1, e2⟩ := Option.bind_eq_some_iff.mp e
  obtain ⟨⟨j, ds⟩, e3, e4⟩ := Option.bind_eq_some_iff.mp e2
  obtain ⟨a0, hv0, ha0, hj0⟩ := own_at rs e0
  obtain ⟨_, vs0, hvs0, _⟩ := own_lst r0 ha0 hj0
  obtain ⟨a, hv, ha, hj⟩ := own_at rs e3
  rw [hv] at hv0
  cases hv0
  refine ⟨_, hv, .inl ⟨rfl, _, SqL.of hvs0⟩, F, ow, ρ, so, x, so1, r0, rs, e1, fun F1 H1 v r1 s1 d1 => ?_⟩
  split at e4
  · rename_i m hm
    replace hm : x = .int m := hm
    subst hm
    obtain ⟨n, e5, e6⟩ := Option.bind_eq_some_iff.mp e4
    obtain ⟨y, e7, e8⟩ := Option.bind_eq_some_iff.mp e6
    obtain ⟨hl, e9⟩ := if_some e8
    cases e9
    cases d1
    obtain ⟨fa, vs, hvs, hd⟩ := own_lst r1 ha hj
    obtain ⟨u, hu, du⟩ := hd.get2 e7
    obtain ⟨p1, p2⟩ := r1.put ha hj hvs (hd.erase n)
    have e5' : ixN vs.length m = some n := by rw [hd.len]; exact e5
    exact ⟨_, vs, m, n, u, rfl, rfl, hvs, by omega, by omega, (ixN_seq e5').1, hu, k F1 _ _ p1 (s1.trans p2) du⟩
  · cases e4
theorem tOf_sOwn {p : Nat} {W : Str → Hp → Prop} {i : Nat} {b f : DE} (D : Ends) (σ : L2.St) (H : Hp) (h : tOfS K p W (sOwn i b f) D σ H) : tAsg (tOf K f) (gSub (tVar i) (tOf K b) rSetL) D σ H := by
  obtain ⟨F, ow, ρ, so, fl, so', r0, rs, e, k⟩ := h
  obtain ⟨⟨x, so1⟩, e1, e⟩ := Option.bind_eq_some_iff.mp e
  obtain ⟨⟨y, so2⟩, e2, e⟩ := Option.bind_eq_some_iff.mp e
  obtain ⟨⟨j, ds⟩, e3, e4⟩ := Option.bind_eq_some_iff.mp e
  obtain ⟨a, hv, ha, hj⟩ := own_at rs e3
  refine ⟨F, ow, ρ, so, x, so1, r0, rs, e1, fun F1 H1 v r1 s1 d1 => ⟨_, hv, F1, ow, ρ, so1, y, so2, r1, rs.mono s1.fz, e2, fun F2 H2 u r2 s2 d2 => ?_⟩⟩
  split at e4
  · rename_i m hm
    replace hm : y = .int m := hm
    subst hm
    obtain ⟨n, e5, e6⟩ := Option.map_eq_some_iff.mp e4
    cases e6
    cases d2
    obtain ⟨fa, vs, hvs, hd⟩ := own_lst r2 ha hj
    obtain ⟨p1, p2⟩ := r2.put ha hj hvs (DqAll.set (dq_same s2.fz _ _ d1) n hd)
    have e5' : ixN vs.length m = some n := by rw [hd.len]; exact e5
    exact ⟨a, vs, m, n, rfl, rfl, hvs, e5', k F2 _ ow p1 (s1.trans (s2.trans p2)) (OwTo.refl _ _ _) σ ((rs.mono s1.fz).mono s2.fz)⟩
  · cases e4
theorem tOf_oEq {neg : Bool} {i : Nat} {f : DE} (σ : L2.St) (H : Hp) (Q : VK) (h : tOf K (oEq neg i f) σ H Q) : tOp (rEqU K neg) (tVar i) (tOf K f) σ H Q := by
  obtain ⟨F, ow, ρ, so, d, so', r0, rs, e, k⟩ := h
  obtain ⟨⟨x, so1⟩, e1, e2⟩ := Option.bind_eq_some_iff.mp e
  obtain ⟨⟨j, ds⟩, e3, e4⟩ := Option.bind_eq_some_iff.mp e2
  obtain ⟨z, e5, e6⟩ := Option.map_eq_some_iff.mp e4
  cases e6
  obtain ⟨a, hv, ha, hj⟩ := own_at rs e3
  refine ⟨_, hv, F, ow, ρ, so, x, so1, r0, rs, e1, fun F1 H1 v r1 s1 d1 => ?_⟩
  obtain ⟨fa, vs, hvs, hd⟩ := own_lst r1 ha hj
  have dl : Dp K H1 (.ref a) (.list ds) := .lst (SqL.of hvs) (dqAll_dp _ _ (dqAll_same r1.sub _ _ hd))
  have dx : Dp K H1 v x := dq_dp _ _ (dq_same r1.sub _ _ d1)
  cases neg with
  | true =>
    obtain ⟨hc, rfl⟩ := if_some (show dNe (.list ds) x = some _ from e5)
    simp only [Bool.and_eq_true, decide_eq_true_eq] at hc
    exact ⟨_, _, dl, dx, hc.1.1, hc.1.2, hc.2, k F1 H1 _ r1 s1 (.bl _)⟩
  | false =>
    obtain ⟨hc, rfl⟩ := if_some (show dEq (.list ds) x = some _ from e5)
    simp only [Bool.and_eq_true, decide_eq_true_eq] at hc
    exact ⟨_, _, dl, dx, hc.1.1, hc.1.2, hc.2, k F1 H1 _ r1 s1 (.bl _)⟩
/-! the script -/
def scLen (i : Nat) : DE := fun ρ so => match ρ[i]? with
  | some (some (.s ns)) => some (.int ns.length, so)
  | _ => none
def scIx (i : Nat) (b : DE) : DE := fun ρ so => (b ρ so).bind fun p => match ρ[i]? with
  | some (some (.s ns)) => match p.1 with
    | .int j => (atI ns j).map fun n => (.int n, p.2)
    | _ => none
  | _ => none
theorem tOf_scLen {i : Nat} (σ : L2.St) (H : Hp) (Q : VK) (h : tOf K (scLen i) σ H Q) : tCB (rLenU K) (tCons (tVar i) tNil) σ H Q := by
  obtain ⟨F, ow, ρ, so, d, so', r0, rs, e, k⟩ := h
  unfold scLen at e
  split at e
  · rename_i ns hi
    cases e
    obtain ⟨v, hv, a, ha, rfl⟩ := rs.get hi
    refine ⟨_, hv, .inl ⟨a, _, rfl, .inl (r0.sub.seq ha), ?_⟩⟩
    rw [List.length_map]
    exact k F H _ r0 (Stp.refl _ _ _) (.int _)
  · cases e
theorem atI_map {α β : Type} (f : α → β) {xs : List α} {i : Int} {x : α} (h : atI xs i = some x) : atI (xs.map f) i = some (f x) := by
  unfold atI at h ⊢
  rw [List.length_map]
  obtain ⟨j, e1, e2⟩ := Option.bind_eq_some_iff.mp h
  rw [e1]
  show (xs.map f)[j]? = _
  rw [List.getElem?_map, e2]
  rfl
theorem tOf_scIx {i : Nat} {b : DE} (σ : L2.St) (H : Hp) (Q : VK) (h : tOf K (scIx i b) σ H Q) : tOp (rIxL K) (tVar i) (tOf K b) σ H Q := by
  obtain ⟨F, ow, ρ, so, d, so', r0, rs, e, k⟩ := h
  obtain ⟨⟨x, so1⟩, e1, e2⟩ := Option.bind_eq_some_iff.mp e
  split at e2
  · rename_i ns hi
    split at e2
    · rename_i m hm
      replace hm : x = .int m := hm
      subst hm
      obtain ⟨n, e3, e4⟩ := Option.map_eq_some_iff.mp e2
      cases e4
      obtain ⟨v, hv, a, ha, rfl⟩ := rs.get hi
      refine ⟨_, hv, F, ow, ρ, so, _, so1, r0, rs, e1, fun F1 H1 v r1 s1 d1 => ?_⟩
      cases d1
      exact ⟨a, _, m, .int n, rfl, rfl, r1.sub.seq (s1.fz.seq ha), atI_map V.int e3, k F1 H1 _ r1 s1 (.int _)⟩
    · cases e2
  · cases e2
end
section
variable {X : Cx} {x y : Str} {p p2 pos apos cpos : Pos} {e : Expr} {f : DE} {fl : DL} {i : Nat} {id T : String} {r : List V → Hp → VK → Prop} {g : List PyData → Option PyData}
theorem pd_oIx {b : Expr} {fb : DE} (hN : X.N[i]? = some y) (hv : Vis X.env.scope y) (hb : PD X b fb) (hs : PlainIx b) (hd : (y == ("__debug__" : Str)) = false := by decide) (hcd : (y == ("__classdict__" : Str)) = false := by decide) : PD X (.Subscript (.Name y p2) b pos) (oIx i fb) := (pe_ix ix_list (pe_var hN hv hd hcd) hb hs).imp tOf_oIx
theorem pd_scIx {b : Expr} {fb : DE} (hN : X.N[i]? = some y) (hv : Vis X.env.scope y) (hb : PD X b fb) (hs : PlainIx b) (hd : (y == ("__debug__" : Str)) = false := by decide) (hcd : (y == ("__classdict__" : Str)) = false := by decide) : PD X (.Subscript (.Name y p2) b pos) (scIx i fb) := (pe_ix ix_list (pe_var hN hv hd hcd) hb hs).imp tOf_scIx
theorem pd_oCallB (hc : CallR X (.builtin id) r) (hd : CallD X.K r g) (hg : Gl X x) (hm : X.mg x = none) (hv : bootBuiltins x = some (.builtin id)) (hN : X.N[i]? = some y) (hv2 : Vis X.env.scope y) (hn : x ≠ "__name__" := by decide) (hdb : (x == ("__debug__" : Str)) = false := by decide)
    (hd2 : (y == ("__debug__" : Str)) = false := by decide) (hcd : (y == ("__classdict__" : Str)) = false := by decide) (he : starEach [.Name y p2] X.env = (false, eval (.Name y p2) X.env) :: starEach [] X.env := by rfl) (hpl : (backTo pos (starEach [] X.env)).any (·.1) = false := by rfl) :
    PD X (.Call (.Name x p) [.Name y p2] [] pos) (oCall i g) := (pe_callB hc hg hm hv (pa_cons (pe_var hN hv2 hd2 hcd) pa_nil he) hn hdb he hpl).imp (tOf_oCall hd)
theorem pd_scLen (hg : Gl X "len") (hm : X.mg "len" = none) (hN : X.N[i]? = some y) (hv2 : Vis X.env.scope y)
    (hd2 : (y == ("__debug__" : Str)) = false := by decide) (hcd : (y == ("__classdict__" : Str)) = false := by decide) (he : starEach [.Name y p2] X.env = (false, eval (.Name y p2) X.env) :: starEach [] X.env := by rfl) (hpl : (backTo pos (starEach [] X.env)).any (·.1) = false := by rfl) :
    PD X (.Call (.Name "len" p) [.Name y p2] [] pos) (scLen i) := (pe_callB cr_lenU hg hm PySem.boot_len (pa_cons (pe_var hN hv2 hd2 hcd) pa_nil he) (by decide) (by decide) he hpl).imp tOf_scLen
theorem pd_oTuple (hg : Gl X "tuple") (hm : X.mg "tuple" = none) (hN : X.N[i]? = some y) (hv2 : Vis X.env.scope y)
    (hd2 : (y == ("__debug__" : Str)) = false := by decide) (hcd : (y == ("__classdict__" : Str)) = false := by decide) (he : starEach [.Name y p2] X.env = (false, eval (.Name y p2) X.env) :: starEach [] X.env := by rfl) (hpl : (backTo pos (starEach [] X.env)).any (·.1) = false := by rfl) :
    PD X (.Call (.Name "tuple" p) [.Name y p2] [] pos) (oTuple i) := (pe_callTy call_tupleP hg hm (by decide +kernel) (pa_cons (pe_var hN hv2 hd2 hcd) pa_nil he) (by decide) (by decide) he hpl).imp tOf_oTuple
theorem pd_oAppend (hN : X.N[i]? = some y) (hv : Vis X.env.scope y) (ha : PD X e f) (hd : (y == ("__debug__" : Str)) = false := by decide) (hcd : (y == ("__classdict__" : Str)) = false := by decide)
    (hbase : attributeBase (.Name y p2) "append" X.env (eval (.Name y p2) X.env) = eval (.Name y p2) X.env := by rfl)
    (hfew : ((backTo cpos (starEach [e] X.env)).all (fun x => !x.1) && (backToKw cpos (keywordEach [] X.env)).all (fun x => x.1.isSome) && decide (([e] : List Expr).length + ([] : List Keyword).length + (if ([] : List Keyword).isEmpty then 0 else 1) < 30)) = true := by rfl)
    (hline : (apos.endLine == cpos.line) = true := by rfl) (hs : starEach [e] X.env = (false, eval e X.env) :: starEach [] X.env := by rfl) (hplain : (backTo cpos (starEach [] X.env)).any (·.1) = false := by rfl) :
    PD X (.Call (.Attribute (.Name y p2) "append" apos) [e] [] cpos) (oAppend i f) := (pe_bm PySem.F.plainAttrs_list PySem.F.slot_list_append PySem.F.type_list_append mt_append (pe_var hN hv hd hcd) (pa_cons ha pa_nil hs) hbase hfew hline hs hplain).imp tOf_oAppend
theorem pd_oExtend (hN : X.N[i]? = some y) (hv : Vis X.env.scope y) (ha : PDN X e fl) (hd : (y == ("__debug__" : Str)) = false := by decide) (hcd : (y == ("__classdict__" : Str)) = false := by decide)
    (hbase : attributeBase (.Name y p2) "extend" X.env (eval (.Name y p2) X.env) = eval (.Name y p2) X.env := by rfl)
    (hfew : ((backTo cpos (starEach [e] X.env)).all (fun x => !x.1) && (backToKw cpos (keywordEach [] X.env)).all (fun x => x.1.isSome) && decide (([e] : List Expr).length + ([] : List Keyword).length + (if ([] : List Keyword).isEmpty then 0 else 1) < 30)) = true := by rfl)
    (hline : (apos.endLine == cpos.line) = true := by rfl) (hs : starEach [e] X.env = (false, eval e X.env) :: starEach [] X.env := by rfl) (hplain : (backTo cpos (starEach [] X.env)).any (·.1) = false := by rfl) :
    PD X (.Call (.Attribute (.Name y p2) "extend" apos) [e] [] cpos) (oExtend i fl) := (pe_bm PySem.F.plainAttrs_list PySem.F.slot_list_extend PySem.F.type_list_extend mt_extend (pe_var hN hv hd hcd) (pa_cons ha pa_nil hs) hbase hfew hline hs hplain).imp tOf_oExtend
theorem pd_oPop (hN : X.N[i]? = some y) (hv : Vis X.env.scope y) (ha : PD X e f) (hd : (y == ("__debug__" : Str)) = false := by decide) (hcd : (y == ("__classdict__" : Str)) = false := by decide)
    (hbase : attributeBase (.Name y p2) "pop" X.env (eval (.Name y p2) X.env) = eval (.Name y p2) X.env := by rfl)
    (hfew : ((backTo cpos (starEach [e] X.env)).all (fun x => !x.1) && (backToKw cpos (keywordEach [] X.env)).all (fun x => x.1.isSome) && decide (([e] : List Expr).length + ([] : List Keyword).length + (if ([] : List Keyword).isEmpty then 0 else 1) < 30)) = true := by rfl)
    (hline : (apos.endLine == cpos.line) = true := by rfl) (hs : starEach [e] X.env = (false, eval e X.env) :: starEach [] X.env := by rfl) (hplain : (backTo cpos (starEach [] X.env)).any (·.1) = false := by rfl) :
    PD X (.Call (.Attribute (.Name y p2) "pop" apos) [e] [] cpos) (oPop i f) := (pe_bm PySem.F.plainAttrs_list PySem.F.slot_list_pop PySem.F.type_list_pop mt_popAt (pe_var hN hv hd hcd) (pa_cons ha pa_nil hs) hbase hfew hline hs hplain).imp tOf_oPop
theorem pd_oEq {b : Expr} {fb : DE} (hu : X.A.units + 64 < cLine) (hN : X.N[i]? = some y) (hv : Vis X.env.scope y) (hb : PD X b fb) (hm : behindInMarks .Eq b = false) (hd : (y == ("__debug__" : Str)) = false := by decide) (hcd : (y == ("__classdict__" : Str)) = false := by decide) : PD X (.Compare (.Name y p2) [.Eq] [b] pos) (oEq false i fb) := (pe_cmpR (op_eqU hu) (pe_var hN hv hd hcd) hb hm).imp tOf_oEq
theorem pd_oNe {b : Expr} {fb : DE} (hu : X.A.units + 64 < cLine) (hN : X.N[i]? = some y) (hv : Vis X.env.scope y) (hb : PD X b fb) (hm : behindInMarks .NotEq b = false) (hd : (y == ("__debug__" : Str)) = false := by decide) (hcd : (y == ("__classdict__" : Str)) = false := by decide) : PD X (.Compare (.Name y p2) [.NotEq] [b] pos) (oEq true i fb) := (pe_cmpR (op_neU hu) (pe_var hN hv hd hcd) hb hm).imp tOf_oEq
theorem pds_own {pq : Nat} {W : Str → Hp → Prop} {b v : Expr} {fb : DE} (hN : X.N[i]? = some y) (hv : Vis X.env.scope y) (hb : PD X b fb) (he : PD X v f) (hs : swapsWithSole [.Subscript (.Name y p2) b p] v pos.line X.env = pure false := by rfl) (hw : swappedStores [.Subscript (.Name y p2) b p] v X.env = pure none := by rfl)
    (h1 : (assignEach [.Subscript (.Name y p2) b p] X.env).map (·.2) = [assign (.Subscript (.Name y p2) b p) X.env] := by rfl) (hx : ∀ v, assign (.Subscript (.Name y p2) b p) X.env v = (do
      let ov ← holding [v] (eval (.Name y p2) X.env)
      let iv ← holding [v, ov] (eval b X.env)
      standAt p
      holding [v, ov, iv] (setItem ov iv v)
      release [v, ov, iv] []) := by intro _; rfl) (hd : (y == ("__debug__" : Str)) = false := by decide) (hcd : (y == ("__classdict__" : Str)) = false := by decide) :
    PDS X pq W (.Assign [.Subscript (.Name y p2) b p] v pos) (sOwn i fb f) := (ps_asg he (pg_sub (pe_var hN hv hd hcd) hb set_list hx) hs hw h1).imp tOf_sOwn
end
end MP
namespace MP
open PySem PySem.Spec PyProof.Rows L2 RL

theorem pdv (i : Nat) {X : Cx} {x : Str} {pos : Pos} (hN : X.N[i]? = some x := by rfl) (hv : Vis X.env.scope x := by first | exact Or.inl rfl | exact Or.inr (Or.inl rfl) | exact Or.inr (Or.inr rfl)) (hd : (x == ("__debug__" : Str)) = false := by decide)
    (hcd : (x == ("__classdict__" : Str)) = false := by decide) : PD X (.Name x pos) (eVar i) := pd_var hN hv hd hcd
/-! ### defs that hand on a new list -/
def fDefN (n m : Nat) (f : DL) : List Sl → Option (List PyData) := fun as => if as.length = n then (f (as.map some ++ List.replicate (m - n) none) []).map (·.1) else none
def spFN (K : PySem.W.Frag) (n : Nat) (G : List Sl → Option (List PyData)) : Sp := fun vs H Q _ => vs.length = n ∧ ∃ F as ds, Same F H ∧ RelS K F [] (vs.map some) (as.map some) ∧ G as = some ds ∧
  ∀ F' H' a us, Stp [] F H F' H' → Same F' H' → H a = none → F' a = none → H' a = some (.lst us) → DqAll K F' us ds → Q (.ref a) H'
section
variable {K : PySem.W.Frag}
theorem relO_nil {F H : Hp} (s : Same F H) : RelO K F H [] [] := ⟨s, rfl, fun k a w h => by simp at h, fun j k a h => by simp at h, fun k a h => by simp at h⟩
theorem bodyN_of {N : List Str} {n : Nat} {f : DL} (vs : List V) (H : Hp) (Q : VK) (E : XK) (h : spFN K n (fDefN n N.length f) vs H Q E) : tRet (tOfN K f) { nx := fun _ H' => Q .non H', rt := Q } (L2.start N vs) H := by
  obtain ⟨hn, F, as, ds, s, rs, e, k⟩ := h
  have la : vs.length = as.length := by have := rs.len; simpa using this
  have e : (if as.length = n then _ else none) = some ds := e
  by_cases hc : as.length = n
  · rw [if_pos hc] at e
    obtain ⟨⟨es, so1⟩, e1, e2⟩ := Option.map_eq_some_iff.mp e
    cases e2
    refine ⟨F, [], _, [], es, so1, relO_nil s, ?_, e1, fun F' H' a us r' s' => k F' H' a us s' r'.sub⟩
    refine ⟨?_, fun i v s hv hs => ?_⟩
    · unfold L2.start
      rw [List.length_append, List.length_append, List.length_map, List.length_map, List.length_replicate, List.length_replicate, la, hc]
    · unfold L2.start at hv
      by_cases hi : i < as.length
      · rw [List.getElem?_append_left (by rw [List.length_map]; omega)] at hv hs
        exact rs.ats i v s hv hs
      · rw [List.getElem?_append_right (by rw [List.length_map]; omega), List.getElem?_replicate] at hs
        split at hs
        · cases hs; trivial
        · cases hs
  · rw [if_neg hc] at e
    cases e
end
section
variable {P : Program} {w : World} {K : PySem.W.Frag} {mg : Str → Option Value} {base : Heap} {x : Str} {st : Stmt} {N ps : List Str} {k n : Nat} {f : DL} {e : Expr} {pos : Pos}
theorem mk_calN (D : Df K mg x st) (S : FnScope N ps (defScope st)) (hn : ps.length = n)
    (hb : ∀ (kV doc pm : Value) (an : Option Addr) (cdv ct : Value) (us : List Value), us.length = ps.length → bindArgs (PySem.W.fnOf x x (defArgs st) (defBody st) (defScope st) .none kV doc pm an cdv ct) ⟨us, []⟩ = pure (ps.zip us))
    (hbd : defBody st = [.Return (some e) pos])
    (h : ∀ (f0 : Addr) (cdv : Value) (A : Around) (outer : List Env) (s : Shared) (H : Hp) (E : XK), Room k (A.deeper (envOfC x (defScope st) s.heap.objs.size f0 cdv)) → PDN (cxOf CX0 P w K mg base N x (defScope st) f0 cdv A outer s H E).nox e f) :
    C8.Cal P w K mg base (k + 1) x (spFN K n (fDefN n N.length f)) [] :=
  D.cal S hb (fun vs H Q E h => by rw [hn]; exact h.1) fun f0 cdv A outer s H vs Q E hr hsp => ⟨_, by rw [hbd]; exact pss_one (ps_ret (h f0 cdv A outer s H E hr)), bodyN_of vs H Q E hsp⟩
end
def nCall (G : List Sl → Option (List PyData)) (g : DL) : DL := fun ρ so => (g ρ so).bind fun p => (G (p.1.map .d)).map fun ds => (ds, p.2)
theorem tOf_nCall {K : PySem.W.Frag} {G : List Sl → Option (List PyData)} {n : Nat} {g : DL} {E : XK} (σ : L2.St) (H : Hp) (Q : VK) (h : tOfN K (nCall G g) σ H Q) (hn : ∀ ρ so p, g ρ so = some p → p.1.length = n) : tCall (spFN K n G) [] E (tOfA K g) σ H Q := by
  obtain ⟨F, ow, ρ, so, d, so', r0, rs, e, k⟩ := h
  obtain ⟨⟨ds, so1⟩, e1, e2⟩ := Option.bind_eq_some_iff.mp e
  obtain ⟨es, e3, e4⟩ := Option.map_eq_some_iff.mp e2
  cases e4
  refine ⟨F, ow, ρ, so, ds, _, r0, rs, e1, fun F1 H1 vs r1 s1 d1 => ?_⟩
  simp only [List.append_nil]
  refine ⟨by rw [d1.len]; exact hn _ _ _ e1, F1, ds.map .d, _, r1.sub, relS_args d1, e3, fun F2 H2 a us s2 e5 n0 f2 h2 d2 => k F2 H2 a us (r1.grow s2 e5) (s1.trans s2.some_of) ?_ f2 h2 d2⟩
  cases q : H a with
  | none => rfl
  | some o => exact absurd n0 (s1.live a (by rw [q]; exact nofun))
section
variable {X : Cx} {k j n : Nat} {x : Str} {G : List Sl → Option (List PyData)} {p pos : Pos} {e : Expr} {es : List Expr} {g : DL}
theorem pdn_call (c : C8.Cal X.prog X.w X.K X.mg X.base k x (spFN X.K n G) []) (hr : Room j X.A) (hk : k ≤ j) (hg : Gl X x) (ha : PDA X (e :: es) g) (hn : ∀ ρ so p, g ρ so = some p → p.1.length = n)
    (hdb : (x == ("__debug__" : Str)) = false := by decide) (he : starEach (e :: es) X.env = (false, eval e X.env) :: starEach es X.env := by rfl) (hpl : (backTo pos (starEach es X.env)).any (·.1) = false := by rfl) :
    PDN X (.Call (.Name x p) (e :: es) [] pos) (nCall G g) := (C8.pe_c c hr hk hg ha hdb he hpl).imp fun σ H Q h => tOf_nCall σ H Q h hn
end

/-! ### two names at once -/
section
variable {K : PySem.W.Frag} {F H : Hp} {ow : Ads} {so : Sto} {σ : L2.St} {ρ : Slots}
theorem new_rel {j : Nat} {a : Addr} {vs : List V} {ds : List PyData} (r1 : RelO K F H ow so) (ne : ∀ (m : Nat) (b : Addr), ow[m]? = some (some b) → b ≠ a) (f1 : F a = none) (h1 : H a = some (.lst vs)) (d1 : DqAll K F vs ds) : RelO K F H (ow.set j (some a)) (so.set j (.lst ds)) := by
  refine ⟨r1.sub, by rw [List.length_set, List.length_set]; exact r1.len, fun m b w hb hw => ?_, fun m n b hm hn => ?_, fun m b hb => ?_⟩
  · rcases get_set hw with ⟨rfl, rfl⟩ | ⟨nm, hw⟩
    · rcases get_set hb with ⟨_, rfl⟩ | ⟨nm, _⟩
      · exact ⟨f1, vs, h1, d1⟩
      · exact absurd rfl nm
    · rcases get_set hb with ⟨z, _⟩ | ⟨_, hb⟩
      · exact absurd z nm
      · exact r1.own m b w hb hw
  · rcases get_set hm with ⟨z1, y1⟩ | ⟨nm, hm'⟩
    · rcases get_set hn with ⟨z2, y2⟩ | ⟨nn, hn'⟩
      · rw [z1, z2]
      · exact absurd (Option.some.inj y1) (ne n b hn')
    · rcases get_set hn with ⟨z2, y2⟩ | ⟨nn, hn'⟩
      · exact absurd (Option.some.inj y2) (ne m b hm')
      · exact r1.inj m n b hm' hn'
  · rcases get_set hb with ⟨rfl, e1⟩ | ⟨nm, hb⟩
    · cases e1
      rw [h1]
      exact nofun
    · exact r1.old m b hb
theorem new_slots {i j : Nat} {a : Addr} (rs : RelS K F ow σ ρ) (hj : j < ow.length) (hall : (ρ.set i none).all (noO j) = true) : RelS K F (ow.set j (some a)) (σ.set i (some (.ref a))) (ρ.set i (some (.o j))) := by
  refine ⟨by rw [List.length_set, List.length_set]; exact rs.len, fun m v s hv hs => ?_⟩
  rcases get_set hs with ⟨rfl, rfl⟩ | ⟨nm, hs'⟩
  · rcases get_set hv with ⟨_, rfl⟩ | ⟨nm, _⟩
    · exact ⟨_, rfl, a, by rw [List.getElem?_set_self hj], rfl⟩
    · exact absurd rfl nm
  · rcases get_set hv with ⟨z, _⟩ | ⟨_, hv⟩
    · exact absurd z nm
    · have q := rs.ats m v s hv hs'
      cases s with
      | none => trivial
      | some s =>
        obtain ⟨u, hu, q⟩ := q
        refine ⟨u, hu, ?_⟩
        cases s with
        | d x => exact q
        | s ns => exact q
        | o n =>
          obtain ⟨b, hb, e⟩ := q
          have mem : some (Sl.o n) ∈ ρ.set i none := List.mem_of_getElem? (i := m) (by rw [List.getElem?_set_ne (Ne.symm nm)]; exact hs')
          have hn : (n != j) = true := List.all_eq_true.mp hall _ mem
          have hn : n ≠ j := by simpa using hn
          exact ⟨b, by rw [List.getElem?_set_ne (Ne.symm hn)]; exact hb, e⟩
theorem owTo_set {p j : Nat} {a : Addr} {H0 : Hp} (hj : p ≤ j) (n0 : H0 a = none) : OwTo p ow H0 (ow.set j (some a)) := by
  refine ⟨by rw [List.length_set], fun m => ?_⟩
  by_cases e : j = m
  · subst e
    refine .inr ⟨hj, fun b hb => ?_⟩
    rcases get_set hb with ⟨_, e1⟩ | ⟨nm, _⟩
    · cases e1
      exact n0
    · exact absurd rfl nm
  · exact .inl (List.getElem?_set_ne e)
end
/-- x, y = data, data -/
def sParDD (i j : Nat) (f g : DE) : DS := fun ρ so => (f ρ so).bind fun p => (g ρ p.2).map fun q => (.nx ((ρ.set i (some (.d p.1))).set j (some (.d q.1))), q.2)
def putN (i k : Nat) (ds : List PyData) (ρ : Slots) (so : Sto) : Option (Slots × Sto) := if decide (k < so.length) && (ρ.set i none).all (noO k) then some (ρ.set i (some (.o k)), so.set k (.lst ds)) else none
/-- x, y = data, a new list -/
def sParDN (i j k : Nat) (f : DE) (g : DL) : DS := fun ρ so => (f ρ so).bind fun p => (g ρ p.2).bind fun q => (putN j k q.1 (ρ.set i (some (.d p.1))) q.2).map fun r => (.nx r.1, r.2)
/-- x, y = a new list, a new list -/
def sParNN (i k j l : Nat) (f g : DL) : DS := fun ρ so => (f ρ so).bind fun p => (g ρ p.2).bind fun q => (putN i k p.1 ρ q.2).bind fun r => (putN j l q.1 r.1 r.2).map fun t => (.nx t.1, t.2)
section
variable {K : PySem.W.Frag} {p : Nat} {W : Str → Hp → Prop}
theorem tOf_parDD {i j : Nat} {f g : DE} (D : Ends) (σ : L2.St) (H : Hp) (h : tOfS K p W (sParDD i j f g) D σ H) : tPar i j (tCons (tOf K f) (tCons (tOf K g) tNil)) D σ H := by
  obtain ⟨F, ow, ρ, so, fl, so', r0, rs, e, k⟩ := h
  obtain ⟨⟨x, so1⟩, e1, e⟩ := Option.bind_eq_some_iff.mp e
  obtain ⟨⟨y, so2⟩, e2, e⟩ := Option.map_eq_some_iff.mp e
  cases e
  exact ⟨F, ow, ρ, so, x, so1, r0, rs, e1, fun F1 H1 v r1 s1 d1 => ⟨F1, ow, ρ, so1, y, _, r1, rs.mono s1.fz, e2, fun F2 H2 u r2 s2 d2 => ⟨v, u, rfl, k F2 H2 ow r2 (s1.trans s2) (OwTo.refl _ _ _) _ ((((rs.mono s1.fz).mono s2.fz).set (i := i) (v := some v) (s := some (.d x)) ⟨v, rfl, dq_same s2.fz _ _ d1⟩).set (i := j) (v := some u) (s := some (.d y)) ⟨u, rfl, d2⟩)⟩⟩⟩
theorem putN_ok {i k : Nat} {ds : List PyData} {ρ ρ' : Slots} {so so' : Sto} (e : putN i k ds ρ so = some (ρ', so')) : k < so.length ∧ (ρ.set i none).all (noO k) = true ∧ ρ' = ρ.set i (some (.o k)) ∧ so' = so.set k (.lst ds) := by
  obtain ⟨hc, e⟩ := if_some e
  rw [Bool.and_eq_true, decide_eq_true_eq] at hc
  cases e
  exact ⟨hc.1, hc.2, rfl, rfl⟩
theorem tOf_parDN {i j k : Nat} {f : DE} {g : DL} (hk : p ≤ k) (D : Ends) (σ : L2.St) (H : Hp) (h : tOfS K p W (sParDN i j k f g) D σ H) : tPar i j (tCons (tOf K f) (tCons (tOfN K g) tNil)) D σ H := by
  obtain ⟨F, ow, ρ, so, fl, so', r0, rs, e, kk⟩ := h
  obtain ⟨⟨x, so1⟩, e1, e⟩ := Option.bind_eq_some_iff.mp e
  obtain ⟨⟨y, so2⟩, e2, e⟩ := Option.bind_eq_some_iff.mp e
  obtain ⟨⟨ρ', so3⟩, e3, e4⟩ := Option.map_eq_some_iff.mp e
  cases e4
  obtain ⟨h1, h2, h3, h4⟩ := putN_ok e3
  subst h3 h4
  refine ⟨F, ow, ρ, so, x, so1, r0, rs, e1, fun F1 H1 v r1 s1 d1 => ⟨F1, ow, ρ, so1, y, so2, r1, rs.mono s1.fz, e2, fun F2 H2 a us r2 s2 n0 f2 hu d2 => ⟨v, _, rfl, ?_⟩⟩⟩
  have lo : k < ow.length := by rw [r2.len]; exact h1
  have ne : ∀ (m : Nat) (b : Addr), ow[m]? = some (some b) → b ≠ a := fun m b hb e => r1.old m b hb (by rw [e]; exact n0)
  have nH : H a = none := by
    cases q : H a with
    | none => rfl
    | some o => exact absurd n0 (s1.live a (by rw [q]; exact nofun))
  exact kk F2 H2 _ (new_rel r2 ne f2 hu d2) (s1.trans s2) (owTo_set hk nH) _ (new_slots ((((rs.mono s1.fz).mono s2.fz)).set (i := i) (v := some v) (s := some (.d x)) ⟨v, rfl, dq_same s2.fz _ _ d1⟩) lo h2)
theorem tOf_parNN {i k j l : Nat} {f g : DL} (hk : p ≤ k) (hl : p ≤ l) (hkl : k ≠ l) (D : Ends) (σ : L2.St) (H : Hp) (h : tOfS K p W (sParNN i k j l f g) D σ H) : tPar i j (tCons (tOfN K f) (tCons (tOfN K g) tNil)) D σ H := by
  obtain ⟨F, ow, ρ, so, fl, so', r0, rs, e, kk⟩ := h
  obtain ⟨⟨x, so1⟩, e1, e⟩ := Option.bind_eq_some_iff.mp e
  obtain ⟨⟨y, so2⟩, e2, e⟩ := Option.bind_eq_some_iff.mp e
  obtain ⟨⟨ρ1, so3⟩, e3, e⟩ := Option.bind_eq_some_iff.mp e
  obtain ⟨⟨ρ2, so4⟩, e4, e5⟩ := Option.map_eq_some_iff.mp e
  cases e5
  obtain ⟨h1, h2, h3, h4⟩ := putN_ok e3
  obtain ⟨h5, h6, h7, h8⟩ := putN_ok e4
  subst h3 h4
  subst h7 h8
  refine ⟨F, ow, ρ, so, x, so1, r0, rs, e1, fun F1 H1 a us r1 s1 n0 f1 hu d1 => ⟨F1, ow, ρ, so1, y, so2, r1, rs.mono s1.fz, e2, fun F2 H2 b ws r2 s2 m0 f2 hw d2 => ⟨_, _, rfl, ?_⟩⟩⟩
  have lo : k < ow.length := by rw [r2.len]; exact h1
  have lo2 : l < (ow.set k (some a)).length := by rw [List.length_set, r2.len]; rw [List.length_set] at h5; exact h5
  have na : some a ∉ ow := fun z => by
    obtain ⟨m, hm⟩ := List.mem_iff_getElem?.mp z
    exact r0.old m a hm n0
  have ne : ∀ (m : Nat) (c : Addr), ow[m]? = some (some c) → c ≠ a := fun m c hc e => r0.old m c hc (by rw [e]; exact n0)
  have ha2 : H2 a = some (.lst us) := s2.keep a _ na hu
  have fa2 : F2 a = none := s2.own a _ na hu f1
  have nab : a ≠ b := ne_of_none hu m0
  have r3 := new_rel (j := k) r2 ne fa2 ha2 (dqAll_same s2.fz _ _ d1)
  have ne2 : ∀ (m : Nat) (c : Addr), (ow.set k (some a))[m]? = some (some c) → c ≠ b := fun m c hc e => by
    subst e
    rcases get_set hc with ⟨_, z⟩ | ⟨_, hc⟩
    · exact nab (Option.some.inj z).symm
    · exact r1.old m c hc m0
  have r4 := new_rel (j := l) r3 ne2 f2 hw d2
  have nHb : H b = none := by
    cases q : H b with
    | none => rfl
    | some o => exact absurd m0 (s1.live b (by rw [q]; exact nofun))
  refine kk F2 H2 _ r4 (s1.trans s2) ⟨by rw [List.length_set, List.length_set], fun m => ?_⟩ _ (new_slots (new_slots ((rs.mono s1.fz).mono s2.fz) lo h2) lo2 h6)
  rcases (owTo_set (ow := ow.set k (some a)) (H0 := H) (p := p) (j := l) (a := b) hl nHb).2 m with z | z
  · rcases (owTo_set (ow := ow) (H0 := H) (p := p) (j := k) (a := a) hk n0).2 m with z1 | z1
    · exact .inl (z.trans z1)
    · exact .inr ⟨z1.1, fun c hc => z1.2 c (by rw [← z]; exact hc)⟩
  · exact .inr z
end
section
variable {X : Cx} {q : Nat} {W : Str → Hp → Prop} {i j : Nat} {x y : Str} {a b : Expr} {px py pt pos : Pos} {kt k2 : Nat} {pt2 : Pos}
theorem pds_parDD {f g : DE} (hc : X.calm = true) (hN : X.N.Nodup) (hi : X.N[i]? = some x) (hj : X.N[j]? = some y) (hij : i ≠ j) (hx : X.env.scope.names.lookup x = some .local) (hy : X.env.scope.names.lookup y = some .local) (ha : PD X a f) (hb : PD X b g)
    (hw : swappedStores [.Tuple [.Name x px, .Name y py] kt pt] (.Tuple [a, b] k2 pt2) X.env = pure (some [x, y])) (hs : swapsWithSole [.Tuple [.Name x px, .Name y py] kt pt] (.Tuple [a, b] k2 pt2) pos.line X.env = pure false := by rfl)
    (s1 : starEach [a, b] X.env = (false, eval a X.env) :: starEach [b] X.env := by rfl) (s2 : starEach [b] X.env = (false, eval b X.env) :: starEach [] X.env := by rfl) :
    PDS X q W (.Assign [.Tuple [.Name x px, .Name y py] kt pt] (.Tuple [a, b] k2 pt2) pos) (sParDD i j f g) := (ps_par hc hN hi hj hij hx hy (pa_cons ha (pa_cons hb pa_nil s2) s1) hw hs).imp tOf_parDD
theorem pds_parDN {f : DE} {g : DL} {k : Nat} (hk : q ≤ k) (hc : X.calm = true) (hN : X.N.Nodup) (hi : X.N[i]? = some x) (hj : X.N[j]? = some y) (hij : i ≠ j) (hx : X.env.scope.names.lookup x = some .local) (hy : X.env.scope.names.lookup y = some .local) (ha : PD X a f) (hb : PDN X b g)
    (hw : swappedStores [.Tuple [.Name x px, .Name y py] kt pt] (.Tuple [a, b] k2 pt2) X.env = pure (some [x, y])) (hs : swapsWithSole [.Tuple [.Name x px, .Name y py] kt pt] (.Tuple [a, b] k2 pt2) pos.line X.env = pure false := by rfl)
    (s1 : starEach [a, b] X.env = (false, eval a X.env) :: starEach [b] X.env := by rfl) (s2 : starEach [b] X.env = (false, eval b X.env) :: starEach [] X.env := by rfl) :
    PDS X q W (.Assign [.Tuple [.Name x px, .Name y py] kt pt] (.Tuple [a, b] k2 pt2) pos) (sParDN i j k f g) := (ps_par hc hN hi hj hij hx hy (pa_cons ha (pa_cons hb pa_nil s2) s1) hw hs).imp (tOf_parDN hk)
theorem pds_parNN {f g : DL} {k l : Nat} (hk : q ≤ k) (hl : q ≤ l) (hkl : k ≠ l) (hc : X.calm = true) (hN : X.N.Nodup) (hi : X.N[i]? = some x) (hj : X.N[j]? = some y) (hij : i ≠ j) (hx : X.env.scope.names.lookup x = some .local) (hy : X.env.scope.names.lookup y = some .local) (ha : PDN X a f) (hb : PDN X b g)
    (hw : swappedStores [.Tuple [.Name x px, .Name y py] kt pt] (.Tuple [a, b] k2 pt2) X.env = pure (some [x, y])) (hs : swapsWithSole [.Tuple [.Name x px, .Name y py] kt pt] (.Tuple [a, b] k2 pt2) pos.line X.env = pure false := by rfl)
    (s1 : starEach [a, b] X.env = (false, eval a X.env) :: starEach [b] X.env := by rfl) (s2 : starEach [b] X.env = (false, eval b X.env) :: starEach [] X.env := by rfl) :
    PDS X q W (.Assign [.Tuple [.Name x px, .Name y py] kt pt] (.Tuple [a, b] k2 pt2) pos) (sParNN i k j l f g) := (ps_par hc hN hi hj hij hx hy (pa_cons ha (pa_cons hb pa_nil s2) s1) hw hs).imp (tOf_parNN hk hl hkl)
end

/-! ### zip of two -/
def pairsD (xs ys : List PyData) : List PyData := List.zipWith (fun a b => .tuple [a, b]) xs ys
def iZip2 (g : DL) : DL := fun ρ so => (g ρ so).bind fun p => match p.1 with
  | [a, b] => (seqOf a).bind fun xs => (seqOf b).bind fun ys => if xs.length = ys.length then some (pairsD xs ys, p.2) else none
  | _ => none
theorem pairs_len {xs ys : List PyData} (h : xs.length = ys.length) : (pairsD xs ys).length = xs.length := by unfold pairsD; rw [List.length_zipWith]; omega
section
variable {K : PySem.W.Frag}
theorem pair_item {F1 F2 H2 H3 : Hp} {xs ys : List PyData} {us ws : List V} {i : Nat} {x : V} (h1 : DqAll K F1 us xs) (h2 : DqAll K F1 ws ys) (a1 : Same F1 F2) (a2 : Same F2 H2) (y : YPair (fun i => us[i]?) (fun i => ws[i]?) i H2 x H3) :
    ∃ F3 d, (pairsD xs ys)[i]? = some d ∧ Stp [] F2 H2 F3 H3 ∧ Same F3 H3 ∧ DqI K true F3 x d := by
  obtain ⟨T, u, w, rfl, nT, rfl, hu, hw⟩ := y
  obtain ⟨d1, g1, q1⟩ := h1.get hu
  obtain ⟨d2, g2, q2⟩ := h2.get hw
  refine ⟨_, .tuple [d1, d2], ?_, Stp.new nT a2, same_upd a2, new_tupI (a2.free nT) (.cons (dq_same a1 _ _ q1) (.cons (dq_same a1 _ _ q2) .nil))⟩
  unfold pairsD
  rw [List.getElem?_zipWith, g1, g2]
end
theorem pdi_zip2 {X : Cx} {e e2 : Expr} {g : DL} {p pos tpos : Pos} {elts : List Expr} {kk : Nat} (hg : Gl X "zip") (hm : X.mg "zip" = none) (ha : PDA X [e, e2] g)
    (hs : starEach [e, e2] X.env = (false, eval e X.env) :: starEach [e2] X.env := by rfl) (hpl : (backTo pos (starEach [e2] X.env)).any (·.1) = false := by rfl) : PDI X (.Tuple elts kk tpos) (.Call (.Name "zip" p) [e, e2] [] pos) (iZip2 g) := by
  refine ⟨fun pins s σ H R I q => ?_⟩
  obtain ⟨F, ow, ρ, so, ds, so', r0, rs, e, k⟩ := q
  obtain ⟨⟨as, so1⟩, e1, e2⟩ := Option.bind_eq_some_iff.mp e
  split at e2
  · rename_i a b hab
    replace hab : as = [a, b] := hab
    subst hab
    obtain ⟨xs, e3, e2⟩ := Option.bind_eq_some_iff.mp e2
    obtain ⟨ys, e4, e2⟩ := Option.bind_eq_some_iff.mp e2
    obtain ⟨hl, e5⟩ := if_some e2
    cases e5
    cases a with
    | list xs' =>
      cases e3
      cases b with
      | list ys' =>
        cases e4
        refine (pi_zip hg hm ha hs hpl).run pins s σ H R I ⟨F, ow, ρ, so, _, so1, r0, rs, e1, fun F1 H1 vs r1 s1 d1 => ?_⟩
        obtain ⟨v, u, rfl, dv, du⟩ := d1.two
        obtain ⟨a, us, rfl, ha, hus⟩ := dq_lst dv
        obtain ⟨b, ws, rfl, hb, hws⟩ := dq_lst du
        have lu := hus.len
        have lw := hws.len
        exact ⟨a, b, us, ws, rfl, SqL.of (r1.sub _ _ ha), SqL.of (r1.sub _ _ hb), k F1 H1 _ _ _ r1 s1 (walk_zip (xs := us) (ys := ws) (by rw [pairs_len hl]; omega)) (fun F2 H2 a1 a2 => ⟨SqL.of (a2 _ _ (a1 _ _ ha)), SqL.of (a2 _ _ (a1 _ _ hb))⟩) fun i F2 H2 x H3 hi a1 a2 y => pair_item hus hws a1 a2 y⟩
      | tuple ys' =>
        cases e4
        refine (pi_zipLT hg hm ha hs hpl).run pins s σ H R I ⟨F, ow, ρ, so, _, so1, r0, rs, e1, fun F1 H1 vs r1 s1 d1 => ?_⟩
        obtain ⟨v, u, rfl, dv, du⟩ := d1.two
        obtain ⟨a, us, rfl, ha, hus⟩ := dq_lst dv
        obtain ⟨b, ws, rfl, hb, hws⟩ := dq_tup du
        have lu := hus.len
        have lw := hws.len
        have wk := walk_zipLT (K := X.K) (a := a) (b := b) (xs := us) (ys := ws) (by omega)
        rw [lu, ← pairs_len hl] at wk
        exact ⟨a, b, us, ws, rfl, SqL.of (r1.sub _ _ ha), (hb.sq r1.sub), k F1 H1 _ _ _ r1 s1 wk (fun F2 H2 a1 a2 => ⟨SqL.of (a2 _ _ (a1 _ _ ha)), (hb.sq (a1.trans a2))⟩) fun i F2 H2 x H3 hi a1 a2 y => pair_item hus hws a1 a2 y⟩
      | _ => cases e4
    | tuple xs' =>
      cases e3
      cases b with
      | list ys' =>
        cases e4
        refine (pi_zipM hg hm ha hs hpl).run pins s σ H R I ⟨F, ow, ρ, so, _, so1, r0, rs, e1, fun F1 H1 vs r1 s1 d1 => ?_⟩
        obtain ⟨v, u, rfl, dv, du⟩ := d1.two
        obtain ⟨a, us, rfl, ha, hus⟩ := dq_tup dv
        obtain ⟨b, ws, rfl, hb, hws⟩ := dq_lst du
        have lu := hus.len
        have lw := hws.len
        have wk := walk_zipM (K := X.K) (a := a) (b := b) (xs := us) (ys := ws) (by omega)
        rw [lu, ← pairs_len hl] at wk
        exact ⟨a, b, us, ws, rfl, (ha.sq r1.sub), SqL.of (r1.sub _ _ hb), k F1 H1 _ _ _ r1 s1 wk (fun F2 H2 a1 a2 => ⟨(ha.sq (a1.trans a2)), SqL.of (a2 _ _ (a1 _ _ hb))⟩) fun i F2 H2 x H3 hi a1 a2 y => pair_item hus hws a1 a2 y⟩
      | tuple ys' =>
        cases e4
        refine (RZ.pi_zipA hg hm ha hs hpl).run pins s σ H R I ⟨F, ow, ρ, so, _, so1, r0, rs, e1, fun F1 H1 vs r1 s1 d1 => ?_⟩
        obtain ⟨v, u, rfl, dv, du⟩ := d1.two
        obtain ⟨a, us, rfl, ha, hus⟩ := dq_tup dv
        obtain ⟨b, ws, rfl, hb, hws⟩ := dq_tup du
        have lu := hus.len
        have lw := hws.len
        have wk := walk_zipT (K := X.K) (a := a) (b := b) (xs := us) (ys := ws) (by omega)
        rw [lu, ← pairs_len hl] at wk
        exact ⟨a, b, us, ws, rfl, .inr ⟨(ha.sq r1.sub), (hb.sq r1.sub), k F1 H1 _ _ _ r1 s1 wk (fun F2 H2 a1 a2 => ⟨(ha.sq (a1.trans a2)), (hb.sq (a1.trans a2))⟩) fun i F2 H2 x H3 hi a1 a2 y => pair_item hus hws a1 a2 y⟩⟩
      | _ => cases e4
    | _ => cases e3
  · cases e2
end MP
namespace MP
open PySem PySem.Spec PyProof.Rows L2 RL

def dNeg : PyData → Option PyData
  | .int i => some (.int (-i))
  | _ => none
theorem ud_neg {X : Cx} : UnD X.K (rU fun i => .int (-i)) dNeg := by
  intro F H x dx d Q s hx e k
  cases dx with
  | int i => cases e; cases hx; exact ⟨i, rfl, here k s (.int _)⟩
  | _ => cases e
def dBits : PyData → Option PyData
  | .int i => some (.int (Builtin.Int.intBits i : Nat))
  | _ => none
theorem tOf_bits {K : PySem.W.Frag} {f : DE} (σ : L2.St) (H : Hp) (Q : VK) (h : tOf K (eUn dBits f) σ H Q) : tBits (tOf K f) σ H Q := by
  obtain ⟨F, ow, ρ, so, d, so', r0, rs, e, k⟩ := h
  obtain ⟨⟨x, so1⟩, e1, e2⟩ := Option.bind_eq_some_iff.mp e
  obtain ⟨z, e3, e4⟩ := Option.map_eq_some_iff.mp e2
  cases e4
  refine ⟨F, ow, ρ, so, x, _, r0, rs, e1, fun F1 H1 v r1 s1 d1 => ?_⟩
  cases x with
  | int i => cases e3; cases d1; exact ⟨i, rfl, k F1 H1 _ r1 s1 (.int _)⟩
  | _ => cases e3
theorem pd_bits {X : Cx} {o : Expr} {f : DE} {apos pos : Pos} (ho : PD X o f) (hbase : attributeBase o "bit_length" X.env (eval o X.env) = eval o X.env := by rfl) (hline : (apos.endLine == pos.line) = true := by rfl) : PD X (.Call (.Attribute o "bit_length" apos) [] [] pos) (eUn dBits f) :=
  (pe_bits ho hbase hline).imp tOf_bits
/-! ### defs without parameters -/
def fCallZ (G : FD) : DE := fun _ so => (G [] []).map fun r => (r.1, so)
theorem tOf_callZ {K : PySem.W.Frag} {G : FD} {E : XK} (σ : L2.St) (H : Hp) (Q : VK) (h : tOf K (fCallZ G) σ H Q) : tCall (spF K 0 G) [] E tNil σ H Q := by
  obtain ⟨F, ow, ρ, so, d, so', r0, rs, e, k⟩ := h
  obtain ⟨⟨x, so2⟩, e3, e4⟩ := Option.map_eq_some_iff.mp e
  cases e4
  exact ⟨rfl, F, [], [], [], x, so2, r0.none, ⟨rfl, fun i v s hv hs => by simp at hv⟩, e3, fun F2 H2 v r2 s2 d2 => k F2 H2 v (r0.grow s2 r2.sub) s2.some_of d2⟩
theorem tOf_oEqB {K : PySem.W.Frag} {neg : Bool} {i : Nat} {f : DE} (σ : L2.St) (H : Hp) (Q : Bool → Hp → Prop) (h : tOfB K (bVal (oEq neg i f)) σ H Q) : tTest (tOp (rEqU K neg) (tVar i) (tOf K f)) σ H Q := by
  obtain ⟨F, ow, ρ, so, z, so', r0, rs, e, k⟩ := h
  obtain ⟨⟨d, so1⟩, e1, e2⟩ := Option.bind_eq_some_iff.mp e
  refine tOf_oEq σ H _ ⟨F, ow, ρ, so, d, so1, r0, rs, e1, fun F1 H1 v r1 s1 d1 => ?_⟩
  split at e2
  · rename_i hd
    cases e2
    replace hd : d = .bool z := hd
    subst hd
    exact ⟨z, dq_bl d1, k F1 H1 r1 s1⟩
  · cases e2
theorem pdb_oEq {X : Cx} {y : Str} {i : Nat} {p2 pos : Pos} {b : Expr} {fb : DE} (hu : X.A.units + 64 < cLine) (hN : X.N[i]? = some y) (hv : Vis X.env.scope y) (hb : PD X b fb) (hm : behindInMarks .Eq b = false) (hd : (y == ("__debug__" : Str)) = false := by decide) (hcd : (y == ("__classdict__" : Str)) = false := by decide) : PDB X (.Compare (.Name y p2) [.Eq] [b] pos) (bVal (oEq false i fb)) := (pt_cmpR (op_eqU hu) (pe_var hN hv hd hcd) hb hm).imp tOf_oEqB
theorem pdb_oNe {X : Cx} {y : Str} {i : Nat} {p2 pos : Pos} {b : Expr} {fb : DE} (hu : X.A.units + 64 < cLine) (hN : X.N[i]? = some y) (hv : Vis X.env.scope y) (hb : PD X b fb) (hm : behindInMarks .NotEq b = false) (hd : (y == ("__debug__" : Str)) = false := by decide) (hcd : (y == ("__classdict__" : Str)) = false := by decide) : PDB X (.Compare (.Name y p2) [.NotEq] [b] pos) (bVal (oEq true i fb)) := (pt_cmpR (op_neU hu) (pe_var hN hv hd hcd) hb hm).imp tOf_oEqB
end MP
namespace MP
open PySem PySem.Spec PyProof.Rows L2 RL

/-! ### the law itself, and what the row asks of it -/
section
variable {P : Program} {w : World} {K : PySem.W.Frag} {mg : Str → Option Value} {base : Heap} {x : Str} {st : Stmt} {N ps : List Str} {k n p q : Nat} {f : DS} {W : Str → Hp → Prop}
theorem mk_law {f0 : Addr} {fd : FuncData} (F : Fun K x x st f0 fd) (S : FnScope N ps (defScope st)) (hn : ps.length = n)
    (h : ∀ (f0 : Addr) (cdv : Value) (A : Around) (outer : List Env) (s : Shared) (H : Hp) (E : XK), A.guards = some [] → Room k (A.deeper (envOfC x (defScope st) s.heap.objs.size f0 cdv)) → PDSs (cxOf CX0 P w K mg base N x (defScope st) f0 cdv A outer s H E).nox p W (defBody st) f) :
    FnG P w K mg base (k + 1) f0 fd ps (spF K n (fDef n N.length p q f)) :=
  fnG F S (fun vs H Q E h => by rw [hn]; exact h.1) fun cdv A outer s H vs Q E gd hr hsp => ⟨_, h f0 cdv A outer s H E gd hr, body_of vs H Q E hsp⟩
end
theorem law_sp {K : PySem.W.Frag} {G : FD} {H : Hp} {a : Addr} {ns : List Int} (h : G [.s ns] [] = some (.bool true, [])) (hS : SqL K H a (ns.map V.int)) (E : XK) : spF K 1 G [.ref a] H (fun v _ => v = .bl true) E := by
  refine ⟨rfl, H, [], [], [.s ns], .bool true, [], ⟨Same.refl H, rfl, fun k a w h => by simp at h, fun j k a h => by simp at h, fun k a h => by simp at h⟩, ⟨rfl, fun i v s hv hs => ?_⟩, h, fun F' H' v _ _ hd => ?_⟩
  · cases i with
    | zero =>
      cases hv
      cases hs
      exact ⟨_, rfl, a, hS, rfl⟩
    | succ i => simp at hv
  · cases hd
    rfl
end MP
namespace MP
open PySem PySem.Spec PyProof.Rows L2 RL

theorem un65 {k : Nat} {A : Around} (r : Room k A) : A.units + 65 < cLine := by have := r.un; omega
/-! ### the first place of an equal thing in a list -/
def idxGo (d : PyData) : List PyData → Nat → Option Nat
  | [], _ => none
  | x :: r, i => if PyData.eqv x d then some i else idxGo d r (i + 1)
theorem idxGo_ok {d : PyData} : ∀ {ds : List PyData} {i j : Nat}, idxGo d ds i = some j → i ≤ j ∧ ∃ z, ds[j - i]? = some z ∧ PyData.eqv z d = true ∧ ∀ (m : Nat) (z' : PyData), m < j - i → ds[m]? = some z' → PyData.eqv z' d = false
  | [], i, j, h => by cases h
  | x :: r, i, j, h => by
    unfold idxGo at h
    by_cases e : PyData.eqv x d = true
    · rw [if_pos e] at h
      cases h
      exact ⟨Nat.le_refl _, x, by rw [Nat.sub_self]; rfl, e, fun m z' hm => by omega⟩
    · rw [if_neg e] at h
      obtain ⟨h1, z, h2, h3, h4⟩ := idxGo_ok h
      have e1 : j - i = j - (i + 1) + 1 := by omega
      refine ⟨by omega, z, by rw [e1]; exact h2, h3, fun m z' hm hz => ?_⟩
      cases m with
      | zero => cases hz; exact Bool.not_eq_true _ ▸ e
      | succ m => exact h4 m z' (by omega) hz
/-- xs.index(d) of a list -/
def dIndex : PyData → PyData → Option PyData
  | .list ds, d => if SeqAt.shaped (.list ds) && SeqAt.shaped d then (idxGo d ds 0).map fun j => .int (j : Nat) else none
  | _, _ => none
section
variable {K : PySem.W.Frag}
theorem tOf_index {fa fb : DE} (σ : L2.St) (H : Hp) (Q : VK) (h : tOf K (eOp dIndex fa fb) σ H Q) : tBM K "list" (rIndexD K) (tOf K fa) (tCons (tOf K fb) tNil) σ H Q := by
  obtain ⟨F, ow, ρ, so, d, so', r0, rs, e, k⟩ := h
  obtain ⟨⟨x, so1⟩, e1, e2⟩ := Option.bind_eq_some_iff.mp e
  obtain ⟨⟨y, so2⟩, e3, e4⟩ := Option.bind_eq_some_iff.mp e2
  obtain ⟨z, e5, e6⟩ := Option.map_eq_some_iff.mp e4
  cases e6
  replace e5 : dIndex x y = some d := e5
  cases x with
  | list ds =>
    have e9 : (if SeqAt.shaped (.list ds) && SeqAt.shaped y then (idxGo y ds 0).map fun j => PyData.int (j : Nat) else none) = some d := e5
    have hc : (SeqAt.shaped (.list ds) && SeqAt.shaped y) = true := by
      cases hz : (SeqAt.shaped (.list ds) && SeqAt.shaped y) with
      | true => rfl
      | false => rw [hz] at e9; cases e9
    rw [if_pos hc] at e9
    have e7 := e9
    rw [Bool.and_eq_true] at hc
    obtain ⟨j, e8, rfl⟩ := Option.map_eq_some_iff.mp e7
    obtain ⟨_, u, g1, g2, g3⟩ := idxGo_ok e8
    rw [Nat.sub_zero] at g1 g3
    refine ⟨F, ow, ρ, so, _, so1, r0, rs, e1, fun F1 H1 v r1 s1 d1 => ?_⟩
    obtain ⟨a, us, rfl, ha, hus⟩ := dq_lst d1
    refine ⟨.inl ⟨rfl, _, SqL.of (r1.sub _ _ ha)⟩, F1, ow, ρ, so1, y, _, r1, rs.mono s1.fz, e3, fun F2 H2 w r2 s2 d2 => ?_⟩
    exact ⟨a, w, y, ds, j, u, rfl, rfl, dq_dp _ _ (dq_same r2.sub _ _ (dq_same s2.fz _ _ d1)), dq_dp _ _ (dq_same r2.sub _ _ d2), hc.1, hc.2, g1, g2, g3, k F2 H2 _ r2 (s1.trans s2) (.int _)⟩
  | _ => cases e5
end
theorem pd_index {X : Cx} {o e : Expr} {fa fb : DE} {apos cpos : Pos} (hu : X.A.units + 65 < cLine) (ho : PD X o fa) (ha : PD X e fb)
    (hbase : attributeBase o "index" X.env (eval o X.env) = eval o X.env := by rfl)
    (hfew : ((backTo cpos (starEach [e] X.env)).all (fun x => !x.1) && (backToKw cpos (keywordEach [] X.env)).all (fun x => x.1.isSome)
      && decide (([e] : List Expr).length + ([] : List Keyword).length + (if ([] : List Keyword).isEmpty then 0 else 1) < 30)) = true := by rfl)
    (hline : (apos.endLine == cpos.line) = true := by rfl) (hs : starEach [e] X.env = (false, eval e X.env) :: starEach [] X.env := by rfl) (hplain : (backTo cpos (starEach [] X.env)).any (·.1) = false := by rfl) :
    PD X (.Call (.Attribute o "index" apos) [e] [] cpos) (eOp dIndex fa fb) :=
  (pe_bm PySem.F.plainAttrs_list PySem.F.slot_list_index PySem.F.type_list_index (mt_indexD hu) ho (pa_cons ha pa_nil hs) hbase hfew hline hs hplain).imp tOf_index
/-! ### zip of three, of four tuples; enumerate -/
def zip3D (xs ys zs : List PyData) : List PyData := List.zipWith (fun a p => .tuple (a :: p)) xs (List.zipWith (fun b c => [b, c]) ys zs)
def zip4D (xs ys zs ws : List PyData) : List PyData := List.zipWith (fun a p => .tuple (a :: p)) xs (List.zipWith (fun b p => b :: p) ys (List.zipWith (fun b c => [b, c]) zs ws))
def iZip3 (g : DL) : DL := fun ρ so => (g ρ so).bind fun p => match p.1 with
  | [.tuple xs, .tuple ys, .tuple zs] => if ys.length = xs.length ∧ zs.length = xs.length then some (zip3D xs ys zs, p.2) else none
  | _ => none
def iZip4 (g : DL) : DL := fun ρ so => (g ρ so).bind fun p => match p.1 with
  | [.tuple xs, .tuple ys, .tuple zs, .tuple ws] => if ys.length = xs.length ∧ zs.length = xs.length ∧ ws.length = xs.length then some (zip4D xs ys zs ws, p.2) else none
  | _ => none
theorem DqAll.three {K : PySem.W.Frag} {F : Hp} {vs : List V} {d e f : PyData} (h : DqAll K F vs [d, e, f]) : ∃ v u w, vs = [v, u, w] ∧ Dq K F v d ∧ Dq K F u e ∧ Dq K F w f := by
  cases h with
  | cons h1 h2 =>
    obtain ⟨u, w, rfl, h3, h4⟩ := h2.two
    exact ⟨_, _, _, rfl, h1, h3, h4⟩
theorem DqAll.four {K : PySem.W.Frag} {F : Hp} {vs : List V} {d e f g : PyData} (h : DqAll K F vs [d, e, f, g]) : ∃ v u w x, vs = [v, u, w, x] ∧ Dq K F v d ∧ Dq K F u e ∧ Dq K F w f ∧ Dq K F x g := by
  cases h with
  | cons h1 h2 =>
    obtain ⟨u, w, x, rfl, h3, h4, h5⟩ := h2.three
    exact ⟨_, _, _, _, rfl, h1, h3, h4, h5⟩
theorem pdi_zip3 {X : Cx} {e1 e2 e3 : Expr} {g : DL} {p pos tpos : Pos} {elts : List Expr} {kk : Nat} (hg : Gl X "zip") (hm : X.mg "zip" = none) (ha : PDA X [e1, e2, e3] g)
    (hs : starEach [e1, e2, e3] X.env = (false, eval e1 X.env) :: starEach [e2, e3] X.env := by rfl) (hpl : (backTo pos (starEach [e2, e3] X.env)).any (·.1) = false := by rfl) :
    PDI X (.Tuple elts kk tpos) (.Call (.Name "zip" p) [e1, e2, e3] [] pos) (iZip3 g) := by
  refine (RL.pi_zip3 hg hm ha hs hpl).imp fun σ H R q => ?_
  obtain ⟨F, ow, ρ, so, ds, so', r0, rs, e, k⟩ := q
  obtain ⟨⟨as, so1⟩, q1, q2⟩ := Option.bind_eq_some_iff.mp e
  split at q2
  · rename_i xs ys zs has
    replace has : as = [.tuple xs, .tuple ys, .tuple zs] := has
    subst has
    obtain ⟨⟨l2, l3⟩, q3⟩ := if_some q2
    cases q3
    refine ⟨F, ow, ρ, so, _, so1, r0, rs, q1, fun F1 H1 vs r1 s1 d1 => ?_⟩
    obtain ⟨v, u, w, rfl, dv, du, dw⟩ := d1.three
    obtain ⟨a, x1, rfl, ha, h1⟩ := dq_tup dv
    obtain ⟨b, x2, rfl, hb, h2⟩ := dq_tup du
    obtain ⟨c, x3, rfl, hc, h3⟩ := dq_tup dw
    have n1 := h1.len
    have n2 := h2.len
    have n3 := h3.len
    have wk := walk_zip3 (K := X.K) (a := a) (b := b) (c := c) (x1 := x1) (x2 := x2) (x3 := x3) (by omega) (by omega)
    have ln : x1.length = (zip3D xs ys zs).length := by unfold zip3D; rw [List.length_zipWith, List.length_zipWith]; omega
    rw [ln] at wk
    refine ⟨a, b, c, x1, x2, x3, rfl, (ha.sq r1.sub), (hb.sq r1.sub), (hc.sq r1.sub), k F1 H1 _ _ _ r1 s1 wk (fun F2 H2 a1 a2 => ⟨(ha.sq (a1.trans a2)), (hb.sq (a1.trans a2)), (hc.sq (a1.trans a2))⟩) fun i F2 H2 x H3 hi a1 a2 y => ?_⟩
    obtain ⟨T, y1, y2, y3, rfl, nT, rfl, g1, g2, g3⟩ := y
    obtain ⟨d1, t1, p1⟩ := h1.get g1
    obtain ⟨d2, t2, p2⟩ := h2.get g2
    obtain ⟨d3, t3, p3⟩ := h3.get g3
    refine ⟨_, .tuple [d1, d2, d3], ?_, Stp.new nT a2, same_upd a2, new_tupI (a2.free nT) (.cons (dq_same a1 _ _ p1) (.cons (dq_same a1 _ _ p2) (.cons (dq_same a1 _ _ p3) .nil)))⟩
    unfold zip3D
    rw [List.getElem?_zipWith, List.getElem?_zipWith, t1, t2, t3]
  · cases q2
theorem pdi_zip4 {X : Cx} {e1 e2 e3 e4 : Expr} {g : DL} {p pos tpos : Pos} {elts : List Expr} {kk : Nat} (hg : Gl X "zip") (hm : X.mg "zip" = none) (ha : PDA X [e1, e2, e3, e4] g)
    (hs : starEach [e1, e2, e3, e4] X.env = (false, eval e1 X.env) :: starEach [e2, e3, e4] X.env := by rfl) (hpl : (backTo pos (starEach [e2, e3, e4] X.env)).any (·.1) = false := by rfl) :
    PDI X (.Tuple elts kk tpos) (.Call (.Name "zip" p) [e1, e2, e3, e4] [] pos) (iZip4 g) := by
  refine (RL.pi_zip4 hg hm ha hs hpl).imp fun σ H R q => ?_
  obtain ⟨F, ow, ρ, so, ds, so', r0, rs, e, k⟩ := q
  obtain ⟨⟨as, so1⟩, q1, q2⟩ := Option.bind_eq_some_iff.mp e
  split at q2
  · rename_i xs ys zs ws has
    replace has : as = [.tuple xs, .tuple ys, .tuple zs, .tuple ws] := has
    subst has
    obtain ⟨⟨l2, l3, l4⟩, q3⟩ := if_some q2
    cases q3
    refine ⟨F, ow, ρ, so, _, so1, r0, rs, q1, fun F1 H1 vs r1 s1 d1 => ?_⟩
    obtain ⟨v, u, w, t, rfl, dv, du, dw, dt⟩ := d1.four
    obtain ⟨a, x1, rfl, ha, h1⟩ := dq_tup dv
    obtain ⟨b, x2, rfl, hb, h2⟩ := dq_tup du
    obtain ⟨c, x3, rfl, hc, h3⟩ := dq_tup dw
    obtain ⟨d, x4, rfl, hd, h4⟩ := dq_tup dt
    have n1 := h1.len
    have n2 := h2.len
    have n3 := h3.len
    have n4 := h4.len
    have wk := walk_zip4 (K := X.K) (a := a) (b := b) (c := c) (d := d) (x1 := x1) (x2 := x2) (x3 := x3) (x4 := x4) (by omega) (by omega) (by omega)
    have ln : x1.length = (zip4D xs ys zs ws).length := by unfold zip4D; rw [List.length_zipWith, List.length_zipWith, List.length_zipWith]; omega
    rw [ln] at wk
    refine ⟨a, b, c, d, x1, x2, x3, x4, rfl, (ha.sq r1.sub), (hb.sq r1.sub), (hc.sq r1.sub), (hd.sq r1.sub), k F1 H1 _ _ _ r1 s1 wk (fun F2 H2 a1 a2 => ⟨(ha.sq (a1.trans a2)), (hb.sq (a1.trans a2)), (hc.sq (a1.trans a2)), (hd.sq (a1.trans a2))⟩) fun i F2 H2 x H3 hi a1 a2 y => ?_⟩
    obtain ⟨T, y1, y2, y3, y4, rfl, nT, rfl, g1, g2, g3, g4⟩ := y
    obtain ⟨d1, t1, p1⟩ := h1.get g1
    obtain ⟨d2, t2, p2⟩ := h2.get g2
    obtain ⟨d3, t3, p3⟩ := h3.get g3
    obtain ⟨d4, t4, p4⟩ := h4.get g4
    refine ⟨_, .tuple [d1, d2, d3, d4], ?_, Stp.new nT a2, same_upd a2, new_tupI (a2.free nT) (.cons (dq_same a1 _ _ p1) (.cons (dq_same a1 _ _ p2) (.cons (dq_same a1 _ _ p3) (.cons (dq_same a1 _ _ p4) .nil))))⟩
    unfold zip4D
    rw [List.getElem?_zipWith, List.getElem?_zipWith, List.getElem?_zipWith, t1, t2, t3, t4]
  · cases q2
def enumD (xs : List PyData) : List PyData := List.zipWith (fun (i : Nat) a => .tuple [.int i, a]) (List.range xs.length) xs
def iEnm (f : DE) : DL := fun ρ so => (f ρ so).bind fun p => match p.1 with
  | .list xs => some (enumD xs, p.2)
  | _ => none
theorem enum_len (xs : List PyData) : (enumD xs).length = xs.length := by unfold enumD; rw [List.length_zipWith, List.length_range]; omega
theorem pdi_enum {X : Cx} {e : Expr} {f : DE} {p pos tpos : Pos} {elts : List Expr} {kk : Nat} (hg : Gl X "enumerate") (hm : X.mg "enumerate" = none) (ha : PD X e f) (hs : starEach [e] X.env = (false, eval e X.env) :: starEach [] X.env := by rfl) :
    PDI X (.Tuple elts kk tpos) (.Call (.Name "enumerate" p) [e] [] pos) (iEnm f) := by
  refine (pi_enum hg hm (pa_cons ha pa_nil hs) hs).imp fun σ H R q => ?_
  obtain ⟨F, ow, ρ, so, ds, so', r0, rs, e, k⟩ := q
  obtain ⟨⟨d, so1⟩, q1, q2⟩ := Option.bind_eq_some_iff.mp e
  split at q2
  · rename_i xs hd
    replace hd : d = .list xs := hd
    subst hd
    cases q2
    refine ⟨F, ow, ρ, so, _, so1, r0, rs, q1, fun F1 H1 v r1 s1 d1 => ?_⟩
    obtain ⟨a, us, rfl, ha, hus⟩ := dq_lst d1
    have n1 := hus.len
    have wk := walk_enum (K := X.K) (a := a) (xs := us)
    have ln : us.length = (enumD xs).length := by rw [enum_len]; omega
    rw [ln] at wk
    refine ⟨a, us, rfl, SqL.of (r1.sub _ _ ha), k F1 H1 _ _ _ r1 s1 wk (fun F2 H2 a1 a2 => SqL.of (a2 _ _ (a1 _ _ ha))) fun i F2 H2 x H3 hi a1 a2 y => ?_⟩
    obtain ⟨T, u, w, rfl, nT, rfl, hu, hw⟩ := y
    cases hu
    obtain ⟨d2, g2, q2⟩ := hus.get hw
    refine ⟨_, .tuple [.int (i : Nat), d2], ?_, Stp.new nT a2, same_upd a2, new_tupI (a2.free nT) (.cons (.int _) (.cons (dq_same a1 _ _ q2) .nil))⟩
    unfold enumD
    have hi2 : i < xs.length := by rw [enum_len] at hi; exact hi
    rw [List.getElem?_zipWith, List.getElem?_range hi2, g2]
  · cases q2
end MP
namespace MP
open PySem PySem.Spec PyProof.Rows L2 RL

/-! ### list + list, a list of one's own -/
def nAdd (f g : DE) : DL := fun ρ so => (f ρ so).bind fun p => (g ρ p.2).bind fun q => match p.1, q.1 with
  | .list xs, .list ys => if xs.length + ys.length ≤ LIM then some (xs ++ ys, q.2) else none
  | _, _ => none
theorem tOf_nAdd {K : PySem.W.Frag} {f g : DE} (σ : L2.St) (H : Hp) (Q : VK) (h : tOfN K (nAdd f g) σ H Q) : tOp rCat (tOf K f) (tOf K g) σ H Q := by
  obtain ⟨F, ow, ρ, so, ds, so', r0, rs, e, k⟩ := h
  obtain ⟨⟨x, so1⟩, e1, e⟩ := Option.bind_eq_some_iff.mp e
  obtain ⟨⟨y, so2⟩, e2, e⟩ := Option.bind_eq_some_iff.mp e
  refine ⟨F, ow, ρ, so, x, so1, r0, rs, e1, fun F1 H1 v1 r1 s1 d1 => ⟨F1, ow, ρ, so1, y, so2, r1, rs.mono s1.fz, e2, fun F2 H2 v2 r2 s2 d2 => ?_⟩⟩
  split at e
  · rename_i xs ys hx hy
    replace hx : x = .list xs := hx
    replace hy : y = .list ys := hy
    subst hx hy
    obtain ⟨hl, e3⟩ := if_some e
    cases e3
    obtain ⟨a, us, rfl, ha, hus⟩ := dq_lst (dq_same s2.fz _ _ d1)
    obtain ⟨b, ws, rfl, hb, hws⟩ := dq_lst d2
    exact ⟨a, b, us, ws, rfl, rfl, r2.sub _ _ ha, r2.sub _ _ hb, by rw [hus.len, hws.len]; exact lim_le hl, fun p np => keepN k r2 (s1.trans s2) (hus.app hws) np⟩
  · cases e
theorem pdn_add {X : Cx} {a b : Expr} {fa fb : DE} {pos : Pos} (ha : PD X a fa) (hb : PD X b fb) : PDN X (.BinOp a .Add b pos) (nAdd fa fb) := (pe_op op_cat ha hb).imp tOf_nAdd

/-! ### min of a list of numbers, with what stands for none of them -/
def gMinD : PyData → PyData → Option PyData
  | .list ds, z => (intsOf ds).bind fun ns => match ns with
    | [] => (scV z).map fun _ => z
    | n :: r => some (.int (r.foldl min n))
  | _, _ => none
def eMinD (f g : DE) : DE := fun ρ so => (f ρ so).bind fun p => (g ρ p.2).bind fun q => (gMinD p.1 q.1).map fun d => (d, q.2)
def rMinDf (K : PySem.W.Frag) : List V → List V → Hp → VK → Prop := fun vs zs H Q => ∃ (a : Addr) (z : V) (ns : List Int), vs = [V.ref a] ∧ zs = [z] ∧ SqL K H a (ns.map V.int) ∧ (ns = [] → Q z H) ∧ ∀ n r, ns = n :: r → Q (.int (r.foldl min n)) H
theorem cr_minDf {X : Cx} (hc : X.calm = true) (hu : X.A.units + 64 < cLine) : CallRK X (.builtin "min") [Str.ofString "default"] (rMinDf X.K) := by
  intro pins s σ H xs zs us ws Q I r r2 h
  obtain ⟨a, z, ns, rfl, rfl, hs, h0, h1⟩ := h
  rw [Vals.ref1 r]
  obtain ⟨u, rfl, ru⟩ := r2.one
  obtain ⟨its, rv, hl, _⟩ := I.list hs
  obtain ⟨as, rd⟩ := readsAll_ints (h := s.heap) rv
  have hd : PyData.depthAll (ns.map PyData.int) = 0 := RL.depth_ints ns
  refine PySem.W.min_list_default (I.ok.hd hc) hl.isList (by simpa using rd) (RL.alike_ints ns) (by rw [hd]; omega) (fun e h' tk hk => ?_) fun y ys i v h' tk bs e _ rr hk => ?_
  · exact ⟨z, H, I.kept hk, ru, h0 (List.map_eq_nil_iff.mp e)⟩
  · cases ns with
    | nil => cases e
    | cons n r =>
      rw [List.map_cons] at e
      injection e with e1 e2
      subst e1 e2
      rw [PySem.W.minD_ints] at rr
      cases rr with
      | int i t => exact ⟨.int _, H, I.kept hk, ⟨t, rfl⟩, h1 n r rfl⟩
theorem scV_same {K : PySem.W.Frag} {F F' H' : Hp} {z : PyData} {u v : V} (h : scV z = some u) (d : Dq K F v z) : Dq K F' v z := by
  cases z with
  | none => cases d; exact .non
  | bool b => cases d; exact .bl b
  | int i => cases d; exact .int i
  | str x => cases d; exact .str x
  | _ => cases h
theorem tOf_minD {K : PySem.W.Frag} {f g : DE} (σ : L2.St) (H : Hp) (Q : VK) (h : tOf K (eMinD f g) σ H Q) : tCKw (rMinDf K) (tCons (tOf K f) tNil) (tCons (tOf K g) tNil) σ H Q := by
  obtain ⟨F, ow, ρ, so, d, so', r0, rs, e, k⟩ := h
  obtain ⟨⟨x, so1⟩, e1, e⟩ := Option.bind_eq_some_iff.mp e
  obtain ⟨⟨y, so2⟩, e2, e⟩ := Option.bind_eq_some_iff.mp e
  obtain ⟨z, e3, e⟩ := Option.map_eq_some_iff.mp e
  cases e
  refine ⟨F, ow, ρ, so, x, so1, r0, rs, e1, fun F1 H1 v1 r1 s1 d1 => ⟨F1, ow, ρ, so1, y, so2, r1, rs.mono s1.fz, e2, fun F2 H2 v2 r2 s2 d2 => ?_⟩⟩
  replace e3 : gMinD x y = some d := e3
  cases x with
  | list ds =>
    obtain ⟨ns, e4, e5⟩ := Option.bind_eq_some_iff.mp (show (intsOf ds).bind _ = some d from e3)
    obtain ⟨a, us, rfl, ha, hus⟩ := dq_lst (dq_same s2.fz _ _ d1)
    rw [intsOf_eq e4] at hus
    rw [dqInts hus] at ha
    refine ⟨a, v2, ns, rfl, rfl, SqL.of (r2.sub _ _ ha), fun en => ?_, fun n r en => ?_⟩
    · subst en
      obtain ⟨u, e6, rfl⟩ := Option.map_eq_some_iff.mp (show (scV y).map _ = some d from e5)
      exact k F2 H2 v2 r2 (s1.trans s2) d2
    · subst en
      cases e5
      exact k F2 H2 _ r2 (s1.trans s2) (.int _)
  | _ => cases e3
theorem pd_minD {X : Cx} {p pos kpos : Pos} {e e2 : Expr} {f g : DE} (hc : X.calm = true) (hu : X.A.units + 64 < cLine) (hg : Gl X "min") (hm : X.mg "min" = none) (ha : PD X e f) (hb : PD X e2 g)
    (he : backTo pos (starEach [e] X.env) = (false, eval e X.env) :: backTo pos (starEach [] X.env) := by rfl) (hpl : (backTo pos (starEach [e] X.env)).any (·.1) = false := by rfl)
    (hall : (backToKw pos (keywordEach [⟨some "default", e2, kpos⟩] X.env)).all (·.1.isSome) = true := by rfl) (hnone : (backToKw pos (keywordEach [⟨some "default", e2, kpos⟩] X.env)).any (·.1.isNone) = false := by rfl)
    (hks : (backToKw pos (keywordEach [⟨some "default", e2, kpos⟩] X.env)).filterMap (·.1) = [Str.ofString "default"] := by rfl)
    (hs : starEach [e] X.env = (false, eval e X.env) :: starEach [] X.env := by rfl) :
    PD X (.Call (.Name "min" p) [e] [⟨some "default", e2, kpos⟩] pos) (eMinD f g) :=
  (pe_callBK (cr_minDf hc hu) hg hm (by decide +kernel) (pa_cons ha pa_nil hs) (pk_cons hb pk_nil) (by decide) (by decide) he hpl hall hnone hks).imp tOf_minD
end MP
namespace MP
open PySem PySem.Spec PyProof.Rows L2 RL

/-! ### sorted(set(a list of tuples of small numbers)) -/
def cd64 (k : List Int) : Int := TS.code 64 k
def insK (k : List Int) : List (List Int) → List (List Int)
  | [] => [k]
  | x :: r => if cd64 k < cd64 x then k :: x :: r else if cd64 k = cd64 x then x :: r else x :: insK k r
def sortK (ks : List (List Int)) : List (List Int) := ks.foldr insK []
def keysOf : List PyData → Option (List (List Int))
  | [] => some []
  | .tuple ds :: r => (intsOf ds).bind fun k => (keysOf r).map fun ks => k :: ks
  | _ :: _ => none
def KeyOk (n : Nat) (k : List Int) : Prop := k.length = n ∧ TS.Bd 64 k
def keysOk (ks : List (List Int)) : Bool := decide (ks.length < 64) && decide (1 ≤ (ks.headD [0]).length) && ks.all fun k => decide (k.length = (ks.headD [0]).length) && k.all fun m => decide (0 ≤ m) && decide (m < 64)
theorem keysOk_all {ks : List (List Int)} (h : keysOk ks = true) : ks.length < 64 ∧ 1 ≤ (ks.headD [0]).length ∧ ∀ k ∈ ks, KeyOk (ks.headD [0]).length k := by
  unfold keysOk at h
  simp only [Bool.and_eq_true, decide_eq_true_eq, List.all_eq_true] at h
  exact ⟨h.1.1, h.1.2, fun k hk => ⟨(h.2 k hk).1, fun m hm => (h.2 k hk).2 m hm⟩⟩
theorem cd_inj {n : Nat} : ∀ {a b : List Int}, KeyOk n a → KeyOk n b → cd64 a = cd64 b → a = b := by
  induction n with
  | zero =>
    intro a b ha hb _
    rw [List.eq_nil_of_length_eq_zero ha.1, List.eq_nil_of_length_eq_zero hb.1]
  | succ n ih =>
    intro a b ha hb e
    match a, b, ha, hb with
    | x :: r, y :: q, ha, hb =>
      have lr : r.length = n := Nat.succ.inj ha.1
      have lq : q.length = n := Nat.succ.inj hb.1
      have hl : r.length = q.length := lr.trans lq.symm
      rcases Int.lt_trichotomy x y with h | h | h
      · have := TS.code_lt hl ha.2.tail hb.2.tail h
        have e' : TS.code 64 (x :: r) = TS.code 64 (y :: q) := e
        omega
      · subst h
        have e1 : cd64 r = cd64 q := by
          have s1 := not_congr (TS.code_same (B := 64) (d := x) hl)
          have s2 := not_congr (TS.code_same (B := 64) (d := x) hl.symm)
          have e' : TS.code 64 (x :: r) = TS.code 64 (x :: q) := e
          have n1 := s1.mp (by omega)
          have n2 := s2.mp (by omega)
          show TS.code 64 r = TS.code 64 q
          omega
        rw [ih ⟨lr, ha.2.tail⟩ ⟨lq, hb.2.tail⟩ e1]
      · have := TS.code_lt hl.symm hb.2.tail ha.2.tail h
        have e' : TS.code 64 (x :: r) = TS.code 64 (y :: q) := e
        omega
theorem mem_insK {n : Nat} {k : List Int} (hk : KeyOk n k) : ∀ {l : List (List Int)}, (∀ x ∈ l, KeyOk n x) → ∀ y, y ∈ insK k l ↔ y = k ∨ y ∈ l
  | [], _, y => by simp [insK]
  | x :: r, h, y => by
    unfold insK
    by_cases h1 : cd64 k < cd64 x
    · rw [if_pos h1, List.mem_cons]
    · rw [if_neg h1]
      by_cases h2 : cd64 k = cd64 x
      · rw [if_pos h2]
        have e := cd_inj hk (h x List.mem_cons_self) h2
        subst e
        simp
      · rw [if_neg h2, List.mem_cons, mem_insK hk (fun z hz => h z (List.mem_cons_of_mem _ hz)) y, List.mem_cons]
        constructor
        · rintro (h | h | h)
          · exact .inr (.inl h)
          · exact .inl h
          · exact .inr (.inr h)
        · rintro (h | h | h)
          · exact .inr (.inl h)
          · exact .inl h
          · exact .inr (.inr h)
theorem insK_sorted {n : Nat} {k : List Int} (hk : KeyOk n k) : ∀ {l : List (List Int)}, (∀ x ∈ l, KeyOk n x) → l.Pairwise (fun a b => cd64 a < cd64 b) → (insK k l).Pairwise (fun a b => cd64 a < cd64 b)
  | [], _, _ => by simp [insK]
  | x :: r, h, p => by
    rw [List.pairwise_cons] at p
    unfold insK
    by_cases h1 : cd64 k < cd64 x
    · rw [if_pos h1, List.pairwise_cons, List.pairwise_cons]
      refine ⟨fun y hy => ?_, p⟩
      rcases List.mem_cons.mp hy with e | m
      · rw [e]; exact h1
      · have := p.1 y m; omega
    · rw [if_neg h1]
      by_cases h2 : cd64 k = cd64 x
      · rw [if_pos h2, List.pairwise_cons]; exact p
      · rw [if_neg h2, List.pairwise_cons]
        have hr : ∀ z ∈ r, KeyOk n z := fun z hz => h z (List.mem_cons_of_mem _ hz)
        refine ⟨fun y hy => ?_, insK_sorted hk hr p.2⟩
        rcases (mem_insK hk hr y).mp hy with e | m
        · rw [e]; omega
        · exact p.1 y m
theorem mem_sortK {n : Nat} : ∀ {ks : List (List Int)}, (∀ x ∈ ks, KeyOk n x) → (∀ y, y ∈ sortK ks ↔ y ∈ ks) ∧ (sortK ks).Pairwise (fun a b => cd64 a < cd64 b)
  | [], _ => ⟨fun _ => Iff.rfl, List.Pairwise.nil⟩
  | k :: r, h => by
    have hr : ∀ z ∈ r, KeyOk n z := fun z hz => h z (List.mem_cons_of_mem _ hz)
    obtain ⟨m, p⟩ := mem_sortK hr
    have ho : ∀ x ∈ sortK r, KeyOk n x := fun x hx => hr x ((m x).mp hx)
    have hk := h k List.mem_cons_self
    refine ⟨fun y => ?_, insK_sorted hk ho p⟩
    show y ∈ insK k (sortK r) ↔ _
    rw [mem_insK hk ho y, m y, List.mem_cons]
theorem sorted_one : ∀ (xs ys : List (List Int)), xs.Pairwise (fun a b => cd64 a < cd64 b) → ys.Pairwise (fun a b => cd64 a < cd64 b) → (∀ k, k ∈ xs ↔ k ∈ ys) → xs = ys
  | [], [], _, _, _ => rfl
  | [], y :: ys, _, _, h => by have := (h y).mpr List.mem_cons_self; cases this
  | x :: xs, [], _, _, h => by have := (h x).mp List.mem_cons_self; cases this
  | x :: xs, y :: ys, hx, hy, h => by
    rw [List.pairwise_cons] at hx hy
    have e : x = y := by
      rcases List.mem_cons.mp ((h x).mp List.mem_cons_self) with e | m1
      · exact e
      · rcases List.mem_cons.mp ((h y).mpr List.mem_cons_self) with e | m2
        · exact e.symm
        · have a := hy.1 x m1
          have b := hx.1 y m2
          omega
    subst e
    have : xs = ys := sorted_one xs ys hx.2 hy.2 fun k => by
      constructor
      · intro hk
        rcases List.mem_cons.mp ((h k).mp (List.mem_cons_of_mem _ hk)) with e | m
        · have := hx.1 k hk; rw [e] at this; omega
        · exact m
      · intro hk
        rcases List.mem_cons.mp ((h k).mpr (List.mem_cons_of_mem _ hk)) with e | m
        · have := hy.1 k hk; rw [e] at this; omega
        · exact m
    rw [this]
def tupI (k : List Int) : PyData := .tuple (k.map .int)
def nSS (f : DE) : DL := fun ρ so => (f ρ so).bind fun p => match p.1 with
  | .list ds => (keysOf ds).bind fun ks => if keysOk ks = true then some ((sortK ks).map tupI, p.2) else none
  | _ => none
/-- the list's things as addresses with their numbers -/
theorem keys_at {K : PySem.W.Frag} {F : Hp} : ∀ {vs : List V} {ds : List PyData} {ks : List (List Int)}, DqAll K F vs ds → keysOf ds = some ks → ∃ L : List (Addr × List Int), vs = L.map (fun p => V.ref p.1) ∧ L.map (·.2) = ks ∧ ∀ p ∈ L, TupAt F p.1 (p.2.map V.int)
  | _, [], ks, h, e => by
    cases h
    cases e
    exact ⟨[], rfl, rfl, fun _ h => by cases h⟩
  | _, d :: ds, ks, h, e => by
    cases h with
    | cons h1 h2 =>
      cases d with
      | tuple es =>
        obtain ⟨k, e1, e2⟩ := Option.bind_eq_some_iff.mp (show (intsOf es).bind _ = some ks from e)
        obtain ⟨ks', e3, rfl⟩ := Option.map_eq_some_iff.mp e2
        obtain ⟨L, rfl, e4, hL⟩ := keys_at h2 e3
        obtain ⟨a, xs, rfl, ha, hx⟩ := dq_tup h1
        rw [intsOf_eq e1] at hx
        rw [dqInts hx] at ha
        refine ⟨(a, k) :: L, rfl, by rw [List.map_cons, e4], fun p hp => ?_⟩
        rcases List.mem_cons.mp hp with z | z
        · rw [z]; exact ha
        · exact hL p z
      | _ => cases e
theorem dq_keys {K : PySem.W.Frag} {F : Hp} : ∀ {L : List (Addr × List Int)}, (∀ p ∈ L, TupAt F p.1 (p.2.map V.int)) → DqAll K F (L.map fun p => V.ref p.1) ((L.map (·.2)).map tupI)
  | [], _ => .nil
  | p :: L, h => .cons (.tup (h p List.mem_cons_self) (dqI p.2)) (dq_keys fun q hq => h q (List.mem_cons_of_mem _ hq))
where dqI {K : PySem.W.Frag} {F : Hp} : ∀ ns : List Int, DqAll K F (ns.map V.int) (ns.map PyData.int)
  | [] => .nil
  | n :: r => .cons (.int n) (dqI r)
theorem tOf_nSS {X : Cx} {f : DE} (σ : L2.St) (H : Hp) (Q : VK) (h : tOfN X.K (nSS f) σ H Q) : tCB (rSortedT X.K X.prog X.w) (tCons (tCB (rSetOfT X.K X.prog X.w) (tCons (tOf X.K f) tNil)) tNil) σ H Q := by
  obtain ⟨F, ow, ρ, so, ds, so', r0, rs, e, k⟩ := h
  obtain ⟨⟨d, so1⟩, e1, e2⟩ := Option.bind_eq_some_iff.mp e
  refine ⟨F, ow, ρ, so, d, so1, r0, rs, e1, fun F1 H1 v r1 s1 d1 => ?_⟩
  split at e2
  · rename_i es hd
    replace hd : d = .list es := hd
    subst hd
    obtain ⟨ks, e3, e4⟩ := Option.bind_eq_some_iff.mp e2
    obtain ⟨hok, e5⟩ := if_some e4
    cases e5
    obtain ⟨hlen, hd1, hall⟩ := keysOk_all hok
    obtain ⟨a, us, rfl, ha, hus⟩ := dq_lst d1
    obtain ⟨L, rfl, eL, hL⟩ := keys_at hus e3
    have lL : L.length < 64 := by rw [← eL, List.length_map] at hlen; exact hlen
    refine ⟨a, L, rfl, SqL.of (r1.sub _ _ ha), fun p hp => ((hL p hp).sq r1.sub), lL, fun b M nb hM1 hM2 => ?_⟩
    have kOk : ∀ p ∈ L, KeyOk (ks.headD [0]).length p.2 := fun p hp => hall p.2 (by rw [← eL]; exact List.mem_map.mpr ⟨p, hp, rfl⟩)
    have sS : Same H1 (upd H1 b (SetTO X.prog X.w b M)) := same_new nb
    refine ⟨b, M, (ks.headD [0]).length, 64, rfl, upd_same, fun p hp => ((hL p (hM1 p hp)).sq (r1.sub.trans sS)), hd1, fun p hp => kOk p (hM1 p hp), fun L' c pm nd _ pw nc => ?_⟩
    have sg : Stp [] F1 H1 F1 (upd H1 b (SetTO X.prog X.w b M)) := ⟨Same.refl _, fun a o _ h => same_new nb a o h, fun _ _ _ _ h => h, fun a h => live_upd h⟩
    have mL' : ∀ p ∈ L', p ∈ L := fun p hp => hM1 p (pm.mem_iff.mp hp)
    have eS : L'.map (·.2) = sortK ks := by
      obtain ⟨m1, m2⟩ := mem_sortK hall
      refine sorted_one _ _ ?_ m2 fun y => ?_
      · have pl : (L'.map (·.2)).Pairwise (fun q r => cd64 q ≤ cd64 r) := List.pairwise_map.mpr pw
        have both := pl.and (List.nodup_iff_pairwise_ne.mp nd)
        refine both.imp_of_mem fun {q r} hq hr z => ?_
        obtain ⟨p, hp, rfl⟩ := List.mem_map.mp hq
        obtain ⟨p2, hp2, rfl⟩ := List.mem_map.mp hr
        rcases Int.lt_or_eq_of_le z.1 with g | g
        · exact g
        · exact absurd (cd_inj (kOk p (mL' p hp)) (kOk p2 (mL' p2 hp2)) g) z.2
      · rw [m1 y, ← eL]
        constructor
        · intro hy
          obtain ⟨p, hp, rfl⟩ := List.mem_map.mp hy
          exact List.mem_map.mpr ⟨p, mL' p hp, rfl⟩
        · intro hy
          obtain ⟨p, hp, rfl⟩ := List.mem_map.mp hy
          obtain ⟨p2, hp2, e6⟩ := List.mem_map.mp (hM2 p hp)
          exact List.mem_map.mpr ⟨p2, pm.mem_iff.mpr hp2, e6⟩
    have dq : DqAll X.K F1 (L'.map fun q => V.ref q.1) ((sortK ks).map tupI) := by
      rw [← eS]
      exact dq_keys fun p hp => hL p (mL' p hp)
    exact keepN k (r1.grow sg (r1.sub.trans sS)) (s1.trans sg.some_of) dq nc
  · cases e2
theorem pdn_ss {X : Cx} {p p2 pos pos2 : Pos} {e : Expr} {f : DE} (hc : X.calm = true) (hu : X.A.units + 64 < cLine) (hg : Gl X "sorted") (hm : X.mg "sorted" = none) (hg2 : Gl X "set") (hm2 : X.mg "set" = none) (ha : PD X e f)
    (hs : starEach [e] X.env = (false, eval e X.env) :: starEach [] X.env := by rfl) (hs2 : starEach [.Call (.Name "set" p2) [e] [] pos2] X.env = (false, eval (.Call (.Name "set" p2) [e] [] pos2) X.env) :: starEach [] X.env := by rfl) :
    PDN X (.Call (.Name "sorted" p) [.Call (.Name "set" p2) [e] [] pos2] [] pos) (nSS f) :=
  (pe_callB (cr_sortedT hc) hg hm (by decide +kernel) (pa_cons (pe_callTy (cr_setOfT hc hu) hg2 hm2 (by decide +kernel) (pa_cons ha pa_nil hs) (by decide) (by decide) hs rfl) pa_nil hs2) (by decide) (by decide) hs2 rfl).imp tOf_nSS
end MP
namespace MP
open PySem PySem.Spec PyProof.Rows L2 RL

/-! ### a row of data and of new lists, and names for them -/
inductive Pt where
  | d (x : PyData)
  | n (ds : List PyData)
abbrev DX := Slots → Sto → Option (List Pt × Sto)
def xNil : DX := fun _ so => some ([], so)
def xD (f : DE) (g : DX) : DX := fun ρ so => (f ρ so).bind fun p => (g ρ p.2).bind fun q => some (Pt.d p.1 :: q.1, q.2)
def xN (f : DL) (g : DX) : DX := fun ρ so => (f ρ so).bind fun p => (g ρ p.2).bind fun q => some (Pt.n p.1 :: q.1, q.2)
/-- the values: those of new lists are apart from all that stood in H0 -/
inductive PtAll (K : PySem.W.Frag) (F H : Hp) : Hp → List V → List Pt → Prop
  | nil {H0 : Hp} : PtAll K F H H0 [] []
  | d {H0 : Hp} {v : V} {x : PyData} {vs : List V} {ps : List Pt} : Dq K F v x → PtAll K F H H0 vs ps → PtAll K F H H0 (v :: vs) (.d x :: ps)
  | n {H0 H1 : Hp} {a : Addr} {us : List V} {ds : List PyData} {vs : List V} {ps : List Pt} : H0 a = none → H1 a ≠ none → (∀ b, H0 b ≠ none → H1 b ≠ none) → F a = none → H a = some (.lst us) → DqAll K F us ds →
      PtAll K F H H1 vs ps → PtAll K F H H0 (.ref a :: vs) (.n ds :: ps)
theorem PtAll.less {K : PySem.W.Frag} {F H : Hp} : ∀ {H0 H1 : Hp} {vs : List V} {ps : List Pt}, (∀ b, H0 b ≠ none → H1 b ≠ none) → PtAll K F H H1 vs ps → PtAll K F H H0 vs ps
  | _, _, _, _, _, .nil => .nil
  | _, _, _, _, l, .d h t => .d h (PtAll.less l t)
  | H0, _, _, _, l, .n (a := a) h1 h2 h3 h4 h5 h6 t => .n (by
      cases q : H0 a with
      | none => rfl
      | some o => exact absurd h1 (l a (by rw [q]; exact nofun))) h2 (fun b hb => h3 b (l b hb)) h4 h5 h6 t
theorem PtAll.len {K : PySem.W.Frag} {F H : Hp} : ∀ {H0 : Hp} {vs : List V} {ps : List Pt}, PtAll K F H H0 vs ps → vs.length = ps.length
  | _, _, _, .nil => rfl
  | _, _, _, .d _ t => by rw [List.length_cons, List.length_cons, t.len]
  | _, _, _, .n _ _ _ _ _ _ t => by rw [List.length_cons, List.length_cons, t.len]
section
variable (K : PySem.W.Frag)
def tOfX (f : DX) : TA := fun σ H Q => ∃ F ow ρ so ps so', RelO K F H ow so ∧ RelS K F ow σ ρ ∧ f ρ so = some (ps, so') ∧
  ∀ F' H' vs, RelO K F' H' ow so' → Stp ow F H F' H' → PtAll K F' H' H vs ps → Q vs H'
end
abbrev PDX (X : Cx) (es : List Expr) (f : DX) : Prop := PA X es (tOfX X.K f)
section
variable {K : PySem.W.Frag}
theorem tOf_xNil (σ : L2.St) (H : Hp) (Q : List V → Hp → Prop) (h : tOfX K xNil σ H Q) : tNil σ H Q := by
  obtain ⟨F, ow, ρ, so, d, so', r0, rs, e, k⟩ := h
  cases e
  exact k F H [] r0 (Stp.refl _ _ _) .nil
theorem tOf_xD {f : DE} {g : DX} (σ : L2.St) (H : Hp) (Q : List V → Hp → Prop) (h : tOfX K (xD f g) σ H Q) : tCons (tOf K f) (tOfX K g) σ H Q := by
  obtain ⟨F, ow, ρ, so, d, so', r0, rs, e, k⟩ := h
  obtain ⟨⟨x, so1⟩, e1, e⟩ := Option.bind_eq_some_iff.mp e
  obtain ⟨⟨xs, so2⟩, e2, e⟩ := Option.bind_eq_some_iff.mp e
  cases e
  refine ⟨F, ow, ρ, so, x, so1, r0, rs, e1, fun F1 H1 v1 r1 s1 d1 => ⟨F1, ow, ρ, so1, xs, so2, r1, rs.mono s1.fz, e2, fun F2 H2 vs r2 s2 d2 => ?_⟩⟩
  exact k F2 H2 _ r2 (s1.trans s2) (.d (dq_same s2.fz x v1 d1) (d2.less s1.live))
theorem tOf_xN {f : DL} {g : DX} (σ : L2.St) (H : Hp) (Q : List V → Hp → Prop) (h : tOfX K (xN f g) σ H Q) : tCons (tOfN K f) (tOfX K g) σ H Q := by
  obtain ⟨F, ow, ρ, so, d, so', r0, rs, e, k⟩ := h
  obtain ⟨⟨x, so1⟩, e1, e⟩ := Option.bind_eq_some_iff.mp e
  obtain ⟨⟨xs, so2⟩, e2, e⟩ := Option.bind_eq_some_iff.mp e
  cases e
  refine ⟨F, ow, ρ, so, x, so1, r0, rs, e1, fun F1 H1 a us r1 s1 n0 f1 h1 d1 => ⟨F1, ow, ρ, so1, xs, so2, r1, rs.mono s1.fz, e2, fun F2 H2 vs r2 s2 d2 => ?_⟩⟩
  have na : some a ∉ ow := fun z => by
    obtain ⟨m, hm⟩ := List.mem_iff_getElem?.mp z
    exact r0.old m a hm n0
  exact k F2 H2 _ r2 (s1.trans s2) (.n n0 (by rw [h1]; exact nofun) s1.live (s2.own a _ na h1 f1) (s2.keep a _ na h1) (dqAll_same s2.fz _ _ d1) d2)
end
section
variable {X : Cx} {e : Expr} {es : List Expr} {f : DE} {fl : DL} {g : DX}
theorem pdx_nil : PDX X [] xNil := pa_nil.imp tOf_xNil
theorem pdx_d (ha : PD X e f) (hr : PDX X es g) (hs : starEach (e :: es) X.env = (false, eval e X.env) :: starEach es X.env := by rfl) : PDX X (e :: es) (xD f g) := (pa_cons ha hr hs).imp tOf_xD
theorem pdx_n (ha : PDN X e fl) (hr : PDX X es g) (hs : starEach (e :: es) X.env = (false, eval e X.env) :: starEach es X.env := by rfl) : PDX X (e :: es) (xN fl g) := (pa_cons ha hr hs).imp tOf_xN
end
/-- names (slot, place) for the row -/
def putXs : List (Nat × Nat) → List Pt → Slots → Sto → Option (Slots × Sto)
  | [], [], ρ, so => some (ρ, so)
  | (i, _) :: ts, .d x :: ps, ρ, so => putXs ts ps (ρ.set i (some (.d x))) so
  | (i, k) :: ts, .n ds :: ps, ρ, so => (putN i k ds ρ so).bind fun r => putXs ts ps r.1 r.2
  | _, _, _, _ => none
def setAll : List (Nat × Nat) → List V → L2.St → L2.St
  | (i, _) :: ts, v :: vs, σ => setAll ts vs (σ.set i (some v))
  | _, _, σ => σ
theorem putXs_ok {K : PySem.W.Frag} {F H : Hp} {p : Nat} {H00 : Hp} : ∀ {ts : List (Nat × Nat)} {vs : List V} {ps : List Pt} {H0 : Hp} {ow : Ads} {ρ ρ' : Slots} {so so' : Sto} {σ : L2.St}, (∀ t ∈ ts, p ≤ t.2) → (∀ b, H00 b ≠ none → H0 b ≠ none) →
    (∀ (m : Nat) (b : Addr), ow[m]? = some (some b) → H0 b ≠ none) → PtAll K F H H0 vs ps → RelO K F H ow so → RelS K F ow σ ρ → putXs ts ps ρ so = some (ρ', so') →
    ∃ ow', RelO K F H ow' so' ∧ RelS K F ow' (setAll ts vs σ) ρ' ∧ OwTo p ow H00 ow'
  | [], _, _, H0, ow, ρ, ρ', so, so', σ, _, _, _, h, r, rs, e => by
    cases h with
    | nil => cases e; exact ⟨ow, r, rs, OwTo.refl _ _ _⟩
    | d _ _ => cases e
    | n _ _ _ _ _ _ _ => cases e
  | (i, k) :: ts, _, _, H0, ow, ρ, ρ', so, so', σ, hp, l0, live, h, r, rs, e => by
    cases h with
    | nil => cases e
    | d hd ht => exact putXs_ok (ts := ts) (fun t m => hp t (List.mem_cons_of_mem _ m)) l0 live ht r (rs.set (i := i) (s := some (.d _)) ⟨_, rfl, hd⟩) e
    | n h1 h2 h3 h4 h5 h6 ht =>
      rename_i H1 a us ds vs ps
      obtain ⟨⟨ρ1, so1⟩, e1, e2⟩ := Option.bind_eq_some_iff.mp (show (putN i k ds ρ so).bind _ = _ from e)
      obtain ⟨q1, q2, q3, q4⟩ := putN_ok e1
      subst q3 q4
      have hk : p ≤ k := hp _ List.mem_cons_self
      have lo : k < ow.length := by rw [r.len]; exact q1
      have ne : ∀ (m : Nat) (b : Addr), ow[m]? = some (some b) → b ≠ a := fun m b hb z => live m b hb (by rw [z]; exact h1)
      have n00 : H00 a = none := by
        cases q : H00 a with
        | none => rfl
        | some o => exact absurd h1 (l0 a (by rw [q]; exact nofun))
      obtain ⟨ow', r', rs', t'⟩ := putXs_ok (ts := ts) (ow := ow.set k (some a)) (H00 := H00) (fun t m => hp t (List.mem_cons_of_mem _ m)) (fun b hb => h3 b (l0 b hb)) (fun m b hb => by
        rcases get_set hb with ⟨_, z⟩ | ⟨_, hb⟩
        · cases z; exact h2
        · exact h3 b (live m b hb)) ht (new_rel (j := k) r ne h4 h5 h6) (new_slots rs lo q2) e2
      refine ⟨ow', r', rs', t'.1.trans (by rw [List.length_set]), fun m => ?_⟩
      rcases t'.2 m with z | z
      · rcases (owTo_set (ow := ow) (H0 := H00) (p := p) (j := k) (a := a) hk n00).2 m with z1 | z1
        · exact .inl (z.trans z1)
        · exact .inr ⟨z1.1, fun c hc => z1.2 c (by rw [← z]; exact hc)⟩
      · exact .inr z
/-- a, b, c = .., .., .. -/
def sParX (ts : List (Nat × Nat)) (g : DX) : DS := fun ρ so => (g ρ so).bind fun p => (putXs ts p.1 ρ p.2).map fun r => (.nx r.1, r.2)
section
variable {K : PySem.W.Frag} {p : Nat} {W : Str → Hp → Prop}
theorem tOf_parX3 {i j l a b c : Nat} {g : DX} (hp : ∀ t ∈ [(i, a), (j, b), (l, c)], p ≤ t.2) (D : Ends) (σ : L2.St) (H : Hp) (hl : ∀ ρ so q, g ρ so = some q → q.1.length = 3) (h : tOfS K p W (sParX [(i, a), (j, b), (l, c)] g) D σ H) : tPar3 i j l (tOfX K g) D σ H := by
  obtain ⟨F, ow, ρ, so, fl, so', r0, rs, e, k⟩ := h
  obtain ⟨⟨ps, so1⟩, e1, e⟩ := Option.bind_eq_some_iff.mp e
  obtain ⟨⟨ρ', so2⟩, e2, e⟩ := Option.map_eq_some_iff.mp e
  cases e
  refine ⟨F, ow, ρ, so, ps, so1, r0, rs, e1, fun F1 H1 vs r1 s1 d1 => ?_⟩
  have lv : vs.length = 3 := d1.len.trans (hl _ _ _ e1)
  obtain ⟨ow', r', rs', t'⟩ := putXs_ok (H00 := H) hp (fun _ h => h) r0.old d1 r1 (rs.mono s1.fz) e2
  match vs, lv with
  | [u, v, w], _ => exact ⟨u, v, w, rfl, k F1 H1 ow' r' s1 t' _ rs'⟩
end
theorem xNil_len {ρ : Slots} {so : Sto} {q : List Pt × Sto} (h : xNil ρ so = some q) : q.1.length = 0 := by cases h; rfl
theorem xD_len {f : DE} {g : DX} {m : Nat} (hg : ∀ ρ so q, g ρ so = some q → q.1.length = m) : ∀ ρ so q, xD f g ρ so = some q → q.1.length = m + 1 := fun ρ so q h => by
  obtain ⟨x, _, h⟩ := Option.bind_eq_some_iff.mp h
  obtain ⟨y, hy, h⟩ := Option.bind_eq_some_iff.mp h
  cases h
  rw [List.length_cons, hg _ _ _ hy]
theorem xN_len {f : DL} {g : DX} {m : Nat} (hg : ∀ ρ so q, g ρ so = some q → q.1.length = m) : ∀ ρ so q, xN f g ρ so = some q → q.1.length = m + 1 := fun ρ so q h => by
  obtain ⟨x, _, h⟩ := Option.bind_eq_some_iff.mp h
  obtain ⟨y, hy, h⟩ := Option.bind_eq_some_iff.mp h
  cases h
  rw [List.length_cons, hg _ _ _ hy]
section
variable {X : Cx} {q : Nat} {W : Str → Hp → Prop} {i j l ka kb kc : Nat} {x y z : Str} {a b c : Expr} {px py pz pt pos : Pos} {kt k2 : Nat} {pt2 : Pos} {g : DX}
theorem pds_parX3 (hp : ∀ t ∈ [(i, ka), (j, kb), (l, kc)], q ≤ t.2) (hc : X.calm = true) (hN : X.N.Nodup) (hi : X.N[i]? = some x) (hj : X.N[j]? = some y) (hl : X.N[l]? = some z) (hij : i ≠ j) (hil : i ≠ l) (hjl : j ≠ l)
    (hx : X.env.scope.names.lookup x = some .local) (hy : X.env.scope.names.lookup y = some .local) (hz : X.env.scope.names.lookup z = some .local) (ha : PDX X [a, b, c] g) (hn : ∀ ρ so q, g ρ so = some q → q.1.length = 3)
    (hw : swappedStores [.Tuple [.Name x px, .Name y py, .Name z pz] kt pt] (.Tuple [a, b, c] k2 pt2) X.env = pure (some [x, y, z])) (hs : swapsWithSole [.Tuple [.Name x px, .Name y py, .Name z pz] kt pt] (.Tuple [a, b, c] k2 pt2) pos.line X.env = pure false := by rfl) :
    PDS X q W (.Assign [.Tuple [.Name x px, .Name y py, .Name z pz] kt pt] (.Tuple [a, b, c] k2 pt2) pos) (sParX [(i, ka), (j, kb), (l, kc)] g) := (ps_par3 hc hN hi hj hl hij hil hjl hx hy hz ha hw hs).imp fun D σ H h => tOf_parX3 hp D σ H hn h
end
end MP
namespace RL
open PySem PySem.Spec PyProof.Rows L2

/-! ### first, *others = a tuple -/
section
variable {P : Program} {w : World} {A : Around} {E : Value → Shared → Prop} {s : Shared}
theorem head_tuple {l : Addr} {arr : Array Value} {u : Value} {us : List Value} {Q : List Value → Shared → Prop} (hh : A.handled = none) (ht : IsTup s.heap l arr) (ha : arr.toList = u :: us) (hz : arr.size ≤ 16384)
    (fin : ∀ (g : Heap) (tk : Nat), (∀ c o, s.heap.get? c = some o → g.get? c = some o) → Q [u, .ref g.objs.size] { s with heap := g.push { cls := .type "list", data := .seq us.toArray }, toks := tk }) :
    wpAny (model P w) A (unpackItems (.ref l) 2 (some 1)) Q E s := by
  obtain ⟨ol, hol, _⟩ := id ht
  have hl0 : l < s.heap.objs.size := Heap.lt_size hol
  have hne : l ≠ s.heap.objs.size := Nat.ne_of_lt hl0
  have sz : arr.size = us.length + 1 := by
    have e := congrArg List.length ha
    rwa [Array.length_toList, List.length_cons] at e
  unfold unpackItems
  refine wpAny_bind ?_
  unfold notIterableAtAll
  refine wpAny_bind (wpAny_specialOf ht.typeIs slot_tuple_iter.lookup (wpAny_pure ?_))
  simp only [Bool.false_eq_true, if_false]
  refine wpAny_bind (wpAny_holding (iter_tuple ht ?_))
  refine wpAny_bind (wpAny_holding (draw_tuple hne 1 0 _ _ ⟨_, Heap.get?_push_size _ rfl, rfl, rfl⟩ (ht.push _) (by omega) fun g1 i1 s1 => ?_))
  have t1 : IsTup g1 l arr := (ht.push _).extBut s1.extBut hne
  rw [Nat.zero_add] at i1
  obtain ⟨oi, hoi, _⟩ := id i1
  obtain ⟨ol1, hol1, _⟩ := id t1
  have e1 : (arr.toList.drop 0).take 1 = [u] := by rw [ha]; rfl
  have e2 : arr.toList.drop 1 = us := by rw [ha]; rfl
  rw [e1]
  rw [if_neg (show ¬ ([u].length < 1) by simp)]
  refine wpAny_bind (wpAny_holding (PySem.W.kun_collect (s := { s with heap := g1 }) (ax := l) (T := "tuple_iterator") (.inr (.inr (.inr rfl))) (Walks.tuple (A := A.in1) hh s.heap.objs.size l hne arr) (fun j v st => st.1.typeIs) (k := 1) (by omega) ⟨i1, t1⟩ (Heap.lt_size hoi) (Heap.lt_size hol1) (fun g2 tk k2 => ?_) (by rw [sizeLine_eq]; omega)))
  rw [e2]
  rw [if_neg (show ¬ (us.length < 2 - 1 - 1) by omega)]
  have e3 : us.take (us.length - (2 - 1 - 1)) = us := List.take_of_length_le (by omega)
  have e4 : us.drop (us.length - (2 - 1 - 1)) = [] := List.drop_of_length_le (by omega)
  show wpAny _ _ (newList (us.take (us.length - (2 - 1 - 1))) >>= fun d => pure ([u] ++ [d] ++ us.drop (us.length - (2 - 1 - 1)))) _ _ _
  rw [e3, e4]
  refine wpAny_bind (wpAny_newList (wpAny_pure ?_) (by rw [sizeLine_eq]; omega))
  have kp : ∀ c o, s.heap.get? c = some o → g2.get? c = some o := fun c o e => by
    have hc : c ≠ s.heap.objs.size := Nat.ne_of_lt (Heap.lt_size e)
    exact k2 c o hc (s1.extBut c o hc (Heap.get?_push_of_some _ e))
  exact fin g2 tk kp
end
/-- the new list is there before the names are stored -/
def gHead (K : PySem.W.Frag) (t u : TG) : TG := fun v σ H Q => ∃ a x xs, v = .ref a ∧ SqT K H a (x :: xs) ∧ xs.length ≤ 5000 ∧ ∀ q, H q = none → t x σ (upd H q (.lst xs)) fun σ1 H1 => u (.ref q) σ1 H1 Q
theorem pg_head {X : Cx} {a b : Expr} {k : Nat} {sp pos : Pos} {t u : TG} (hc : X.calm = true) (h1 : PG X a t) (h2 : PG X b u)
    (hm : (assignEach [a, .Starred b sp] X.env) = [(false, assign a X.env), (true, assign b X.env)] := by rfl) : PG X (.Tuple [a, .Starred b sp] k pos) (gHead X.K t u) := by
  refine ⟨fun pins s σ H v z Q I r h => ?_⟩
  obtain ⟨l, x, xs, rfl, hq, l5, h⟩ := h
  cases r
  obtain ⟨its, rv, pl, _⟩ := I.tuple hq
  cases rv with
  | cons rx rr =>
    rename_i ux uxs
    have lx := rr.length
    rw [assign_Tuple]
    refine wpAny_bind (wpAny_standAt ?_)
    unfold unpack
    rw [hm]
    refine wpAny_bind (wpAny_holding (head_tuple (u := ux) (us := uxs) (I.ok.hd hc) pl (by simp) (by simp; omega) fun g tk kp => ?_))
    have I1 : Inv X pins σ H { s with heap := g, toks := tk } := I.kept kp
    have I2 : Inv X pins σ (upd H g.objs.size (.lst xs)) { s with heap := g.push { cls := .type "list", data := .seq uxs.toArray }, toks := tk } :=
      I1.lnew (t' := tk) rr (by rw [sizeLine_eq]; omega)
    refine assignInOrder_cons (thn (h1.run pins _ σ _ _ _ _ I2 rx (h _ I1.fresh)) fun _ s1 ⟨σ1, H1, I3, q1⟩ => ?_)
    refine assignInOrder_cons (thn (h2.run pins s1 σ1 H1 (.ref g.objs.size) _ _ I3 rfl q1) fun _ s2 ⟨σ2, H2, I4, q2⟩ => ?_)
    exact assignInOrder_nil ⟨σ2, H2, I4, q2⟩
/-! ### slices with a step -/
/-- the places of xs[lo:hi:st], of n -/
def stepIx (n : Nat) (lo hi : Option Int) (st : Int) : List Nat :=
  (List.range (Builtin.Slice.slicePlaces (Builtin.Slice.sliceAdjust lo hi st (n : Int)).1 (Builtin.Slice.sliceAdjust lo hi st (n : Int)).2 st)).map fun (k : Nat) => ((Builtin.Slice.sliceAdjust lo hi st (n : Int)).1 + (k : Int) * st).toNat
def pickIx {α : Type} (xs : List α) (js : List Nat) : List α := js.filterMap fun j => xs[j]?
section
variable {P : Program} {w : World} {A : Around} {E : Value → Shared → Prop} {s : Shared}
theorem sliced3 {sl : Addr} {vl vu vs : Value} {lo hi : Option Int} {st : Int} {n : Nat} {Q : Int × Int × Nat → Shared → Prop} (hs : s.heap.IsSliceOf sl vl vu vs) (pl : IsPart vl lo) (pu : IsPart vu hi) (ps : IsPart vs (some st)) (h0 : st ≠ 0)
    (h : Q ((Builtin.Slice.sliceAdjust lo hi st (n : Int)).1, st, Builtin.Slice.slicePlaces (Builtin.Slice.sliceAdjust lo hi st (n : Int)).1 (Builtin.Slice.sliceAdjust lo hi st (n : Int)).2 st) s) :
    wpAny (model P w) A (Builtin.Slice.sliceApplied (.ref sl) (pure (n : Int))) Q E s := by
  obtain ⟨os, e1, e2, e3⟩ := id hs
  unfold Builtin.Slice.sliceApplied Builtin.Slice.sliceFields
  refine wpAny_bind (wpAny_bind (wpAny_field e1 e3 (x := vl) rfl (wpAny_bind (wpAny_field e1 e3 (x := vu) rfl (wpAny_bind (wpAny_field e1 e3 (x := vs) rfl (wpAny_pure ?_)))))))
  refine wpAny_bind (HT.slicePart_ ps ?_)
  show wpAny _ _ (if (st == 0) = true then _ else _) _ _ s
  rw [if_neg (by simpa using h0)]
  exact wpAny_bind (HT.slicePart_ pl (wpAny_bind (HT.slicePart_ pu (wpAny_bind (wpAny_pure (wpAny_pure h))))))
theorem item_step {t sl : Addr} {arr : Array Value} {vl vu vs : Value} {lo hi : Option Int} {st : Int} {Q : Value → Shared → Prop} (ht : IsTup s.heap t arr) (hs : s.heap.IsSliceOf sl vl vu vs) (pl : IsPart vl lo) (pu : IsPart vu hi) (ps : IsPart vs (some st))
    (h0 : st ≠ 0) (h1 : st ≠ 1) (hz : (stepIx arr.size lo hi st).length ≤ sizeLine)
    (h : Q (.ref s.heap.objs.size) { s with heap := s.heap.push { cls := .type "tuple", data := .seq (pickIx arr.toList (stepIx arr.size lo hi st)).toArray } }) : wpAny (model P w) A (getItem (.ref t) (.ref sl)) Q E s := by
  obtain ⟨os, e1, e2, e3⟩ := id hs
  have hT : s.TypeIs (.ref sl) "slice" := ⟨os, e1, e2⟩
  unfold getItem
  refine wpAny_holding ?_
  first | refine wpAny_bind (wpAny_pure ?_) | skip
  refine wpAny_bind (wpAny_sequenceKey ht.typeIs (by decide) ?_)
  refine wpAny_bind (wpAny_callSpecial?_slot (name := Str.ofString "__getitem__") ht.typeIs PyProof.Rows.slot_tuple_getitem (wpAny_call_entry PyProof.Rows.slot_tuple_getitem ht.typeIs PyProof.Rows.entry_tuple_getitem ?_ (PyProof.Rows.args_tuple_getitem _ _)))
  show wpAny _ _ (Builtin.Tuple.tupleItemsOf (.ref t) >>= _) _ _ s
  refine wpAny_bind (tupleItemsOf_ ht (wpAny_bind (wpAny_typeOf hT ?_)))
  rw [if_pos (by decide)]
  refine wpAny_bind (sliced3 hs pl pu ps h0 ?_)
  have no : ¬ (((Builtin.Slice.sliceAdjust lo hi st (arr.size : Int)).1 == 0 && st == 1 && (Builtin.Slice.slicePlaces (Builtin.Slice.sliceAdjust lo hi st (arr.size : Int)).1 (Builtin.Slice.sliceAdjust lo hi st (arr.size : Int)).2 st) == arr.size) = true) := by
    intro q
    rw [Bool.and_eq_true, Bool.and_eq_true] at q
    exact h1 (eq_of_beq q.1.2)
  show wpAny _ _ (if ((Builtin.Slice.sliceAdjust lo hi st (arr.size : Int)).1 == 0 && st == 1 && (Builtin.Slice.slicePlaces (Builtin.Slice.sliceAdjust lo hi st (arr.size : Int)).1 (Builtin.Slice.sliceAdjust lo hi st (arr.size : Int)).2 st) == arr.size) = true then _ else _) _ _ s
  rw [if_neg no]
  have e : ∀ (n : Nat) (l : Int), ((List.range n).filterMap fun (m : Nat) => arr[(l + (m : Int) * st).toNat]?) = pickIx arr.toList ((List.range n).map fun (k : Nat) => (l + (k : Int) * st).toNat) := fun n l => by
    unfold pickIx
    rw [List.filterMap_map]
    congr 1
    funext m
    show _ = arr.toList[_]?
    rw [Array.getElem?_toList]
  rw [e]
  have hz2 : sizeOk (.seq (pickIx arr.toList (stepIx arr.size lo hi st)).toArray) := by
    show (pickIx arr.toList (stepIx arr.size lo hi st)).toArray.size ≤ sizeLine
    rw [List.size_toArray]
    exact Nat.le_trans (List.length_filterMap_le _ _) hz
  first
    | exact wpAny_bind (m := Builtin.Tuple.tupleExact _) (wpAny_newObj_type (wpAny_pure ⟨_, rfl, wpAny_pure h⟩) hz2)
    | exact wpAny_bind (m := Builtin.Tuple.tupleExact _) (wpAny_newObj_type (wpAny_bind (wpAny_pure (wpAny_pure ⟨_, rfl, wpAny_pure h⟩))) hz2)
    | exact wpAny_bind (wpAny_bind (m := Builtin.Tuple.tupleExact _) (wpAny_newObj_type (wpAny_pure (wpAny_pure ⟨_, rfl, wpAny_pure h⟩)) hz2))
    | exact wpAny_bind (wpAny_bind (m := Builtin.Tuple.tupleExact _) (wpAny_newObj_type (wpAny_pure ⟨_, rfl, wpAny_pure h⟩) hz2))
end
/-- the list's way to the same places -/
theorem bounds_up {n : Nat} {a k : Nat} (hk : 1 ≤ k) : sliceRange (sliceBounds (some (a : Int)) none (some (k : Int)) n).1 (sliceBounds (some (a : Int)) none (some (k : Int)) n).2.1 (sliceBounds (some (a : Int)) none (some (k : Int)) n).2.2 = stepIx n (some (a : Int)) none (k : Int) := by
  have k0 : (k : Int) > 0 := by omega
  have k1 : ¬ (k : Int) < 0 := by omega
  have a1 : ¬ (a : Int) < 0 := by omega
  have e1 : sliceBounds (some (a : Int)) none (some (k : Int)) n = (max 0 (min (a : Int) n), (n : Int), (k : Int)) := by simp [sliceBounds, k0, a1, show ¬ k = 0 by omega]
  have e2 : Builtin.Slice.sliceAdjust (some (a : Int)) none (k : Int) (n : Int) = (min (a : Int) n, (n : Int)) := by simp [Builtin.Slice.sliceAdjust, k1, a1]
  have e3 : max 0 (min (a : Int) n) = min (a : Int) n := by omega
  unfold stepIx
  rw [e1, e2, e3]
  unfold sliceRange Builtin.Slice.slicePlaces
  simp only [k0, if_true]
  have e4 : (if min (a : Int) n < n then ((n : Int) - min (a : Int) n + k - 1) / k else 0) = (if min (a : Int) n < n then ((n : Int) - min (a : Int) n - 1) / k + 1 else 0) := by
    split
    · have : (n : Int) - min (a : Int) n + k - 1 = (n : Int) - min (a : Int) n - 1 + 1 * k := by omega
      rw [this, Int.add_mul_ediv_right _ _ (by omega)]
    · rfl
  rw [e4]
  refine List.map_congr_left fun m _ => ?_
  rw [Int.mul_comm]
theorem bounds_down {n : Nat} : sliceRange (sliceBounds none none (some (-1)) n).1 (sliceBounds none none (some (-1)) n).2.1 (sliceBounds none none (some (-1)) n).2.2 = stepIx n none none (-1) := by
  have e1 : sliceBounds none none (some (-1)) n = ((n : Int) - 1, -1, -1) := by simp [sliceBounds]
  have e2 : Builtin.Slice.sliceAdjust none none (-1) (n : Int) = ((n : Int) - 1, -1) := by simp [Builtin.Slice.sliceAdjust]
  unfold stepIx
  rw [e1, e2]
  unfold sliceRange Builtin.Slice.slicePlaces
  simp only [show ¬ ((-1 : Int) > 0) by decide, if_false]
  have e4 : (if (n : Int) - 1 > -1 then ((n : Int) - 1 - -1 - -1 - 1) / (- -1) else 0) = (if (n : Int) - 1 > -1 then ((n : Int) - 1 - -1 - 1) / (- -1) + 1 else 0) := by
    split
    · rw [show (- -1 : Int) = 1 by decide, Int.ediv_one, Int.ediv_one]; omega
    · rfl
  rw [e4]
  refine List.map_congr_left fun m _ => ?_
  rw [Int.mul_comm]
/-! ### over the layer -/
def tSl3 (r : V → Option Int → Option Int → Option Int → Hp → VK → Prop) (te : TE) (tl th ts : L2.TO) : TE := fun σ H Q => te σ H fun x H1 => tl σ H1 fun l H2 => th σ H2 fun u H3 => ts σ H3 fun z H4 => r x l u z H4 Q
/-- which slices with a step are meant: from a place on, by a step of two or more; all from behind -/
inductive StepOk3 : Option Int → Option Int → Option Int → Prop
  | up (a k : Nat) : 2 ≤ k → StepOk3 (some (a : Int)) none (some (k : Int))
  | down : StepOk3 none none (some (-1))
def rStep (K : PySem.W.Frag) : V → Option Int → Option Int → Option Int → Hp → VK → Prop := fun x lo hi st H Q => StepOk3 lo hi st ∧ ∃ a xs z, x = .ref a ∧ st = some z ∧ (stepIx xs.length lo hi z).length ≤ 16000 ∧
  ((SqL K H a xs ∧ ∀ p, H p = none → Q (.ref p) (upd H p (.lst (pickIx xs (stepIx xs.length lo hi z))))) ∨ (SqT K H a xs ∧ NewT H (pickIx xs (stepIx xs.length lo hi z)) Q))
theorem vals_pick {xs : List V} {us : List Value} (r : Vals xs us) : ∀ js : List Nat, Vals (pickIx xs js) (pickIx us js)
  | [] => .nil
  | j :: js => by
    have ih := vals_pick r js
    unfold pickIx at ih ⊢
    rw [List.filterMap_cons, List.filterMap_cons]
    cases h : xs[j]? with
    | none =>
      have : us[j]? = none := by
        rw [List.getElem?_eq_none_iff] at h ⊢
        rw [← r.length]
        exact h
      rw [this]
      exact ih
    | some x =>
      obtain ⟨u, hu, ru⟩ := r.get h
      rw [hu]
      exact .cons ru ih
theorem pe_step {X : Cx} {e : Expr} {lo hi : Option Expr} {st : Expr} {te : TE} {tl th ts : L2.TO} {pos p2 : Pos} (he : PE X e te) (hl : PO X lo tl) (hu : PO X hi th) (hs : PO X (some st) ts) : PE X (.Subscript e (.Slice lo hi (some st) p2) pos) (tSl3 (rStep X.K) te tl th ts) := by
  refine ⟨fun pins s σ H Q I h => ?_⟩
  refine Subscript_ (thn (he.run pins s σ H _ I h) fun v s1 ⟨x, H1, I1, r1, q1⟩ => ?_)
  refine wpAny_Slice (thn (hl.run pins s1 σ H1 _ I1 q1) fun vl s2 ⟨l, H2, I2, pl, q2⟩ => thn (hu.run pins s2 σ H2 _ I2 q2) fun vu s3 ⟨u, H3, I3, pu, q3⟩ => thn (hs.run pins s3 σ H3 _ I3 q3) fun vz s4 ⟨z, H4, I4, pz, q4⟩ => ?_)
  obtain ⟨ok, a, xs, k, rfl, rfl, hz, q⟩ := q4
  cases r1
  have I5 : Inv X pins σ H4 { s4 with heap := s4.heap.push { cls := .type "slice", data := .fields #[vl, vu, vz] } } := I4.kept (t' := s4.toks) fun b ob q => Heap.get?_push_of_some _ q
  have hsl := Heap.IsSliceOf.new s4.heap vl vu vz
  have k0 : k ≠ 0 := by cases ok <;> omega
  have k1 : k ≠ 1 := by cases ok <;> omega
  show wpAny (model X.prog X.w) X.A (subscriptTail e (.Slice lo hi (some st) p2) (.ref a) (.ref s4.heap.objs.size)) (EP X pins σ Q) X.xe { s4 with heap := s4.heap.push { cls := .type "slice", data := .fields #[vl, vu, vz] } }
  rcases q with ⟨hq, q⟩ | ⟨hq, q⟩
  · obtain ⟨its, rv, pL, hzL⟩ := I5.list hq
    have lx := rv.length
    refine tail_any (T := "list") (id := "list.__getitem__") (ops := [.ref a, .ref s4.heap.objs.size]) pL.isList.typeIs slot_list_getitem.lookup ?_ (by with_unfolding_all rfl)
    refine wpAny_getItem_list_slice pL.isList hsl pl pu pz (by simpa using k0) ?_ (by rw [List.size_toArray, ← lx]; exact hzL)
    have ez : its.toArray.size = xs.length := by rw [List.size_toArray, lx]
    have ep : slicePick its.toArray l u (some k) = (pickIx its (stepIx xs.length l u k)).toArray := by
      have eb : sliceRange (sliceBounds l u (some k) its.toArray.size).1 (sliceBounds l u (some k) its.toArray.size).2.1 (sliceBounds l u (some k) its.toArray.size).2.2 = stepIx xs.length l u k := by
        rw [ez]
        cases ok with
        | up a k hk => exact bounds_up (by omega)
        | down => exact bounds_down
      unfold slicePick pickIx
      rw [eb]
      congr 2
      funext j
      simp
    rw [ep]
    refine ⟨.ref _, _, I5.laid (t' := s4.toks) (o := .lst (pickIx xs (stepIx xs.length l u k))) (fun b ob q => Heap.get?_push_of_some _ q) (Nat.le_refl _) ?_, rfl, q _ (I5.hok.fresh (Nat.le_refl _))⟩
    exact ⟨Nat.le_trans (List.length_filterMap_le _ _) (by rw [sizeLine_eq]; omega), _, 0, vals_pick rv _, Heap.get?_push_size _ rfl⟩
  · obtain ⟨its, rv, pT, _⟩ := I5.tuple hq
    have lx := rv.length
    refine tail_any (T := "tuple") (id := "tuple.__getitem__") (ops := [.ref a, .ref s4.heap.objs.size]) pT.typeIs PyProof.Rows.slot_tuple_getitem.lookup ?_ (by with_unfolding_all rfl)
    have ez : its.toArray.size = xs.length := by rw [List.size_toArray, lx]
    refine item_step pT hsl pl pu pz k0 k1 (by rw [ez, sizeLine_eq]; omega) ?_
    rw [ez]
    exact newT I5 (vals_pick rv _) (Nat.le_trans (List.length_filterMap_le _ _) (by rw [sizeLine_eq]; omega)) q
end RL
namespace RL
open PySem PySem.Spec PyProof.Rows L2

/-! ### zip(*xs), xs a list of tuples (b) or of lists, of one length -/
def SIt (b : Bool) (h : Heap) (t l : Addr) (i : Nat) : Prop := if b = true then h.IsTupleIter t l i else h.IsListIter t l i
def SOk (b : Bool) (h : Heap) (l : Addr) (arr : Array Value) : Prop := if b = true then h.IsTuple l arr else h.IsList l arr
abbrev itB (b : Bool) (l : Addr) : Obj := { cls := .type (if b = true then "tuple_iterator" else "list_iterator"), data := .fields #[.ref l, .int 0 0] }
theorem SIt.at {b : Bool} {h h' : Heap} {t l : Addr} {i : Nat} (x : SIt b h t l i) (k : ∀ o, h.get? t = some o → h'.get? t = some o) : SIt b h' t l i := by
  cases b
  · exact Heap.IsListIter.at x k
  · exact Heap.IsTupleIter.at x k
theorem SOk.at {b : Bool} {h h' : Heap} {l : Addr} {arr : Array Value} (x : SOk b h l arr) (k : ∀ o, h.get? l = some o → h'.get? l = some o) : SOk b h' l arr := by
  cases b
  · exact Heap.IsList.at x k
  · exact Heap.IsTuple.at x k
theorem SIt.obj {b : Bool} {h : Heap} {t l : Addr} {i : Nat} (x : SIt b h t l i) : ∃ o, h.get? t = some o ∧ ∀ v, o.data ≠ .cell v := by
  cases b
  · obtain ⟨o, e, _, d⟩ := x
    exact ⟨o, e, fun v q => by rw [d] at q; cases q⟩
  · obtain ⟨o, e, _, d⟩ := x
    exact ⟨o, e, fun v q => by rw [d] at q; cases q⟩
section
variable {prog : Program} {w : World} {A : Around} {E : Value → Shared → Prop} {s : Shared}
theorem nextB_item {b : Bool} {t l : Addr} {i : Nat} {arr : Array Value} {x : Value} {Q : Value → Shared → Prop} (hit : SIt b s.heap t l i) (hl : SOk b s.heap l arr) (hx : arr[i]? = some x)
    (hQ : ∀ h', SIt b h' t l (i + 1) → Heap.SameBut t s.heap h' → Q x { s with heap := h' }) : wpAny (model prog w) A (Builtin.SmallTypes.nextOf (.ref t)) Q E s := by
  cases b
  · exact wpAny_nextOf_list_item hit hl hx hQ
  · exact wpAny_nextOf_tuple_item hit hl hx hQ
theorem nextB_end {b : Bool} {t l : Addr} {i : Nat} {arr : Array Value} {Q : Value → Shared → Prop} (hh : A.handled = none) (hit : SIt b s.heap t l i) (hl : SOk b s.heap l arr) (hx : arr[i]? = none)
    (hE : ∀ h' e, Heap.ExtBut t s.heap h' → (∃ o, h'.get? e = some o ∧ o.cls = .type "StopIteration") → E (.ref e) { s with heap := h' }) : wpAny (model prog w) A (Builtin.SmallTypes.nextOf (.ref t)) Q E s := by
  cases b
  · exact wpAny_nextOf_list_end hh hit hl hx hE
  · exact wpAny_nextOf_tuple_end hh hit hl hx hE
end
theorem forIn_steps {α β : Type} {M : Model} {A : Around} {E : Value → Shared → Prop} (body : α → β → Sem (ForInStep β)) (Iv : Nat → β → Shared → Prop) (Q : β → Shared → Prop) :
    ∀ (xs : List α) (k : Nat) (b : β) (s : Shared), Iv k b s → (∀ j x b s, xs[j]? = some x → Iv (k + j) b s → wpAny M A (body x b) (fun r s' => ∃ b', r = .yield b' ∧ Iv (k + j + 1) b' s') E s) →
      (∀ b s', Iv (k + xs.length) b s' → Q b s') → wpAny M A (forIn xs b body) Q E s
  | [], k, b, s, h0, _, hd => by
    simp only [List.forIn_nil]
    exact wpAny_pure (hd b s (by simpa using h0))
  | x :: xs, k, b, s, h0, hs, hd => by
    simp only [List.forIn_cons]
    refine wpAny_bind (wpAny_mono (hs 0 x b s rfl (by simpa using h0)) (fun r s' ⟨b', e, h1⟩ => ?_) fun _ _ z => z)
    subst e
    refine forIn_steps body Iv Q xs (k + 1) b' s' (by simpa using h1) (fun j y b2 s2 hj h2 => ?_) fun b2 s2 h2 => hd b2 s2 ?_
    · have e1 : k + 1 + j = k + (j + 1) := by omega
      rw [e1] at h2 ⊢
      exact hs (j + 1) y b2 s2 (by simpa using hj) h2
    · rw [List.length_cons]
      have e1 : k + (xs.length + 1) = k + 1 + xs.length := by omega
      rw [e1]
      exact h2
/-- the zip object: what it has handed out last, whether that was asked for -/
abbrev IsZipG (h : Heap) (z TI TO : Addr) (f : Value) (g : Bool) : Prop := h.get? z = some { cls := .type "zip", data := .fields #[f, .bool g, .bool false, .ref TI, .ref TO] }
def FrF : Value → Prop
  | .none => True
  | .int _ t => t = 0
  | _ => False
def ZSB (b : Addr → Bool) (z TI TO : Addr) (its src : List Addr) (i : Nat) (h : Heap) : Prop :=
  (∃ f g, FrF f ∧ IsZipG h z TI TO f g) ∧ tupN h TI (its.map Value.ref) ∧ (∃ cur : List Value, cur.length = its.length ∧ tupN h TO cur) ∧ ∀ (k : Nat) (t l : Addr), its[k]? = some t → src[k]? = some l → SIt (b l) h t l i
theorem alive_ {M : Model} {A : Around} {E : Value → Shared → Prop} {s : Shared} {a : Addr} {Q : Option Obj → Shared → Prop} (h : Q (s.heap.get? a) s) : wpAny M A (loadIfAlive a) Q E s := fun _ _ _ => h
section
variable {prog : Program} {w : World} {A : Around} {E : Value → Shared → Prop} {s : Shared} {z TI TO : Addr} {its src : List Addr} {i : Nat} {b : Addr → Bool}
/-- is the tuple that was handed out free again? either may be -/
theorem free_or {f : Value} {g : Bool} {Q : Bool → Shared → Prop} (hz : IsZipG s.heap z TI TO f g) (hf : FrF f) (h1 : Q true s) (h2 : ∀ h', Heap.SameBut z s.heap h' → IsZipG h' z TI TO f true → Q false { s with heap := h' }) :
    wpAny (model prog w) A (Builtin.SmallTypes.ownedTupleIsFree (.ref z)) Q E s := by
  unfold Builtin.SmallTypes.ownedTupleIsFree
  refine wpAny_bind (wpAny_field hz rfl (x := f) rfl ?_)
  cases f with
  | none => exact wpAny_pure h1
  | int a t =>
    show wpAny _ _ (loadIfAlive a.toNat >>= fun o => _) _ _ _
    refine wpAny_bind (alive_ ?_)
    cases q : s.heap.get? a.toNat with
    | none => exact wpAny_pure h1
    | some o =>
      simp only [Option.isNone_some, Bool.false_eq_true, if_false]
      refine wpAny_bind (wpAny_field hz rfl (x := .bool g) rfl ?_)
      cases g with
      | true =>
        simp only [bne_self_eq_false, Bool.false_eq_true, if_false]
        exact wpAny_pure (h2 s.heap (Heap.SameBut.refl ..) hz)
      | false =>
        refine wpAny_bind (wpAny_setField_rec hz (by simp) fun h7 z7 s7 => wpAny_pure (h2 h7 s7 z7))
  | _ => exact hf.elim
theorem zipB_next {Q : Value → Shared → Prop} {vs : List Value} (D : ZA z TI TO its src) (st : ZSB b z TI TO its src i s.heap) (h0 : 0 < its.length) (h9 : its.length ≤ 100) (lv : vs.length = its.length)
    (hsrc : ∀ (k : Nat) (l : Addr) (v : Value), src[k]? = some l → vs[k]? = some v → ∃ arr : Array Value, SOk (b l) s.heap l arr ∧ arr[i]? = some v)
    (hQ : ∀ h', ZSB b z TI TO its src (i + 1) h' → tupN h' s.heap.objs.size vs → (∀ c o, c ≠ z → c ≠ TO → c ∉ its → s.heap.get? c = some o → h'.get? c = some o) → Q (.ref s.heap.objs.size) { s with heap := h' }) :
    wpAny (model prog w) A (Builtin.«zip.__next__» ⟨[.ref z], []⟩) (fun fin s' => ∃ v, fin = .done (.ret v) ∧ Q v s') E s := by
  obtain ⟨⟨f0, g0, ff, hz⟩, hTI, ⟨cur, lc, hTO⟩, hit⟩ := st
  obtain ⟨hp, g, d, tk, os⟩ := s
  show wpAny _ _ (field (.ref z) 2 >>= _) _ _ _
  refine wpAny_bind (wpAny_field hz rfl (x := .bool false) rfl ?_)
  show wpAny _ _ (field (.ref z) 3 >>= _) _ _ _
  refine wpAny_bind (wpAny_field hz rfl (x := .ref TI) rfl ?_)
  refine wpAny_bind (wpAny_seqItems hTI rfl ?_)
  have ne : ((its.map Value.ref).toArray.isEmpty) = false := by
    cases its with
    | nil => simp at h0
    | cons t r => rfl
  simp only [ne]
  show wpAny _ _ (Builtin.SmallTypes.ownedTupleIsFree (.ref z) >>= _) _ _ _
  refine wpAny_bind (free_or hz ff ?_ fun h1 s1 z1 => ?_)
  · simp only [if_true]
    refine wpAny_bind (wpAny_rule ?_)
    refine wpAny_bind (wpAny_field hz rfl (x := .ref TO) rfl ?_)
    refine wpAny_bind (wpAny_setField_rec hz (by simp) fun q0 hz0 hs0 => ?_)
    replace hz0 : IsZipG q0 z TI TO .ellipsis g0 := hz0
    replace hs0 : Heap.SameBut z hp q0 := hs0
    refine wpAny_bind (forIn_zipIdx _ _ (fun k s' => ∃ h' : Heap, s' = ⟨h', g, d, tk, os⟩ ∧ IsZipG h' z TI TO .ellipsis g0 ∧ tupN h' TO (vs.take k ++ cur.drop k) ∧ h'.objs.size = hp.objs.size ∧
        (∀ c o, c ≠ z → c ≠ TO → c ∉ its → hp.get? c = some o → h'.get? c = some o) ∧
        ∀ (j : Nat) (t l : Addr), its[j]? = some t → src[j]? = some l → SIt (b l) h' t l (if j < k then i + 1 else i)) _ _ 0 _ ?_ ?_ ?_)
    · refine ⟨q0, rfl, hz0, hs0.extBut _ _ D.TOz (by simpa using hTO), hs0.1, fun c o c1 _ _ e => hs0.extBut _ _ c1 e, fun j t l hj hl => ?_⟩
      rw [if_neg (Nat.not_lt_zero j)]
      exact (hit j t l hj hl).at fun o e => hs0.extBut _ _ (D.iz t (List.mem_of_getElem? hj)) e
    · rintro k x s1 hx ⟨h1, rfl, z1, to1, sz1, kp1, it1⟩
      rw [Nat.zero_add] at to1 it1 ⊢
      have hx2 : (its.map Value.ref)[k]? = some x := by simpa using hx
      rw [List.getElem?_map] at hx2
      obtain ⟨t, ht, rfl⟩ := Option.map_eq_some_iff.mp hx2
      have hk : k < its.length := (List.getElem?_eq_some_iff.mp ht).1
      have hks : k < src.length := by rw [← D.len]; exact hk
      have hkv : k < vs.length := by omega
      have hkc : k < cur.length := by omega
      have gl : src[k]? = some src[k] := List.getElem?_eq_getElem hks
      have gv : vs[k]? = some vs[k] := List.getElem?_eq_getElem hkv
      have mt : t ∈ its := List.mem_of_getElem? ht
      have ml : src[k] ∈ src := List.getElem_mem hks
      obtain ⟨arr, ha, hai⟩ := hsrc k _ _ gl gv
      have ha1 : SOk (b src[k]) h1 src[k] arr := ha.at fun o e => kp1 _ o (D.sz _ ml) (D.sTO _ ml) (fun hm => D.si _ ml _ hm rfl) e
      have i1 := it1 k t _ ht gl
      rw [if_neg (Nat.lt_irrefl k)] at i1
      refine wpAny_bind (wpAny_onRaise ?_)
      show wpAny _ _ (Builtin.SmallTypes.nextOf (.ref t) >>= _) _ _ ⟨h1, g, d, tk, os⟩
      refine wpAny_bind (nextB_item i1 ha1 hai fun h2 i2 s2 => wpAny_pure ?_)
      replace s2 : Heap.SameBut t h1 h2 := s2
      have to2 : tupN h2 TO (vs.take k ++ cur.drop k) := s2.extBut _ _ (D.iTO t mt).symm to1
      refine wpAny_bind (wpAny_seqItems (s := ⟨h2, g, d, tk, os⟩) to2 rfl ?_)
      have lcat : (vs.take k ++ cur.drop k).length = its.length := by rw [List.length_append, List.length_take, List.length_drop]; omega
      have zz : (vs.take k ++ cur.drop k).toArray.size ≤ sizeLine := by rw [List.size_toArray, lcat]; exact Nat.le_trans h9 (by decide)
      refine wpAny_bind (wpAny_updateSeq (s := ⟨h2, g, d, tk, os⟩) to2 rfl ?_ zz (by rw [Array.size_setIfInBounds]; omega))
      have s3 : Heap.SameBut TO h2 (h2.update TO (Obj.mapSeq fun x => x.setIfInBounds k vs[k])) := Heap.SameBut.update ..
      refine wpAny_bind (wpAny_letGo (wpAny_pure ⟨rfl, _, rfl, ?_, ?_, ?_, ?_, ?_⟩))
      · exact s3.extBut _ _ D.TOz.symm (s2.extBut _ _ (D.iz t mt).symm z1)
      · show (h2.update TO (Obj.mapSeq fun x => x.setIfInBounds k vs[k])).get? TO = _
        rw [Heap.get?_update_self _ to2 rfl]
        have e1 : (vs.take k ++ cur.drop k).set k vs[k] = vs.take (k + 1) ++ cur.drop (k + 1) := by
          rw [List.set_append_right _ _ (by rw [List.length_take]; omega), List.length_take, Nat.min_eq_left (by omega), Nat.sub_self, List.drop_eq_getElem_cons hkc, List.set_cons_zero, List.take_add_one, gv, Option.toList_some, List.append_assoc]
          rfl
        have e2 : (vs.take k ++ cur.drop k).toArray.setIfInBounds k vs[k] = (vs.take (k + 1) ++ cur.drop (k + 1)).toArray := by rw [List.setIfInBounds_toArray, e1]
        have e3 : ((vs.take (k + 1) ++ cur.drop (k + 1)).toArray.size == (vs.take k ++ cur.drop k).toArray.size) = true := by
          rw [beq_iff_eq, List.size_toArray, List.size_toArray, lcat, List.length_append, List.length_take, List.length_drop]
          omega
        simp only [Obj.mapSeq, e2, e3, if_true]
      · exact s3.1.trans (s2.1.trans sz1)
      · intro c o c1 c2 c3 e
        exact s3.extBut _ _ c2 (s2.extBut _ _ (fun q => c3 (q ▸ mt)) (kp1 c o c1 c2 c3 e))
      · intro j t' l hj hl
        have mt' : t' ∈ its := List.mem_of_getElem? hj
        by_cases hjk : j = k
        · subst hjk
          rw [ht] at hj
          rw [gl] at hl
          cases hj
          cases hl
          rw [if_pos (Nat.lt_succ_self j)]
          exact i2.at fun o e => s3.extBut _ _ (D.iTO t mt) e
        · have i3 := it1 j t' l hj hl
          have e3 : (if j < k then i + 1 else i) = (if j < k + 1 then i + 1 else i) := by
            by_cases hlt : j < k
            · rw [if_pos hlt, if_pos (by omega)]
            · rw [if_neg hlt, if_neg (by omega)]
          rw [e3] at i3
          have tne : t' ≠ t := fun q => by
            subst q
            have hj' := (List.getElem?_eq_some_iff.mp hj)
            have ht' := (List.getElem?_eq_some_iff.mp ht)
            obtain ⟨b1, q1⟩ := hj'
            obtain ⟨b2, q2⟩ := ht'
            exact hjk ((List.getElem_inj D.nd).mp (q1.trans q2.symm))
          exact i3.at fun o e => s3.extBut _ _ (D.iTO t' mt') (s2.extBut _ _ tne e)
    · rintro s1 ⟨h1, rfl, z1, to1, sz1, kp1, it1⟩
      rw [Nat.zero_add] at to1 it1
      have el : ((its.map Value.ref).toArray.toList).length = its.length := by simp
      rw [el] at to1 it1
      rw [← lv, List.take_length, lv, ← lc, List.drop_length, List.append_nil] at to1
      refine wpAny_bind (wpAny_seqItems (s := ⟨h1, g, d, tk, os⟩) to1 rfl ?_)
      refine wpAny_bind (wpAny_newTuple ?_ (by rw [List.toList_toArray, lv]; exact Nat.le_trans h9 (by decide)))
      show wpAny _ _ (Builtin.SmallTypes.ownedTupleHandOut (.ref z) (.ref h1.objs.size) >>= _) _ _ ⟨h1.push { cls := .type "tuple", data := .seq vs.toArray }, g, d, tk, os⟩
      refine wpAny_bind ?_
      unfold Builtin.SmallTypes.ownedTupleHandOut
      have zlt : z < h1.objs.size := Heap.lt_size z1
      have z6 : IsZipG (h1.push { cls := .type "tuple", data := .seq vs.toArray }) z TI TO .ellipsis g0 := Heap.get?_push_of_some _ z1
      refine wpAny_bind (wpAny_setField_rec z6 (by simp) fun h7 z7 s7 => ?_)
      replace z7 : IsZipG h7 z TI TO (rawInt h1.objs.size) g0 := z7
      refine wpAny_setField_rec z7 (by simp) fun h8 z8 s8 => ?_
      replace z8 : IsZipG h8 z TI TO (rawInt h1.objs.size) false := z8
      replace s7 : Heap.SameBut z (h1.push { cls := .type "tuple", data := .seq vs.toArray }) h7 := s7
      replace s8 : Heap.SameBut z h7 h8 := s8
      have up : ∀ c o, c ≠ z → h1.get? c = some o → h8.get? c = some o := fun c o c1 e => s8.extBut _ _ c1 (s7.extBut _ _ c1 (Heap.get?_push_of_some _ e))
      have nu : tupN h8 h1.objs.size vs := s8.extBut _ _ (Nat.ne_of_gt zlt) (s7.extBut _ _ (Nat.ne_of_gt zlt) (Heap.get?_push_size _ rfl))
      rw [sz1] at z8 nu
      refine wpAny_pure ⟨_, rfl, ?_⟩
      show Q (.ref h1.objs.size) ⟨h8, g, d, tk, os⟩
      rw [sz1]
      refine hQ h8 ⟨⟨rawInt hp.objs.size, false, (rfl : (0 : Nat) = 0), z8⟩, up _ _ D.TIz (kp1 _ _ D.TIz D.TITO (fun hm => D.iTI _ hm rfl) hTI), ⟨vs, lv, up _ _ D.TOz to1⟩, fun k t l hk hl => ?_⟩ nu fun c o c1 c2 c3 e => up c o c1 (kp1 c o c1 c2 c3 e)
      have := it1 k t l hk hl
      rw [if_pos (List.getElem?_eq_some_iff.mp hk).1] at this
      exact this.at fun o e => up _ o (D.iz t (List.mem_of_getElem? hk)) e
  · replace s1 : Heap.SameBut z hp h1 := s1
    simp only [Bool.false_eq_true, if_false]
    simp only [List.forIn_toArray]
    have far : ∀ c o, c ≠ z → hp.get? c = some o → h1.get? c = some o := fun c o c1 e => s1.extBut _ _ c1 e
    refine wpAny_bind (forIn_steps _ (fun k st s' => ∃ h' : Heap, s' = ⟨h', g, d, tk, os⟩ ∧ st = (none, (vs.take k).toArray) ∧ h'.objs.size = hp.objs.size ∧ (∀ c o, c ∉ its → h1.get? c = some o → h'.get? c = some o) ∧
        ∀ (j : Nat) (t l : Addr), its[j]? = some t → src[j]? = some l → SIt (b l) h' t l (if j < k then i + 1 else i)) _ (its.map Value.ref) 0 _ _ ?_ ?_ ?_)
    · refine ⟨h1, rfl, by simp, s1.1, fun c o _ e => e, fun j t l hj hl => ?_⟩
      rw [if_neg (Nat.not_lt_zero j)]
      exact (hit j t l hj hl).at fun o e => far _ o (D.iz t (List.mem_of_getElem? hj)) e
    · rintro k x st s2 hx ⟨h2, rfl, rfl, sz2, kp2, it2⟩
      rw [Nat.zero_add] at it2 ⊢
      rw [List.getElem?_map] at hx
      obtain ⟨t, ht, rfl⟩ := Option.map_eq_some_iff.mp hx
      have hk : k < its.length := (List.getElem?_eq_some_iff.mp ht).1
      have hks : k < src.length := by rw [← D.len]; exact hk
      have hkv : k < vs.length := by omega
      have gl : src[k]? = some src[k] := List.getElem?_eq_getElem hks
      have gv : vs[k]? = some vs[k] := List.getElem?_eq_getElem hkv
      have mt : t ∈ its := List.mem_of_getElem? ht
      have ml : src[k] ∈ src := List.getElem_mem hks
      obtain ⟨arr, ha, hai⟩ := hsrc k _ _ gl gv
      have ha2 : SOk (b src[k]) h2 src[k] arr := (ha.at fun o e => far _ o (D.sz _ ml) e).at fun o e => kp2 _ o (fun hm => D.si _ ml _ hm rfl) e
      have i2 := it2 k t _ ht gl
      rw [if_neg (Nat.lt_irrefl k)] at i2
      refine wpAny_bind (wpAny_holding ?_)
      show wpAny _ _ (Builtin.SmallTypes.nextOf (.ref t) >>= _) _ _ ⟨h2, g, d, tk, os⟩
      refine wpAny_bind (nextB_item i2 ha2 hai fun h3 i3 s3 => wpAny_pure ?_)
      replace s3 : Heap.SameBut t h2 h3 := s3
      refine wpAny_pure ⟨_, rfl, h3, rfl, ?_, s3.1.trans sz2, fun c o hc e => s3.extBut _ _ (fun q => hc (q ▸ mt)) (kp2 c o hc e), fun j t' l hj hl => ?_⟩
      · rw [List.take_add_one, gv]
        simp
      · by_cases hjk : j = k
        · subst hjk
          rw [ht] at hj
          rw [gl] at hl
          cases hj
          cases hl
          rw [if_pos (Nat.lt_succ_self j)]
          exact i3
        · have i4 := it2 j t' l hj hl
          have e3 : (if j < k then i + 1 else i) = (if j < k + 1 then i + 1 else i) := by
            by_cases hlt : j < k
            · rw [if_pos hlt, if_pos (by omega)]
            · rw [if_neg hlt, if_neg (by omega)]
          rw [e3] at i4
          have tne : t' ≠ t := fun q => by
            subst q
            obtain ⟨b1, q1⟩ := List.getElem?_eq_some_iff.mp hj
            obtain ⟨b2, q2⟩ := List.getElem?_eq_some_iff.mp ht
            exact hjk ((List.getElem_inj D.nd).mp (q1.trans q2.symm))
          exact i4.at fun o e => s3.extBut _ _ tne e
    · rintro st s2 ⟨h2, rfl, rfl, sz2, kp2, it2⟩
      rw [Nat.zero_add, List.length_map] at it2
      have ev : vs.take (0 + (its.map Value.ref).length) = vs := by
        rw [Nat.zero_add, List.length_map, ← lv, List.take_length]
      rw [ev]
      show wpAny _ _ (newTuple vs.toArray.toList >>= fun v => PySem.ret v) _ _ _
      refine wpAny_bind (wpAny_newTuple (wpAny_pure ⟨_, rfl, ?_⟩) (by rw [List.toList_toArray, lv]; exact Nat.le_trans h9 (by decide)))
      show Q (.ref h2.objs.size) ⟨h2.push { cls := .type "tuple", data := .seq vs.toArray.toList.toArray }, g, d, tk, os⟩
      rw [List.toList_toArray]
      have up : ∀ c o, c ∉ its → h1.get? c = some o → (h2.push { cls := .type "tuple", data := .seq vs.toArray }).get? c = some o := fun c o hc e => Heap.get?_push_of_some _ (kp2 c o hc e)
      have nu : tupN (h2.push { cls := .type "tuple", data := .seq vs.toArray }) h2.objs.size vs := Heap.get?_push_size _ rfl
      rw [sz2] at nu ⊢
      refine hQ _ ⟨⟨f0, true, ff, up _ _ (fun hm => D.iz _ hm rfl) z1⟩, up _ _ (fun hm => D.iTI _ hm rfl) (far _ _ D.TIz hTI), ⟨cur, lc, up _ _ (fun hm => D.iTO _ hm rfl) (far _ _ D.TOz hTO)⟩, fun k t l hk hl => ?_⟩ nu fun c o c1 c2 c3 e => up c o c3 (far c o c1 e)
      have := it2 k t l hk hl
      rw [if_pos (List.getElem?_eq_some_iff.mp hk).1] at this
      exact this.at fun o e => Heap.get?_push_of_some _ e
theorem zipB_stop {Q : Fin → Shared → Prop} (hh : A.handled = none) (D : ZA z TI TO its src) (st : ZSB b z TI TO its src i s.heap) (h0 : 0 < its.length)
    {l0 : Addr} {arr : Array Value} (hl : src[0]? = some l0) (ha : SOk (b l0) s.heap l0 arr) (hn : arr[i]? = none)
    (hE : ∀ h' e, (∀ c o, c ≠ z → c ≠ TO → c ∉ its → s.heap.get? c = some o → h'.get? c = some o) → (∃ o, h'.get? e = some o ∧ o.cls = .type "StopIteration") → E (.ref e) { s with heap := h' }) :
    wpAny (model prog w) A (Builtin.«zip.__next__» ⟨[.ref z], []⟩) Q E s := by
  obtain ⟨⟨f0, g0, ff, hz⟩, hTI, ⟨cur, lc, hTO⟩, hit⟩ := st
  obtain ⟨hp, g, d, tk, os⟩ := s
  cases its with
  | nil => simp at h0
  | cons t r =>
    have mt : t ∈ t :: r := List.mem_cons_self
    have ml : l0 ∈ src := List.mem_of_getElem? hl
    show wpAny _ _ (field (.ref z) 2 >>= _) _ _ _
    refine wpAny_bind (wpAny_field hz rfl (x := .bool false) rfl ?_)
    show wpAny _ _ (field (.ref z) 3 >>= _) _ _ _
    refine wpAny_bind (wpAny_field hz rfl (x := .ref TI) rfl ?_)
    refine wpAny_bind (wpAny_seqItems hTI rfl ?_)
    have ne : (((t :: r).map Value.ref).toArray.isEmpty) = false := rfl
    simp only [ne]
    show wpAny _ _ (Builtin.SmallTypes.ownedTupleIsFree (.ref z) >>= _) _ _ _
    refine wpAny_bind (free_or hz ff ?_ fun h1 s1 z1 => ?_)
    · simp only [if_true]
      refine wpAny_bind (wpAny_rule ?_)
      refine wpAny_bind (wpAny_field hz rfl (x := .ref TO) rfl ?_)
      refine wpAny_bind (wpAny_setField_rec hz (by simp) fun q0 hz0 hs0 => ?_)
      replace hz0 : IsZipG q0 z TI TO .ellipsis g0 := hz0
      replace hs0 : Heap.SameBut z hp q0 := hs0
      refine wpAny_bind ?_
      simp only [List.map_cons, List.zipIdx_cons, List.forIn_cons]
      refine wpAny_bind (wpAny_bind (wpAny_onRaise ?_))
      show wpAny _ _ (Builtin.SmallTypes.nextOf (.ref t) >>= _) _ _ ⟨q0, g, d, tk, os⟩
      refine wpAny_bind (nextB_end hh ((hit 0 t l0 rfl hl).at fun o e => hs0.extBut _ _ (D.iz t mt) e) (ha.at fun o e => hs0.extBut _ _ (D.sz l0 ml) e) hn fun h2 e s2 he => ?_)
      replace s2 : Heap.ExtBut t q0 h2 := s2
      obtain ⟨oe, hoe, hce⟩ := he
      replace hoe : h2.get? e = some oe := hoe
      have z2 : IsZipG h2 z TI TO .ellipsis g0 := s2 _ _ (D.iz t mt).symm hz0
      have ez : e ≠ z := fun x => by
        subst x
        rw [z2] at hoe
        cases hoe
        simp at hce
      refine wpAny_setField_rec (s := ⟨h2, g, d, tk, os⟩) z2 (by simp) fun h3 _ s3 => ?_
      replace s3 : Heap.SameBut z h2 h3 := s3
      exact hE h3 e (fun c o c1 c2 c3 x => s3.extBut _ _ c1 (s2 _ _ (fun q => c3 (q ▸ mt)) (hs0.extBut _ _ c1 x))) ⟨oe, s3.extBut _ _ ez hoe, hce⟩
    · replace s1 : Heap.SameBut z hp h1 := s1
      simp only [Bool.false_eq_true, if_false]
      simp only [List.forIn_toArray, List.map_cons, List.forIn_cons]
      refine wpAny_bind (wpAny_bind (wpAny_bind (wpAny_holding ?_)))
      show wpAny _ _ (Builtin.SmallTypes.nextOf (.ref t) >>= _) _ _ ⟨h1, g, d, tk, os⟩
      refine wpAny_bind (nextB_end hh ((hit 0 t l0 rfl hl).at fun o e => s1.extBut _ _ (D.iz t mt) e) (ha.at fun o e => s1.extBut _ _ (D.sz l0 ml) e) hn fun h2 e s2 he => ?_)
      replace s2 : Heap.ExtBut t h1 h2 := s2
      exact hE h2 e (fun c o c1 c2 c3 x => s2 _ _ (fun q => c3 (q ▸ mt)) (s1.extBut _ _ c1 x)) he
theorem pyNextB {Q : Option Value → Shared → Prop} {vs : List Value} (D : ZA z TI TO its src) (st : ZSB b z TI TO its src i s.heap) (h0 : 0 < its.length) (h9 : its.length ≤ 100) (lv : vs.length = its.length)
    (hsrc : ∀ (k : Nat) (l : Addr) (v : Value), src[k]? = some l → vs[k]? = some v → ∃ arr : Array Value, SOk (b l) s.heap l arr ∧ arr[i]? = some v)
    (hQ : ∀ h', ZSB b z TI TO its src (i + 1) h' → tupN h' s.heap.objs.size vs → (∀ c o, c ≠ z → c ≠ TO → c ∉ its → s.heap.get? c = some o → h'.get? c = some o) → Q (some (.ref s.heap.objs.size)) { s with heap := h' }) :
    wpAny (model prog w) A (pyNext (.ref z)) Q E s := by
  have hT : s.TypeIs (.ref z) "zip" := by obtain ⟨f, g, _, e⟩ := st.1; exact ⟨_, e, rfl⟩
  unfold pyNext
  refine wpAny_bind (wpAny_attempt (wpAny_callSpecial?_slot (name := Str.ofString "__next__") hT F.slot_zip_next (wpAny_call_entry F.slot_zip_next hT F.entry_zip_next ?_ (F.args_zip_next_1 _))))
  exact zipB_next D st h0 h9 lv hsrc fun h' a1 a2 a3 => wpAny_pure (hQ h' a1 a2 a3)
theorem pyNextB_end {Q : Option Value → Shared → Prop} (hh : A.handled = none) (D : ZA z TI TO its src) (st : ZSB b z TI TO its src i s.heap) (h0 : 0 < its.length)
    {l0 : Addr} {arr : Array Value} (hl : src[0]? = some l0) (ha : SOk (b l0) s.heap l0 arr) (hn : arr[i]? = none)
    (hQ : ∀ h', (∀ c o, c ≠ z → c ≠ TO → c ∉ its → s.heap.get? c = some o → h'.get? c = some o) → Q none { s with heap := h' }) : wpAny (model prog w) A (pyNext (.ref z)) Q E s := by
  have hT : s.TypeIs (.ref z) "zip" := by obtain ⟨f, g, _, e⟩ := st.1; exact ⟨_, e, rfl⟩
  unfold pyNext
  refine wpAny_bind (wpAny_attempt (wpAny_callSpecial?_slot (name := Str.ofString "__next__") hT F.slot_zip_next (wpAny_call_entry F.slot_zip_next hT F.entry_zip_next ?_ (F.args_zip_next_1 _))))
  refine zipB_stop (by exact hh) D st h0 hl ha hn fun h' e hk ⟨o, ho, hc⟩ => ?_
  exact wpAny_bind (wpAny_isInstance (T := "StopIteration") (b := true) ⟨o, ho, hc⟩ isSubtype_stop (wpAny_pure (hQ _ hk)))
end
/-! ### zip begins -/
def pushIts (b : Addr → Bool) (h : Heap) (src : List Addr) : Heap := src.foldl (fun g l => g.push (itB (b l) l)) h
theorem push_len {b : Addr → Bool} : ∀ (src : List Addr) (h : Heap), (pushIts b h src).objs.size = h.objs.size + src.length
  | [], h => rfl
  | l :: r, h => by
    show (pushIts b (h.push (itB (b l) l)) r).objs.size = _
    rw [push_len r, Heap.size_push, List.length_cons]
    omega
theorem push_old {b : Addr → Bool} : ∀ (src : List Addr) (h : Heap) (c : Addr) (o : Obj), h.get? c = some o → (pushIts b h src).get? c = some o
  | [], h, c, o, e => e
  | l :: r, h, c, o, e => push_old r _ c o (Heap.get?_push_of_some _ e)
theorem push_at {b : Addr → Bool} : ∀ (src : List Addr) (h : Heap) (k : Nat) (l : Addr), src[k]? = some l → (pushIts b h src).get? (h.objs.size + k) = some (itB (b l) l)
  | [], h, k, l, e => by simp at e
  | l0 :: r, h, 0, l, e => by
    cases e
    exact push_old r _ _ _ (Heap.get?_push_size _ rfl)
  | l0 :: r, h, k + 1, l, e => by
    have := push_at (b := b) r (h.push (itB (b l0) l0)) k l (by simpa using e)
    rw [Heap.size_push] at this
    have e2 : h.objs.size + 1 + k = h.objs.size + (k + 1) := by omega
    rw [e2] at this
    exact this
def itsAt (n m : Nat) : List Addr := (List.range m).map fun k => n + k
theorem itsAt_get {n m k : Nat} (h : k < m) : (itsAt n m)[k]? = some (n + k) := by
  unfold itsAt
  rw [List.getElem?_map, List.getElem?_range h]
  rfl
theorem itsAt_len (n m : Nat) : (itsAt n m).length = m := by unfold itsAt; rw [List.length_map, List.length_range]
section
variable {prog : Program} {w : World} {A : Around} {E : Value → Shared → Prop} {s : Shared} {b : Addr → Bool}
theorem iterB {b : Bool} {l : Addr} {arr : Array Value} {Q : Value → Shared → Prop} (h : SOk b s.heap l arr) (q : Q (.ref s.heap.objs.size) { s with heap := s.heap.push (itB b l) }) : wpAny (model prog w) A (pyIter (.ref l)) Q E s := by
  cases b
  · exact wpAny_pyIter_list h q
  · exact wpAny_pyIter_tuple h q
theorem iterAllB {src : List Addr} {Q : List Value → Shared → Prop} (h : ∀ l ∈ src, ∃ arr, SOk (b l) s.heap l arr) (q : Q ((itsAt s.heap.objs.size src.length).map Value.ref) { s with heap := pushIts b s.heap src }) :
    wpAny (model prog w) A (Builtin.SmallTypes.iterAll (src.map Value.ref)) Q E s := by
  unfold Builtin.SmallTypes.iterAll
  refine wpAny_bind (forIn_steps _ (fun k st s' => st = ((itsAt s.heap.objs.size k).map Value.ref).toArray ∧ s' = { s with heap := pushIts b s.heap (src.take k) }) _ (src.map Value.ref) 0 _ _ ⟨rfl, rfl⟩ ?_ ?_)
  · rintro k x st s2 hx ⟨rfl, rfl⟩
    rw [Nat.zero_add] at *
    rw [List.getElem?_map] at hx
    obtain ⟨l, hl, rfl⟩ := Option.map_eq_some_iff.mp hx
    obtain ⟨arr, ha⟩ := h l (List.mem_of_getElem? hl)
    have hk : k < src.length := (List.getElem?_eq_some_iff.mp hl).1
    refine wpAny_bind (wpAny_holding (iterB (ha.at fun o e => push_old _ _ _ _ e) (wpAny_pure ⟨_, rfl, ?_, ?_⟩)))
    · show (((itsAt s.heap.objs.size k).map Value.ref).toArray.push (.ref (pushIts b s.heap (src.take k)).objs.size)) = _
      rw [push_len, List.length_take, Nat.min_eq_left (Nat.le_of_lt hk)]
      unfold itsAt
      rw [List.range_succ]
      simp
    · have e1 : src.take (k + 1) = src.take k ++ [l] := by rw [List.take_add_one, hl]; rfl
      rw [e1]
      unfold pushIts
      rw [List.foldl_append]
      rfl
  · rintro st s2 ⟨rfl, rfl⟩
    rw [Nat.zero_add, List.length_map, List.take_length]
    refine wpAny_pure ?_
    simpa using q
end
abbrev zbA (b : Addr → Bool) (h : Heap) (src : List Addr) : Heap := (pushIts b h src).push { cls := .type "tuple", data := .seq ((itsAt h.objs.size src.length).map Value.ref).toArray }
abbrev zbB (b : Addr → Bool) (h : Heap) (src : List Addr) : Heap := (zbA b h src).push { cls := .type "tuple", data := .seq (((itsAt h.objs.size src.length).map Value.ref).map fun _ => Value.none).toArray }
abbrev zbC (b : Addr → Bool) (h : Heap) (src : List Addr) : Heap := (zbB b h src).push { cls := .type "zip", data := .fields #[.none, .bool false, .bool false, .ref (pushIts b h src).objs.size, .ref (zbA b h src).objs.size] }
theorem meets_zipB (b : Addr → Bool) (src : List Addr) (h6 : src.length ≤ 100) :
    Meets (Builtin.«zip.__new__» ⟨.type "zip" :: src.map Value.ref, []⟩) (fun _ R s => (∀ l ∈ src, ∃ arr, SOk (b l) s.heap l arr) ∧ R (.ok (.ret (.ref (zbB b s.heap src).objs.size))) { s with heap := zbC b s.heap src }) :=
  .of_wp fun prog w A R s h => by
    obtain ⟨hp, g, d, tk, os⟩ := s
    obtain ⟨hs, h⟩ := h
    have hsub := sub_zip
    have hI := fun (Q : List Value → Shared → Prop) (E : Value → Shared → Prop) (A : Around) => @iterAllB prog w A E ⟨hp, g, d, tk, os⟩ b src Q hs
    unfold Builtin.«zip.__new__»
    generalize Builtin.SmallTypes.iterAll = IA at hI ⊢
    wp_walk
    have sz : (itsAt hp.objs.size src.length).length ≤ sizeLine := by rw [itsAt_len]; exact Nat.le_trans h6 (by decide)
    refine hI _ _ _ ?_
    refine wpAny_bind (wpAny_newTuple ?_ (by rw [List.length_map]; exact sz))
    refine wpAny_bind (wpAny_newTuple ?_ (by rw [List.length_map, List.length_map]; exact sz))
    refine wpAny_bind ?_
    unfold Builtin.SmallTypes.newRecord
    exact wpAny_newObj_type (wpAny_pure ⟨_, rfl, h⟩) (show (5 : Nat) ≤ sizeLine + 2 by decide)
theorem tc_zipN : ∀ us : List Value, 1 ≤ us.length → us.length ≤ 6 → checkTypeCall "zip" ⟨us, []⟩ = pure () ∧ checkBuiltinCall "zip.__new__" ⟨.type "zip" :: us, []⟩ = pure () ∧ ∀ o, argsOk "object.__init__" ⟨o :: us, []⟩
  | [], h, _ => by simp at h
  | [a], _, _ => ⟨by kernel_rfl, by kernel_rfl, fun o => by unfold argsOk; kernel_rfl⟩
  | [a, b], _, _ => ⟨by kernel_rfl, by kernel_rfl, fun o => by unfold argsOk; kernel_rfl⟩
  | [a, b, c], _, _ => ⟨by kernel_rfl, by kernel_rfl, fun o => by unfold argsOk; kernel_rfl⟩
  | [a, b, c, d], _, _ => ⟨by kernel_rfl, by kernel_rfl, fun o => by unfold argsOk; kernel_rfl⟩
  | [a, b, c, d, e], _, _ => ⟨by kernel_rfl, by kernel_rfl, fun o => by unfold argsOk; kernel_rfl⟩
  | [a, b, c, d, e, f], _, _ => ⟨by kernel_rfl, by kernel_rfl, fun o => by unfold argsOk; kernel_rfl⟩
  | a :: b :: c :: d :: e :: f :: g :: r, _, h => by simp at h
section
variable {prog : Program} {w : World} {A : Around} {E : Value → Shared → Prop} {s : Shared} {b : Addr → Bool}
theorem call_zipB {src : List Addr} {Q : Value → Shared → Prop} (h1 : 1 ≤ src.length) (h6 : src.length ≤ 6) (hs : ∀ l ∈ src, ∃ arr, SOk (b l) s.heap l arr)
    (h : ∀ h', ZSB b (s.heap.objs.size + src.length + 2) (s.heap.objs.size + src.length) (s.heap.objs.size + src.length + 1) (itsAt s.heap.objs.size src.length) src 0 h' →
      (∀ c o, s.heap.get? c = some o → h'.get? c = some o) → Q (.ref (s.heap.objs.size + src.length + 2)) { s with heap := h' }) :
    wpAny (model prog w) A (call (.type "zip") (src.map Value.ref)) Q E s := by
  obtain ⟨t1, t2, t3⟩ := tc_zipN (src.map Value.ref) (by rw [List.length_map]; exact h1) (by rw [List.length_map]; exact h6)
  refine callType_new F.called_zip (by decide) t1 t2 t3 F.entry_zip_new (meets_zipB b src (by omega)) ⟨hs, ?_⟩
  have n1 : (pushIts b s.heap src).objs.size = s.heap.objs.size + src.length := push_len _ _
  have n2 : (zbA b s.heap src).objs.size = s.heap.objs.size + src.length + 1 := by rw [Heap.size_push, n1]
  have n3 : (zbB b s.heap src).objs.size = s.heap.objs.size + src.length + 2 := by rw [Heap.size_push, n2]
  have up1 : ∀ {hh : Heap} {o : Obj} {c : Addr} {x : Obj}, hh.get? c = some x → (hh.push o).get? c = some x := fun e => Heap.get?_push_of_some _ e
  have g3 : (zbC b s.heap src).get? (zbB b s.heap src).objs.size = some { cls := .type "zip", data := .fields #[.none, .bool false, .bool false, .ref (pushIts b s.heap src).objs.size, .ref (zbA b s.heap src).objs.size] } := Heap.get?_push_size _ rfl
  have g2 : (zbC b s.heap src).get? (zbA b s.heap src).objs.size = some { cls := .type "tuple", data := .seq (((itsAt s.heap.objs.size src.length).map Value.ref).map fun _ => Value.none).toArray } := up1 (Heap.get?_push_size _ rfl)
  have g1 : (zbC b s.heap src).get? (pushIts b s.heap src).objs.size = some { cls := .type "tuple", data := .seq ((itsAt s.heap.objs.size src.length).map Value.ref).toArray } := up1 (up1 (Heap.get?_push_size _ rfl))
  rw [n3, n2, n1] at g3
  rw [n2] at g2
  rw [n1] at g1
  show _ ∧ _
  rw [n3]
  refine ⟨⟨_, g3, rfl⟩, h _ ⟨⟨.none, false, trivial, g3⟩, g1, ⟨_, by rw [List.length_map, List.length_map], g2⟩, fun k t l hk hl => ?_⟩ fun c o e => up1 (up1 (up1 (push_old _ _ _ _ e)))⟩
  have hk2 : k < src.length := (List.getElem?_eq_some_iff.mp hl).1
  rw [itsAt_get hk2] at hk
  have ek := Option.some.inj hk
  subst ek
  have e := up1 (o := { cls := .type "zip", data := .fields #[.none, .bool false, .bool false, .ref (pushIts b s.heap src).objs.size, .ref (zbA b s.heap src).objs.size] }) (up1 (o := { cls := .type "tuple", data := .seq (((itsAt s.heap.objs.size src.length).map Value.ref).map fun _ => Value.none).toArray }) (up1 (o := { cls := .type "tuple", data := .seq ((itsAt s.heap.objs.size src.length).map Value.ref).toArray }) (push_at (b := b) src s.heap k l hl)))
  show SIt (b l) _ _ l 0
  revert e
  cases b l
  · exact fun e => ⟨_, e, rfl, rfl⟩
  · exact fun e => ⟨_, e, rfl, rfl⟩
theorem apartB {N : Nat} {src : List Nat} (h : ∀ l : Nat, l ∈ src → l < N) : ZA (N + src.length + 2) (N + src.length) (N + src.length + 1) (itsAt N src.length) src := by
  have hi : ∀ t : Nat, t ∈ itsAt N src.length → N ≤ t ∧ t < N + src.length := fun t ht => by
    unfold itsAt at ht
    obtain ⟨k, hk, e⟩ := List.mem_map.mp ht
    have := List.mem_range.mp hk
    have e2 : N + k = t := e
    omega
  have q1 : ∀ t : Nat, t ∈ itsAt N src.length → t ≠ N + src.length + 2 := fun t ht => by have := hi t ht; omega
  have q2 : ∀ t : Nat, t ∈ itsAt N src.length → t ≠ N + src.length := fun t ht => by have := hi t ht; omega
  have q3 : ∀ t : Nat, t ∈ itsAt N src.length → t ≠ N + src.length + 1 := fun t ht => by have := hi t ht; omega
  have q4 : ∀ l : Nat, l ∈ src → l ≠ N + src.length + 2 := fun l hl => by have := h l hl; omega
  have q5 : ∀ l : Nat, l ∈ src → l ≠ N + src.length + 1 := fun l hl => by have := h l hl; omega
  have q6 : ∀ l : Nat, l ∈ src → ∀ t : Nat, t ∈ itsAt N src.length → l ≠ t := fun l hl t ht => by have := h l hl; have := hi t ht; omega
  refine ⟨nne (by omega), nne (by omega), nne (by omega), q1, q2, q3, ?_, q4, q5, q6, itsAt_len _ _⟩
  have : ((List.range src.length).map fun k => N + k).Nodup := by
    rw [List.nodup_iff_pairwise_ne, List.pairwise_map]
    exact (List.nodup_iff_pairwise_ne.mp List.nodup_range).imp fun {a b} hab e => hab (by omega)
  exact this
end
/-! ### over the layer -/
def SqB (K : PySem.W.Frag) (b : Bool) (H : Hp) (l : Addr) (xs : List V) : Prop := if b = true then SqT K H l xs else SqL K H l xs
theorem SqB.get {X : Cx} {pins : List (Addr × Obj)} {σ : L2.St} {H : Hp} {s : Shared} {b : Bool} {l : Addr} {xs : List V} (I : Inv X pins σ H s) (h : SqB X.K b H l xs) : ∃ us : List Value, Vals xs us ∧ SOk b s.heap l us.toArray ∧ ∃ o, s.heap.get? l = some o := by
  cases b
  · obtain ⟨its, rv, p, _⟩ := I.list h
    obtain ⟨o, n, e, r⟩ := id p
    exact ⟨its, rv, p.isList, o, e⟩
  · obtain ⟨its, rv, p, _⟩ := I.tuple h
    obtain ⟨o, e, r⟩ := id p
    exact ⟨its, rv, p, o, e⟩
theorem SqB.inj {X : Cx} {pins : List (Addr × Obj)} {σ : L2.St} {H : Hp} {s : Shared} {b : Bool} {l : Addr} {xs ys : List V} (I : Inv X pins σ H s) (h : SqB X.K b H l xs) (h' : SqB X.K b H l ys) : xs = ys := by
  cases b
  · exact I.list_inj h h'
  · exact I.tuple_inj h h'
def ItzB (K : PySem.W.Frag) (b : Addr → Bool) (src : List Addr) : It :=
  ⟨fun i H => ∃ xss : List (List V), xss.length = src.length ∧ ∀ (k : Nat) (l : Addr) (xs : List V), src[k]? = some l → xss[k]? = some xs → SqB K (b l) H l xs ∧ i < xs.length,
    fun i H v H' => ∃ (T : Addr) (ys : List V) (ob : Obj), v = .ref T ∧ H T = none ∧ PlainT ob ∧ H' = upd H T (.frz ob (.tup ys)) ∧ ys.length = src.length ∧ ∀ (k : Nat) (l : Addr) (xs : List V), src[k]? = some l → SqB K (b l) H l xs → xs[i]? = ys[k]?,
    fun i H => ∃ (l0 : Addr) (xs : List V), src[0]? = some l0 ∧ SqB K (b l0) H l0 xs ∧ i = xs.length⟩
theorem itemsB {X : Cx} {pins : List (Addr × Obj)} {σ : L2.St} {H : Hp} {s : Shared} {i : Nat} {b : Addr → Bool} (I : Inv X pins σ H s) : ∀ (src : List Addr) (xss : List (List V)), xss.length = src.length →
    (∀ (k : Nat) (l : Addr) (xs : List V), src[k]? = some l → xss[k]? = some xs → SqB X.K (b l) H l xs ∧ i < xs.length) →
    ∃ (ys : List V) (vs : List Value), ys.length = src.length ∧ Vals ys vs ∧ (∀ (k : Nat) (l : Addr) (v : Value), src[k]? = some l → vs[k]? = some v → ∃ arr : Array Value, SOk (b l) s.heap l arr ∧ arr[i]? = some v) ∧
      ∀ (k : Nat) (l : Addr) (xs : List V), src[k]? = some l → xss[k]? = some xs → xs[i]? = ys[k]?
  | [], [], _, _ => ⟨[], [], rfl, .nil, fun k l v hk => by simp at hk, fun k l xs hk => by simp at hk⟩
  | [], _ :: _, h, _ => by simp at h
  | _ :: _, [], h, _ => by simp at h
  | l0 :: src, x0 :: xss, hl, h => by
    obtain ⟨ys, vs, e1, e2, e3, e4⟩ := itemsB I src xss (by simpa using hl) fun k l xs hk hx => h (k + 1) l xs (by simpa using hk) (by simpa using hx)
    obtain ⟨q, hi⟩ := h 0 l0 x0 rfl rfl
    obtain ⟨its, rv, p, _⟩ := SqB.get I q
    have gx : x0[i]? = some x0[i] := List.getElem?_eq_getElem hi
    obtain ⟨u, hu, ru⟩ := rv.get gx
    refine ⟨x0[i] :: ys, u :: vs, by simp [e1], .cons ru e2, fun k l v hk hv => ?_, fun k l xs hk hx => ?_⟩
    · cases k with
      | zero => cases hk; cases hv; exact ⟨_, p, by simpa using hu⟩
      | succ k => exact e3 k l v (by simpa using hk) (by simpa using hv)
    · cases k with
      | zero => cases hk; cases hx; exact gx
      | succ k => exact e4 k l xs (by simpa using hk) (by simpa using hx)
theorem iterZ {prog : Program} {w : World} {A : Around} {E : Value → Shared → Prop} {s : Shared} {z : Addr} {Q : Value → Shared → Prop} (hT : s.TypeIs (.ref z) "zip") (h : Q (.ref z) s) : wpAny (model prog w) A (pyIter (.ref z)) Q E s := by
  refine wpAny_pyIter_slot hT F.slot_zip_iter ?_
  refine wpAny_call_entry F.slot_zip_iter hT F.entry_zip_iter ?_ (F.args_zip_iter_1 _)
  exact wpAny_pure ⟨_, rfl, "zip", _, hT, F.slot_zip_next.lookup, h⟩
theorem turn_zipB {P : Program} {w : World} {K : PySem.W.Frag} {x : Str} {px : Pos} {b : Addr → Bool} {z TI TO : Addr} {its src : List Addr} (D : ZA z TI TO its src) (h0 : 0 < its.length) (h9 : its.length ≤ 100) :
    Turn P w K (.Name x px) (ItzB K b src) (z :: TI :: TO :: its) z (ZSB b z TI TO its src) where
  mem := List.mem_cons_self
  obj := fun i h st c hc => by
    obtain ⟨⟨f, g, _, hz⟩, hTI, ⟨cur, lc, hTO⟩, hit⟩ := st
    rcases List.mem_cons.mp hc with rfl | hc
    · exact ⟨_, hz, fun _ q => nomatch q⟩
    rcases List.mem_cons.mp hc with rfl | hc
    · exact ⟨_, hTI, fun _ q => nomatch q⟩
    rcases List.mem_cons.mp hc with rfl | hc
    · exact ⟨_, hTO, fun _ q => nomatch q⟩
    obtain ⟨k, hk⟩ := List.mem_iff_getElem?.mp hc
    have hlt : k < src.length := by rw [← D.len]; exact (List.getElem?_eq_some_iff.mp hk).1
    exact (hit k c _ hk (List.getElem?_eq_getElem hlt)).obj
  keep := fun i h h' st k => by
    obtain ⟨⟨f, g, ff, hz⟩, hTI, ⟨cur, lc, hTO⟩, hit⟩ := st
    refine ⟨⟨f, g, ff, k z (by simp) _ hz⟩, k TI (by simp) _ hTI, ⟨cur, lc, k TO (by simp) _ hTO⟩, fun j t l hj hl => ?_⟩
    have mt : t ∈ z :: TI :: TO :: its := by simp [List.mem_of_getElem? hj]
    exact (hit j t l hj hl).at (k t mt)
  item := by
    intro X hP hw hK hc i pins s σ H E I hf st hg
    subst hP hw hK
    obtain ⟨xss, lx, hx⟩ := hg
    obtain ⟨ys, vs, l1, rv, hs, hy⟩ := itemsB I src xss lx hx
    have lv : vs.length = its.length := by rw [← rv.length, l1, D.len]
    obtain ⟨⟨f, g, ff, hz⟩, hTI, ⟨cur, lc, hTO⟩, hit⟩ := id st
    have hzl : z < s.heap.objs.size := Heap.lt_size hz
    refine pyNextB D st h0 h9 lv hs fun h' st' hT hk => ?_
    refine ⟨_, rfl, wpAny_pure ?_⟩
    have new : ObjOk X.prog X.w (upd H s.heap.objs.size (.frz { cls := .type "tuple", data := .seq vs.toArray } (.tup ys))) h' s.heap.objs.size (.frz { cls := .type "tuple", data := .seq vs.toArray } (.tup ys)) :=
      ⟨hT, by rw [l1, ← D.len]; exact Nat.le_trans h9 (by decide), vs, rv, ⟨_, hT, rfl, _, rfl⟩⟩
    have far : ∀ c o, c ∉ z :: TI :: TO :: its → s.heap.get? c = some o → h'.get? c = some o := fun c o hb q => by
      simp only [List.mem_cons, not_or] at hb
      exact hk c o hb.1 hb.2.2.1 hb.2.2.2 q
    have I1 := I.turnedNew (t' := s.toks) (ch := z :: TI :: TO :: its) far hf (Nat.le_refl _) new
    refine ⟨.ref s.heap.objs.size, _, I1, rfl, ⟨_, ys, _, rfl, I.hok.fresh (Nat.le_refl _), ⟨rfl, rfl⟩, rfl, l1, fun k l xs hk hq => ?_⟩, st', fun c hcm => ?_⟩
    · have hkl : k < xss.length := by rw [lx]; exact (List.getElem?_eq_some_iff.mp hk).1
      have gx : xss[k]? = some xss[k] := List.getElem?_eq_getElem hkl
      rw [SqB.inj I hq (hx k l _ hk gx).1]
      exact hy k l _ hk gx
    · have hlt : c < s.heap.objs.size := by
        rcases List.mem_cons.mp hcm with rfl | hc1
        · exact hzl
        rcases List.mem_cons.mp hc1 with rfl | hc1
        · exact Heap.lt_size hTI
        rcases List.mem_cons.mp hc1 with rfl | hc1
        · exact Heap.lt_size hTO
        obtain ⟨k, hk⟩ := List.mem_iff_getElem?.mp hc1
        have hks : k < src.length := by rw [← D.len]; exact (List.getElem?_eq_some_iff.mp hk).1
        obtain ⟨o, e, _⟩ := (hit k c _ hk (List.getElem?_eq_getElem hks)).obj
        exact Heap.lt_size e
      rw [upd_ne (Nat.ne_of_lt hlt)]
      exact (hf c hcm).1
  done := by
    intro X hP hw hK hc i pins s σ H E I hf st hg
    subst hP hw hK
    obtain ⟨l0, xs, hl, q, hi⟩ := hg
    obtain ⟨its2, rv, p, _⟩ := SqB.get I q
    have lx := rv.length
    refine pyNextB_end (I.ok.hd hc) D st h0 hl p (by simp; omega) fun h' hk => ⟨rfl, I.turnedL (t' := s.toks) (ch := z :: TI :: TO :: its) (fun c o hb q => ?_) hf⟩
    simp only [List.mem_cons, not_or] at hb
    exact hk c o hb.1 hb.2.2.1 hb.2.2.2 q
  self := fun A i s Q E st h => by
    obtain ⟨f, g, _, hz⟩ := st.1
    exact iterZ ⟨_, hz, rfl⟩ h
/-- a type called with a star -/
theorem callWith_typeS {M : Model} {A : Around} {E : Value → Shared → Prop} {s : Shared} {pos : Pos} {T : String} {first : List Value} {args : List (Bool × Sem Value)} {Q : Value → Shared → Prop} (hst : args.any (·.1) = true)
    (h : wpAny M A (evalArgs (.type T) true args []) (fun a s1 => wpAny M A (call (.type T) (first ++ a.pos) a.kw) Q E s1) E s) : wpAny M A (callWith pos (.type T) first args []) Q E s := by
  unfold callWith
  refine wpAny_bind (wpAny_holding (wpAny_mono h (fun a s1 h1 => wpAny_bind (wpAny_standAt ?_)) fun _ _ x => x))
  simp only [hst, Bool.true_or]
  refine wpAny_bind (wpAny_pure ?_)
  refine wpAny_bind (wpAny_mono (?_ : wpAny M A _ (fun r s2 => Q r s2) E s1) (fun r s2 hr => wpAny_bind (wpAny_holding (wpAny_point (wpAny_pure hr)))) fun _ _ x => x)
  first
    | exact h1
    | exact wpAny_operating h1
def iZipS (K : PySem.W.Frag) (te : TE) : TI := fun σ H R => te σ H fun v H1 => ∃ (l : Addr) (src : List Addr) (b : Addr → Bool), v = .ref l ∧ SqL K H1 l (src.map V.ref) ∧ 1 ≤ src.length ∧ src.length ≤ 6 ∧ (∀ c ∈ src, ∃ xs, SqB K (b c) H1 c xs) ∧ R (ItzB K b src) H1
theorem vals_refs : ∀ {src : List Addr} {us : List Value}, Vals (src.map V.ref) us → us = src.map Value.ref
  | [], _, .nil => rfl
  | a :: r, _, .cons h t => by
    cases h
    rw [vals_refs t]
    rfl
theorem pi_zipS {X : Cx} {e : Expr} {te : TE} {p pos px sp : Pos} {x : Str} (hg : Gl X "zip") (hm : X.mg "zip" = none) (he : PE X e te) (hst : starEach [.Starred e sp] X.env = [(true, eval e X.env)] := by rfl) :
    PI X (.Name x px) (.Call (.Name "zip" p) [.Starred e sp] [] pos) (iZipS X.K te) := by
  refine ⟨fun pins s σ H R I h => Call_ (ld_blt I hg hm PyProof.Rows.boot_zip ?_)⟩
  rw [hst]
  refine callWith_typeS rfl (PySem.W.ks_lone (thn (he.run pins s σ H _ I h) fun v s1 ⟨y, H1, I1, ry, l, src, b, ey, hl, h1, h6, hs, q⟩ => ?_))
  subst ey
  cases ry
  refine StX.star_any I1 (.inr hl) fun us s2 I2 rv => ?_
  rw [vals_refs rv]
  have hs2 : ∀ c ∈ src, ∃ arr, SOk (b c) s2.heap c arr := fun c hc => by
    obtain ⟨xs, hx⟩ := hs c hc
    obtain ⟨us, _, p, _⟩ := SqB.get I2 hx
    exact ⟨_, p⟩
  have hlt : ∀ c : Nat, c ∈ src → c < s2.heap.objs.size := fun c hc => by
    obtain ⟨xs, hx⟩ := hs c hc
    obtain ⟨us, _, _, o, ho⟩ := SqB.get I2 hx
    exact Heap.lt_size ho
  refine call_zipB (b := b) h1 h6 hs2 fun h' st hk => iterZ (by obtain ⟨f, g, _, e⟩ := st.1; exact ⟨_, e, rfl⟩) ?_
  refine ⟨_, _, _, _, H1, rfl, I2.kept (t' := s2.toks) hk, turn_zipB (apartB hlt) (by rw [itsAt_len]; omega) (by rw [itsAt_len]; omega), st, fun c hcm => ?_, q⟩
  have hle : s2.heap.objs.size ≤ c := by
    have big : ∀ c : Nat, c ∈ (s2.heap.objs.size + src.length + 2) :: (s2.heap.objs.size + src.length) :: (s2.heap.objs.size + src.length + 1) :: itsAt s2.heap.objs.size src.length → s2.heap.objs.size ≤ c := fun c hc => by
      simp only [List.mem_cons] at hc
      rcases hc with e | e | e | hc
      · omega
      · omega
      · omega
      · unfold itsAt at hc
        obtain ⟨k, _, e⟩ := List.mem_map.mp hc
        have e2 : s2.heap.objs.size + k = c := e
        omega
    exact big c hcm
  exact I2.fpOk hle (I2.hok.fresh hle)
end RL
namespace MP
open PySem PySem.Spec PyProof.Rows L2 RL

/-! ### first, *others = a tuple -/
def sHead (i j : Nat) (f : DE) : DS := fun ρ so => (f ρ so).bind fun p => match p.1 with
  | .tuple (x :: r) => if r.length ≤ LIM then some (.nx ((ρ.set i (some (.d x))).set j (some (.d (.list r)))), p.2) else none
  | _ => none
section
variable {K : PySem.W.Frag} {p : Nat} {W : Str → Hp → Prop}
theorem tOf_head {i j : Nat} {f : DE} (D : Ends) (σ : L2.St) (H : Hp) (h : tOfS K p W (sHead i j f) D σ H) : tAsg (tOf K f) (gHead K (gName i) (gName j)) D σ H := by
  obtain ⟨F, ow, ρ, so, fl, so', r0, rs, e, k⟩ := h
  obtain ⟨⟨d, so1⟩, e1, e2⟩ := Option.bind_eq_some_iff.mp e
  refine ⟨F, ow, ρ, so, d, so1, r0, rs, e1, fun F1 H1 v r1 s1 d1 => ?_⟩
  split at e2
  · rename_i x r hd
    replace hd : d = .tuple (x :: r) := hd
    subst hd
    obtain ⟨hl, e3⟩ := if_some e2
    cases e3
    obtain ⟨a, us, rfl, ha, hus⟩ := dq_tup d1
    cases hus with
    | cons hx hr =>
      rename_i u ur
      refine ⟨a, u, ur, rfl, (ha.sq r1.sub), by rw [hr.len]; exact hl, fun q nq => ?_⟩
      have nF := r1.sub.free nq
      have sg : Stp [] F1 H1 (upd F1 q (.lst ur)) (upd H1 q (.lst ur)) := Stp.new nq r1.sub
      have rs2 := (rs.mono s1.fz).mono sg.fz
      exact k _ _ ow (r1.grow sg (same_upd r1.sub)) (s1.trans sg.some_of) (OwTo.refl _ _ _) _
        ((rs2.set (i := i) (v := some u) (s := some (.d x)) ⟨u, rfl, dq_same sg.fz _ _ hx⟩).set (i := j) (v := some (.ref q)) (s := some (.d (.list r))) ⟨.ref q, rfl, new_lst nF hr⟩)
  · cases e2
end
theorem pds_head {X : Cx} {p : Nat} {W : Str → Hp → Prop} {i j : Nat} {x y : Str} {px py sp tp pos : Pos} {kt : Nat} {v : Expr} {f : DE} (hc : X.calm = true) (hN : X.N.Nodup) (hi : X.N[i]? = some x) (hj : X.N[j]? = some y) (hx : Loc X.env.scope x) (hy : Loc X.env.scope y) (he : PD X v f)
    (hs : swapsWithSole [.Tuple [.Name x px, .Starred (.Name y py) sp] kt tp] v pos.line X.env = pure false := by rfl) (hw : swappedStores [.Tuple [.Name x px, .Starred (.Name y py) sp] kt tp] v X.env = pure none := by rfl)
    (h1 : (assignEach [.Tuple [.Name x px, .Starred (.Name y py) sp] kt tp] X.env).map (·.2) = [assign (.Tuple [.Name x px, .Starred (.Name y py) sp] kt tp) X.env] := by rfl)
    (hf : X.fn x = true ∨ X.env.scope.names.lookup x = some .local := by first | exact .inl rfl | exact .inr rfl | assumption) (hg : X.fn y = true ∨ X.env.scope.names.lookup y = some .local := by first | exact .inl rfl | exact .inr rfl | assumption)
    (hm : (assignEach [.Name x px, .Starred (.Name y py) sp] X.env) = [(false, assign (.Name x px) X.env), (true, assign (.Name y py) X.env)] := by rfl) :
    PDS X p W (.Assign [.Tuple [.Name x px, .Starred (.Name y py) sp] kt tp] v pos) (sHead i j f) :=
  (ps_asg he (pg_head hc (pg_name hN hi hx hf) (pg_name hN hj hy hg) hm) hs hw h1).imp tOf_head

/-! ### slices with a step -/
def dStp : PyData → Option Int → Option Int → Option Int → Option PyData := fun d lo hi st => match lo, hi, st with
  | some a, none, some k => if 0 ≤ a ∧ 2 ≤ k then (match d with
    | .list xs => if (stepIx xs.length (some a) none k).length ≤ LIM then some (.list (pickIx xs (stepIx xs.length (some a) none k))) else none
    | .tuple xs => if (stepIx xs.length (some a) none k).length ≤ LIM then some (.tuple (pickIx xs (stepIx xs.length (some a) none k))) else none
    | _ => none) else none
  | none, none, some (-1) => (match d with
    | .list xs => if (stepIx xs.length none none (-1)).length ≤ LIM then some (.list (pickIx xs (stepIx xs.length none none (-1)))) else none
    | .tuple xs => if (stepIx xs.length none none (-1)).length ≤ LIM then some (.tuple (pickIx xs (stepIx xs.length none none (-1)))) else none
    | _ => none)
  | _, _, _ => none
theorem dStp_some {d e : PyData} {lo hi st : Option Int} (h : dStp d lo hi st = some e) : StepOk3 lo hi st ∧ ∃ z, st = some z ∧ ((∃ xs, d = .list xs ∧ (stepIx xs.length lo hi z).length ≤ LIM ∧ e = .list (pickIx xs (stepIx xs.length lo hi z))) ∨
    (∃ xs, d = .tuple xs ∧ (stepIx xs.length lo hi z).length ≤ LIM ∧ e = .tuple (pickIx xs (stepIx xs.length lo hi z)))) := by
  unfold dStp at h
  split at h
  · rename_i a k
    have hc : 0 ≤ a ∧ 2 ≤ k := by
      by_cases c : 0 ≤ a ∧ 2 ≤ k
      · exact c
      · rw [if_neg c] at h; cases h
    rw [if_pos hc] at h
    obtain ⟨ha, hk⟩ := hc
    refine ⟨?_, k, rfl, ?_⟩
    · obtain ⟨a', rfl⟩ := Int.eq_ofNat_of_zero_le ha
      obtain ⟨k', rfl⟩ := Int.eq_ofNat_of_zero_le (show 0 ≤ k by omega)
      exact .up a' k' (by omega)
    · split at h
      · obtain ⟨hl, rfl⟩ := if_some h
        exact .inl ⟨_, rfl, hl, rfl⟩
      · obtain ⟨hl, rfl⟩ := if_some h
        exact .inr ⟨_, rfl, hl, rfl⟩
      · cases h
  · refine ⟨.down, -1, rfl, ?_⟩
    split at h
    · obtain ⟨hl, rfl⟩ := if_some h
      exact .inl ⟨_, rfl, hl, rfl⟩
    · obtain ⟨hl, rfl⟩ := if_some h
      exact .inr ⟨_, rfl, hl, rfl⟩
    · cases h
  · cases h
def eStp (f : DE) (lo hi st : DO) : DE := fun ρ so => (f ρ so).bind fun p => (lo ρ p.2).bind fun q => (hi ρ q.2).bind fun r => (st ρ r.2).bind fun t => (dStp p.1 q.1 r.1 t.1).map fun d => (d, t.2)
theorem dqPick {K : PySem.W.Frag} {F : Hp} {xs : List V} {ds : List PyData} (h : DqAll K F xs ds) : ∀ js : List Nat, DqAll K F (pickIx xs js) (pickIx ds js)
  | [] => .nil
  | j :: js => by
    have ih := dqPick h js
    unfold pickIx at ih ⊢
    rw [List.filterMap_cons, List.filterMap_cons]
    cases q : xs[j]? with
    | none =>
      have : ds[j]? = none := by
        rw [List.getElem?_eq_none_iff] at q ⊢
        rw [← h.len]
        exact q
      rw [this]
      exact ih
    | some x =>
      obtain ⟨d, hd, rd⟩ := h.get q
      rw [hd]
      exact .cons rd ih
theorem tOf_stp {K : PySem.W.Frag} {f : DE} {lo hi st : DO} (σ : L2.St) (H : Hp) (Q : VK) (h : tOf K (eStp f lo hi st) σ H Q) : tSl3 (rStep K) (tOf K f) (tOfO K lo) (tOfO K hi) (tOfO K st) σ H Q := by
  obtain ⟨F, ow, ρ, so, d, so', r0, rs, e, k⟩ := h
  obtain ⟨⟨x, so1⟩, e1, e⟩ := Option.bind_eq_some_iff.mp e
  obtain ⟨⟨l, so2⟩, e2, e⟩ := Option.bind_eq_some_iff.mp e
  obtain ⟨⟨u, so3⟩, e3, e⟩ := Option.bind_eq_some_iff.mp e
  obtain ⟨⟨t, so4⟩, e4, e⟩ := Option.bind_eq_some_iff.mp e
  obtain ⟨y, e5, e6⟩ := Option.map_eq_some_iff.mp e
  cases e6
  refine ⟨F, ow, ρ, so, x, so1, r0, rs, e1, fun F1 H1 v r1 s1 d1 => ⟨F1, ow, ρ, so1, l, so2, r1, rs.mono s1.fz, e2, fun F2 H2 r2 s2 => ⟨F2, ow, ρ, so2, u, so3, r2, (rs.mono s1.fz).mono s2.fz, e3, fun F3 H3 r3 s3 => ⟨F3, ow, ρ, so3, t, so4, r3, ((rs.mono s1.fz).mono s2.fz).mono s3.fz, e4, fun F4 H4 r4 s4 => ?_⟩⟩⟩⟩
  obtain ⟨ok, z, rfl, hz⟩ := dStp_some e5
  have d4 := dq_same (s2.fz.trans (s3.fz.trans s4.fz)) _ _ d1
  have st := s1.trans (s2.trans (s3.trans s4))
  rcases hz with ⟨xs, rfl, hl, rfl⟩ | ⟨xs, rfl, hl, rfl⟩
  · obtain ⟨a, us, rfl, ha, hus⟩ := dq_lst d4
    have hl' : (stepIx us.length l u z).length ≤ LIM := by rw [hus.len]; exact hl
    refine ⟨ok, a, us, z, rfl, rfl, Nat.le_trans hl' (by decide), .inl ⟨SqL.of (r4.sub _ _ ha), fun q nq => ?_⟩⟩
    rw [hus.len]
    exact k _ _ _ (r4.grow (Stp.new nq r4.sub) (same_upd r4.sub)) (st.trans (Stp.new nq r4.sub).some_of) (new_lst (r4.sub.free nq) (dqPick hus _))
  · obtain ⟨a, us, rfl, ha, hus⟩ := dq_tup d4
    have hl' : (stepIx us.length l u z).length ≤ LIM := by rw [hus.len]; exact hl
    refine ⟨ok, a, us, z, rfl, rfl, Nat.le_trans hl' (by decide), .inr ⟨(ha.sq r4.sub), fun q ob nq pl => ?_⟩⟩
    rw [hus.len]
    exact k _ _ _ (r4.grow (Stp.new nq r4.sub) (same_upd r4.sub)) (st.trans (Stp.new nq r4.sub).some_of) (new_tup (r4.sub.free nq) pl (dqPick hus _))
theorem pd_stp {X : Cx} {e : Expr} {lo hi : Option Expr} {st : Expr} {f : DE} {fl fh fs : DO} {pos p2 : Pos} (he : PD X e f) (hl : PDO X lo fl) (hu : PDO X hi fh) (hs : PDO X (some st) fs) : PD X (.Subscript e (.Slice lo hi (some st) p2) pos) (eStp f fl fh fs) := (pe_step he hl hu hs).imp tOf_stp

/-! ### range(a, b, -1) -/
def downD (a : Int) (n : Nat) : List PyData := (List.range n).map fun (i : Nat) => PyData.int (a + (i : Int) * -1)
def iRg3 (g : DL) : DL := fun ρ so => (g ρ so).bind fun p => match p.1 with
  | [.int a, .int b, .int (-1)] => if -5000 ≤ a ∧ a ≤ 5000 ∧ -5000 ≤ b ∧ b ≤ 5000 then some (downD a (a - b).toNat, p.2) else none
  | _ => none
theorem DqAll.three2 {K : PySem.W.Frag} {F : Hp} {vs : List V} {d e f : PyData} (h : DqAll K F vs [d, e, f]) : ∃ v u w, vs = [v, u, w] ∧ Dq K F v d ∧ Dq K F u e ∧ Dq K F w f := by
  cases h with
  | cons h1 h2 =>
    obtain ⟨u, w, rfl, h3, h4⟩ := h2.two
    exact ⟨_, u, w, rfl, h1, h3, h4⟩
theorem pdi_range3 {X : Cx} {tg a b c : Expr} {g : DL} {p pos : Pos} (hg : Gl X "range") (hm : X.mg "range" = none) (ha : PDA X [a, b, c] g) (hs : starEach [a, b, c] X.env = (false, eval a X.env) :: starEach [b, c] X.env := by rfl) (hpl : (backTo pos (starEach [b, c] X.env)).any (·.1) = false := by rfl) :
    PDI X tg (.Call (.Name "range" p) [a, b, c] [] pos) (iRg3 g) := by
  refine (pi_range3 hg hm ha hs hpl).imp fun σ H R q => ?_
  obtain ⟨F, ow, ρ, so, ds, so', r0, rs, e, k⟩ := q
  obtain ⟨⟨d, so1⟩, e1, e2⟩ := Option.bind_eq_some_iff.mp e
  refine ⟨F, ow, ρ, so, d, so1, r0, rs, e1, fun F1 H1 vs r1 s1 d1 => ?_⟩
  split at e2
  · rename_i n m hd
    obtain ⟨hn, e3⟩ := if_some e2
    cases e3
    replace hd : d = [.int n, .int m, .int (-1)] := hd
    subst hd
    obtain ⟨v, u, w, rfl, h1, h2, h3⟩ := d1.three2
    cases h1
    cases h2
    cases h3
    have ln : (downD n (n - m).toNat).length = (n - m).toNat := by unfold downD; rw [List.length_map, List.length_range]
    refine ⟨n, m, -1, (n - m).toNat, rfl, RgC.neg (by omega) (by omega) (by omega) (by omega), k F1 H1 _ _ _ r1 s1 (by rw [ln]; exact walk_rangeC) (fun _ _ _ _ => trivial) fun i F2 H2 x H3 hi a1 a2 y => ?_⟩
    obtain ⟨rfl, rfl⟩ := y
    rw [ln] at hi
    exact ⟨F2, .int (n + (i : Int) * -1), by unfold downD; rw [List.getElem?_map, List.getElem?_range hi]; rfl, Stp.refl _ _ _, a2, .inl (.int _)⟩
  · cases e2

/-! ### zip(*rows) -/
def tupRows : List PyData → Option (List (List PyData))
  | [] => some []
  | .tuple xs :: r => (tupRows r).map fun q => xs :: q
  | _ :: _ => none
def lstRows : List PyData → Option (List (List PyData))
  | [] => some []
  | .list xs :: r => (lstRows r).map fun q => xs :: q
  | _ :: _ => none
/-- the columns of rows of one length -/
def colsD (rows : List (List PyData)) : List PyData := (List.range (rows.headD []).length).map fun i => PyData.tuple (rows.map fun r => r.getD i .none)
def iZipS (f : DE) : DL := fun ρ so => (f ρ so).bind fun p => match p.1 with
  | .list ds => ((tupRows ds).orElse fun _ => lstRows ds).bind fun rows => if 1 ≤ rows.length ∧ rows.length ≤ 6 ∧ ∀ r ∈ rows, r.length = (rows.headD []).length then some (colsD rows, p.2) else none
  | _ => none
/-- the rows as they stand -/
theorem rows_at {K : PySem.W.Frag} {F : Hp} : ∀ {vs : List V} {ds : List PyData} {rows : List (List PyData)}, DqAll K F vs ds → tupRows ds = some rows → ∃ (src : List Addr) (xss : List (List V)), vs = src.map V.ref ∧ src.length = rows.length ∧ xss.length = rows.length ∧
    (∀ (k : Nat) (l : Addr) (xs : List V), src[k]? = some l → xss[k]? = some xs → TupAt F l xs) ∧ ∀ (k : Nat) (xs : List V) (r : List PyData), xss[k]? = some xs → rows[k]? = some r → DqAll K F xs r
  | _, [], rows, h, e => by
    cases h
    cases e
    exact ⟨[], [], rfl, rfl, rfl, fun k l xs hk => by simp at hk, fun k xs r hk => by simp at hk⟩
  | _, d :: ds, rows, h, e => by
    cases h with
    | cons h1 h2 =>
      cases d with
      | tuple es =>
        obtain ⟨q, e1, rfl⟩ := Option.map_eq_some_iff.mp (show (tupRows ds).map _ = some rows from e)
        obtain ⟨src, xss, rfl, l1, l2, a1, a2⟩ := rows_at h2 e1
        obtain ⟨a, xs, rfl, ha, hx⟩ := dq_tup h1
        refine ⟨a :: src, xs :: xss, rfl, by simp [l1], by simp [l2], fun k l ys hk hy => ?_, fun k ys r hk hr => ?_⟩
        · cases k with
          | zero => cases hk; cases hy; exact ha
          | succ k => exact a1 k l ys (by simpa using hk) (by simpa using hy)
        · cases k with
          | zero => cases hk; cases hr; exact hx
          | succ k => exact a2 k ys r (by simpa using hk) (by simpa using hr)
      | _ => cases e
theorem rows_atL {K : PySem.W.Frag} {F : Hp} : ∀ {vs : List V} {ds : List PyData} {rows : List (List PyData)}, DqAll K F vs ds → lstRows ds = some rows → ∃ (src : List Addr) (xss : List (List V)), vs = src.map V.ref ∧ src.length = rows.length ∧ xss.length = rows.length ∧
    (∀ (k : Nat) (l : Addr) (xs : List V), src[k]? = some l → xss[k]? = some xs → F l = some (.lst xs)) ∧ ∀ (k : Nat) (xs : List V) (r : List PyData), xss[k]? = some xs → rows[k]? = some r → DqAll K F xs r
  | _, [], rows, h, e => by
    cases h
    cases e
    exact ⟨[], [], rfl, rfl, rfl, fun k l xs hk => by simp at hk, fun k xs r hk => by simp at hk⟩
  | _, d :: ds, rows, h, e => by
    cases h with
    | cons h1 h2 =>
      cases d with
      | list es =>
        obtain ⟨q, e1, rfl⟩ := Option.map_eq_some_iff.mp (show (lstRows ds).map _ = some rows from e)
        obtain ⟨src, xss, rfl, l1, l2, a1, a2⟩ := rows_atL h2 e1
        obtain ⟨a, xs, rfl, ha, hx⟩ := dq_lst h1
        refine ⟨a :: src, xs :: xss, rfl, by simp [l1], by simp [l2], fun k l ys hk hy => ?_, fun k ys r hk hr => ?_⟩
        · cases k with
          | zero => cases hk; cases hy; exact ha
          | succ k => exact a1 k l ys (by simpa using hk) (by simpa using hy)
        · cases k with
          | zero => cases hk; cases hr; exact hx
          | succ k => exact a2 k ys r (by simpa using hk) (by simpa using hr)
      | _ => cases e
theorem walk_zipB {K : PySem.W.Frag} {b : Addr → Bool} {src : List Addr} {xss : List (List V)} {n : Nat} (lx : xss.length = src.length) (h1 : 1 ≤ src.length) (hn : ∀ xs ∈ xss, xs.length = n) :
    Walk (ItzB K b src) n (fun H => ∀ (k : Nat) (l : Addr) (xs : List V), src[k]? = some l → xss[k]? = some xs → SqB K (b l) H l xs)
      (fun i H v H' => ∃ (T : Addr) (ys : List V) (ob : Obj), v = .ref T ∧ H T = none ∧ PlainT ob ∧ H' = upd H T (.frz ob (.tup ys)) ∧ ys.length = src.length ∧ ∀ (k : Nat) (xs : List V), xss[k]? = some xs → ys[k]? = xs[i]?) := by
  refine ⟨fun i H hi q => ⟨xss, lx, fun k l xs hk hx => ⟨q k l xs hk hx, by rw [hn xs (List.mem_of_getElem? hx)]; exact hi⟩⟩, fun H q => ?_, fun i H v H' hi q y => ?_⟩
  · have g1 : src[0]? = some src[0] := List.getElem?_eq_getElem h1
    have g2 : xss[0]? = some xss[0] := List.getElem?_eq_getElem (by omega)
    exact ⟨_, _, g1, q 0 _ _ g1 g2, (hn _ (List.getElem_mem _)).symm⟩
  · obtain ⟨T, ys, ob, e1, e2, pl, e3, ly, hy⟩ := y
    refine ⟨T, ys, ob, e1, e2, pl, e3, ly, fun k xs hx => ?_⟩
    have hk : k < src.length := by rw [← lx]; exact (List.getElem?_eq_some_iff.mp hx).1
    have g1 : src[k]? = some src[k] := List.getElem?_eq_getElem hk
    exact (hy k _ xs g1 (q k _ xs g1 hx)).symm
theorem colsD_len (rows : List (List PyData)) : (colsD rows).length = (rows.headD []).length := by unfold colsD; rw [List.length_map, List.length_range]
theorem cols_dq {K : PySem.W.Frag} {F : Hp} {i n : Nat} (hi : i < n) : ∀ {xss : List (List V)} {rows : List (List PyData)} {ys : List V}, ys.length = rows.length → xss.length = rows.length → (∀ r ∈ rows, r.length = n) →
    (∀ (k : Nat) (xs : List V), xss[k]? = some xs → ys[k]? = xs[i]?) → (∀ (k : Nat) (xs : List V) (r : List PyData), xss[k]? = some xs → rows[k]? = some r → DqAll K F xs r) → DqAll K F ys (rows.map fun r => r.getD i .none)
  | [], [], [], _, _, _, _, _ => .nil
  | [], [], _ :: _, h, _, _, _, _ => by simp at h
  | [], _ :: _, _, _, h, _, _, _ => by simp at h
  | _ :: _, [], _, _, h, _, _, _ => by simp at h
  | _ :: _, _ :: _, [], h, _, _, _, _ => by simp at h
  | xs :: xss, r :: rows, y :: ys, h1, h2, h3, h4, h5 => by
    have hd := h5 0 xs r rfl rfl
    have hr : r.length = n := h3 r List.mem_cons_self
    have hx : i < xs.length := by rw [hd.len, hr]; exact hi
    have ey : some y = xs[i]? := h4 0 xs rfl
    obtain ⟨d, g, q⟩ := hd.get ey.symm
    have e2 : r.getD i .none = d := by rw [List.getD_eq_getElem?_getD, g]; rfl
    refine .cons (by show Dq K F y (r.getD i .none); rw [e2]; exact q) (cols_dq hi (by simpa using h1) (by simpa using h2) (fun q hq => h3 q (List.mem_cons_of_mem _ hq)) (fun k zs hk => ?_) fun k zs q hk hq => h5 (k + 1) zs q (by simpa using hk) (by simpa using hq))
    have := h4 (k + 1) zs (by simpa using hk)
    simpa using this
theorem pdi_zipS {X : Cx} {e : Expr} {f : DE} {p pos px sp : Pos} {x : Str} (hg : Gl X "zip") (hm : X.mg "zip" = none) (he : PD X e f) (hst : starEach [.Starred e sp] X.env = [(true, eval e X.env)] := by rfl) :
    PDI X (.Name x px) (.Call (.Name "zip" p) [.Starred e sp] [] pos) (iZipS f) := by
  refine (RL.pi_zipS hg hm he hst).imp fun σ H R q => ?_
  obtain ⟨F, ow, ρ, so, ds, so', r0, rs, e, k⟩ := q
  obtain ⟨⟨d, so1⟩, e1, e2⟩ := Option.bind_eq_some_iff.mp e
  refine ⟨F, ow, ρ, so, d, so1, r0, rs, e1, fun F1 H1 v r1 s1 d1 => ?_⟩
  split at e2
  · rename_i es hd
    replace hd : d = .list es := hd
    subst hd
    obtain ⟨rows, e3, e4⟩ := Option.bind_eq_some_iff.mp e2
    obtain ⟨⟨hr1, hr6, hrl⟩, e5⟩ := if_some e4
    cases e5
    obtain ⟨a, us, rfl, ha, hus⟩ := dq_lst d1
    have fin : ∀ (b : Bool) (src : List Addr) (xss : List (List V)), us = src.map V.ref → src.length = rows.length → xss.length = rows.length → (∀ (F2 H2 : Hp), Same F1 F2 → Same F2 H2 → ∀ (k : Nat) (l : Addr) (xs : List V), src[k]? = some l → xss[k]? = some xs → SqB X.K b H2 l xs) →
        (∀ (k : Nat) (xs : List V) (r : List PyData), xss[k]? = some xs → rows[k]? = some r → DqAll X.K F1 xs r) → ∃ (l : Addr) (src : List Addr) (b : Addr → Bool), V.ref a = .ref l ∧ SqL X.K H1 l (src.map V.ref) ∧ 1 ≤ src.length ∧ src.length ≤ 6 ∧ (∀ c ∈ src, ∃ xs, SqB X.K (b c) H1 c xs) ∧ R (ItzB X.K b src) H1 := by
      intro b src xss eu l1 l2 a1 a2
      have hn : ∀ xs ∈ xss, xs.length = (rows.headD []).length := fun xs hx => by
        obtain ⟨k, hk⟩ := List.mem_iff_getElem?.mp hx
        have hlt : k < rows.length := by rw [← l2]; exact (List.getElem?_eq_some_iff.mp hk).1
        have g : rows[k]? = some rows[k] := List.getElem?_eq_getElem hlt
        rw [(a2 k xs _ hk g).len]
        exact hrl _ (List.getElem_mem hlt)
      have wk := walk_zipB (K := X.K) (b := fun _ => b) (src := src) (by omega) (by omega) hn
      rw [← colsD_len] at wk
      refine ⟨a, src, fun _ => b, rfl, by rw [← eu]; exact SqL.of (r1.sub _ _ ha), by omega, by omega, fun c hc => ?_, k F1 H1 _ _ _ r1 s1 wk (fun F2 H2 b1 b2 => a1 F2 H2 b1 b2) fun i F2 H2 x H3 hi b1 b2 y => ?_⟩
      · obtain ⟨k, hk⟩ := List.mem_iff_getElem?.mp hc
        have hlt : k < xss.length := by rw [l2, ← l1]; exact (List.getElem?_eq_some_iff.mp hk).1
        exact ⟨_, a1 F1 H1 (Same.refl _) r1.sub k c _ hk (List.getElem?_eq_getElem hlt)⟩
      · obtain ⟨T, ys, ob, rfl, nT, pl, rfl, ly, hy⟩ := y
        rw [colsD_len] at hi
        refine ⟨_, .tuple (rows.map fun r => r.getD i .none), ?_, Stp.new nT b2, same_upd b2, .inl (new_tup (b2.free nT) pl (dqAll_same b1 _ _ (cols_dq hi (by omega) (by omega) hrl hy a2)))⟩
        unfold colsD
        rw [List.getElem?_map, List.getElem?_range hi]
        rfl
    cases ht : tupRows es with
    | some q =>
      rw [ht] at e3
      cases e3
      obtain ⟨src, xss, eu, l1, l2, a1, a2⟩ := rows_at hus ht
      exact fin true src xss eu l1 l2 (fun F2 H2 b1 b2 k l xs hk hx => ((a1 k l xs hk hx).sq (b1.trans b2))) a2
    | none =>
      rw [ht] at e3
      have e3 : lstRows es = some rows := e3
      obtain ⟨src, xss, eu, l1, l2, a1, a2⟩ := rows_atL hus e3
      exact fin false src xss eu l1 l2 (fun F2 H2 b1 b2 k l xs hk hx => SqL.of (b2 _ _ (b1 _ _ (a1 k l xs hk hx)))) a2
  · cases e2
end MP
namespace RL
open PySem PySem.Spec PyProof.Rows L2

/-! ### t[::1]: the tuple itself -/
section
variable {P : Program} {w : World} {A : Around} {E : Value → Shared → Prop} {s : Shared}
theorem item_one {t sl : Addr} {arr : Array Value} {vl vu vs : Value} {Q : Value → Shared → Prop} (ht : IsTup s.heap t arr) (hs : s.heap.IsSliceOf sl vl vu vs) (pl : IsPart vl none) (pu : IsPart vu none) (ps : IsPart vs (some 1))
    (h : Q (.ref t) s) : wpAny (model P w) A (getItem (.ref t) (.ref sl)) Q E s := by
  obtain ⟨os, e1, e2, e3⟩ := id hs
  have hT : s.TypeIs (.ref sl) "slice" := ⟨os, e1, e2⟩
  unfold getItem
  refine wpAny_holding ?_
  first | refine wpAny_bind (wpAny_pure ?_) | skip
  refine wpAny_bind (wpAny_sequenceKey ht.typeIs (by decide) ?_)
  refine wpAny_bind (wpAny_callSpecial?_slot (name := Str.ofString "__getitem__") ht.typeIs PyProof.Rows.slot_tuple_getitem (wpAny_call_entry PyProof.Rows.slot_tuple_getitem ht.typeIs PyProof.Rows.entry_tuple_getitem ?_ (PyProof.Rows.args_tuple_getitem _ _)))
  show wpAny _ _ (Builtin.Tuple.tupleItemsOf (.ref t) >>= _) _ _ s
  refine wpAny_bind (tupleItemsOf_ ht (wpAny_bind (wpAny_typeOf hT ?_)))
  rw [if_pos (by decide)]
  refine wpAny_bind (sliced3 hs pl pu ps (by decide) ?_)
  have e4 : Builtin.Slice.sliceAdjust none none 1 (arr.size : Int) = (0, (arr.size : Int)) := by
    have := HT.adjust_gen none none arr.size
    rw [this]
    rfl
  have e5 : Builtin.Slice.slicePlaces 0 (arr.size : Int) 1 = arr.size := by
    have := HT.places_gen 0 arr.size
    simpa using this
  rw [e4]
  show wpAny _ _ (if ((0 : Int) == 0 && (1 : Int) == 1 && Builtin.Slice.slicePlaces 0 (arr.size : Int) 1 == arr.size) = true then _ else _) _ _ s
  rw [e5, if_pos (by simp)]
  refine wpAny_bind ?_
  show wpAny _ _ (typeOf (.ref t) >>= fun T => pure (T == .type "tuple")) _ _ s
  refine wpAny_bind (wpAny_typeOf ht.typeIs (wpAny_pure ?_))
  first
    | rw [if_pos (by decide)]
    | simp only [beq_self_eq_true, if_true]
  first
    | exact wpAny_bind (wpAny_rule (wpAny_pure ⟨_, rfl, wpAny_pure h⟩))
    | exact wpAny_bind (wpAny_rule (wpAny_bind (wpAny_pure (wpAny_pure ⟨_, rfl, wpAny_pure h⟩))))
end
def rStepU (K : PySem.W.Frag) : V → Option Int → Option Int → Option Int → Hp → VK → Prop := fun x lo hi st H Q => rStep K x lo hi st H Q ∨ (lo = none ∧ hi = none ∧ st = some 1 ∧ ∃ a xs, x = .ref a ∧ SqT K H a xs ∧ Q (.ref a) H)
theorem pe_stepU {X : Cx} {e : Expr} {lo hi : Option Expr} {st : Expr} {te : TE} {tl th ts : L2.TO} {pos p2 : Pos} (he : PE X e te) (hl : PO X lo tl) (hu : PO X hi th) (hs : PO X (some st) ts) : PE X (.Subscript e (.Slice lo hi (some st) p2) pos) (tSl3 (rStepU X.K) te tl th ts) := by
  refine ⟨fun pins s σ H Q I h => ?_⟩
  refine Subscript_ (thn (he.run pins s σ H _ I h) fun v s1 ⟨x, H1, I1, r1, q1⟩ => ?_)
  refine wpAny_Slice (thn (hl.run pins s1 σ H1 _ I1 q1) fun vl s2 ⟨l, H2, I2, pl, q2⟩ => thn (hu.run pins s2 σ H2 _ I2 q2) fun vu s3 ⟨u, H3, I3, pu, q3⟩ => thn (hs.run pins s3 σ H3 _ I3 q3) fun vz s4 ⟨z, H4, I4, pz, q4⟩ => ?_)
  rcases q4 with q4 | ⟨rfl, rfl, rfl, a, xs, rfl, hx, q⟩
  case inr =>
    cases r1
    have I5 : Inv X pins σ H4 { s4 with heap := s4.heap.push { cls := .type "slice", data := .fields #[vl, vu, vz] } } := I4.kept (t' := s4.toks) fun b ob q => Heap.get?_push_of_some _ q
    have hsl := Heap.IsSliceOf.new s4.heap vl vu vz
    show wpAny (model X.prog X.w) X.A (subscriptTail e (.Slice lo hi (some st) p2) (.ref a) (.ref s4.heap.objs.size)) (EP X pins σ Q) X.xe { s4 with heap := s4.heap.push { cls := .type "slice", data := .fields #[vl, vu, vz] } }
    obtain ⟨its, rv, pT, _⟩ := I5.tuple hx
    refine tail_any (T := "tuple") (id := "tuple.__getitem__") (ops := [.ref a, .ref s4.heap.objs.size]) pT.typeIs PyProof.Rows.slot_tuple_getitem.lookup ?_ (by with_unfolding_all rfl)
    exact item_one pT hsl pl pu pz ⟨.ref a, H4, I5, rfl, q⟩
  obtain ⟨ok, a, xs, k, rfl, rfl, hz, q⟩ := q4
  cases r1
  have I5 : Inv X pins σ H4 { s4 with heap := s4.heap.push { cls := .type "slice", data := .fields #[vl, vu, vz] } } := I4.kept (t' := s4.toks) fun b ob q => Heap.get?_push_of_some _ q
  have hsl := Heap.IsSliceOf.new s4.heap vl vu vz
  have k0 : k ≠ 0 := by cases ok <;> omega
  have k1 : k ≠ 1 := by cases ok <;> omega
  show wpAny (model X.prog X.w) X.A (subscriptTail e (.Slice lo hi (some st) p2) (.ref a) (.ref s4.heap.objs.size)) (EP X pins σ Q) X.xe { s4 with heap := s4.heap.push { cls := .type "slice", data := .fields #[vl, vu, vz] } }
  rcases q with ⟨hq, q⟩ | ⟨hq, q⟩
  · obtain ⟨its, rv, pL, hzL⟩ := I5.list hq
    have lx := rv.length
    refine tail_any (T := "list") (id := "list.__getitem__") (ops := [.ref a, .ref s4.heap.objs.size]) pL.isList.typeIs slot_list_getitem.lookup ?_ (by with_unfolding_all rfl)
    refine wpAny_getItem_list_slice pL.isList hsl pl pu pz (by simpa using k0) ?_ (by rw [List.size_toArray, ← lx]; exact hzL)
    have ez : its.toArray.size = xs.length := by rw [List.size_toArray, lx]
    have ep : slicePick its.toArray l u (some k) = (pickIx its (stepIx xs.length l u k)).toArray := by
      have eb : sliceRange (sliceBounds l u (some k) its.toArray.size).1 (sliceBounds l u (some k) its.toArray.size).2.1 (sliceBounds l u (some k) its.toArray.size).2.2 = stepIx xs.length l u k := by
        rw [ez]
        cases ok with
        | up a k hk => exact bounds_up (by omega)
        | down => exact bounds_down
      unfold slicePick pickIx
      rw [eb]
      congr 2
      funext j
      simp
    rw [ep]
    refine ⟨.ref _, _, I5.laid (t' := s4.toks) (o := .lst (pickIx xs (stepIx xs.length l u k))) (fun b ob q => Heap.get?_push_of_some _ q) (Nat.le_refl _) ?_, rfl, q _ (I5.hok.fresh (Nat.le_refl _))⟩
    exact ⟨Nat.le_trans (List.length_filterMap_le _ _) (by rw [sizeLine_eq]; omega), _, 0, vals_pick rv _, Heap.get?_push_size _ rfl⟩
  · obtain ⟨its, rv, pT, _⟩ := I5.tuple hq
    have lx := rv.length
    refine tail_any (T := "tuple") (id := "tuple.__getitem__") (ops := [.ref a, .ref s4.heap.objs.size]) pT.typeIs PyProof.Rows.slot_tuple_getitem.lookup ?_ (by with_unfolding_all rfl)
    have ez : its.toArray.size = xs.length := by rw [List.size_toArray, lx]
    refine item_step pT hsl pl pu pz k0 k1 (by rw [ez, sizeLine_eq]; omega) ?_
    rw [ez]
    exact newT I5 (vals_pick rv _) (Nat.le_trans (List.length_filterMap_le _ _) (by rw [sizeLine_eq]; omega)) q
end RL
namespace MP
open PySem PySem.Spec PyProof.Rows L2 RL

/-! ### slices with a step that may be 1 -/
def dStpU (d : PyData) (lo hi st : Option Int) : Option PyData := if lo = none ∧ hi = none ∧ st = some 1 then (match d with
  | .tuple xs => some (.tuple xs)
  | _ => none) else dStp d lo hi st
def eStpU (f : DE) (lo hi st : DO) : DE := fun ρ so => (f ρ so).bind fun p => (lo ρ p.2).bind fun q => (hi ρ q.2).bind fun r => (st ρ r.2).bind fun t => (dStpU p.1 q.1 r.1 t.1).map fun d => (d, t.2)
theorem tOf_stpU {K : PySem.W.Frag} {f : DE} {lo hi st : DO} (σ : L2.St) (H : Hp) (Q : VK) (h : tOf K (eStpU f lo hi st) σ H Q) : tSl3 (rStepU K) (tOf K f) (tOfO K lo) (tOfO K hi) (tOfO K st) σ H Q := by
  obtain ⟨F, ow, ρ, so, d, so', r0, rs, e, k⟩ := h
  obtain ⟨⟨x, so1⟩, e1, e⟩ := Option.bind_eq_some_iff.mp e
  obtain ⟨⟨l, so2⟩, e2, e⟩ := Option.bind_eq_some_iff.mp e
  obtain ⟨⟨u, so3⟩, e3, e⟩ := Option.bind_eq_some_iff.mp e
  obtain ⟨⟨t, so4⟩, e4, e⟩ := Option.bind_eq_some_iff.mp e
  obtain ⟨y, e5, e6⟩ := Option.map_eq_some_iff.mp e
  cases e6
  refine ⟨F, ow, ρ, so, x, so1, r0, rs, e1, fun F1 H1 v r1 s1 d1 => ⟨F1, ow, ρ, so1, l, so2, r1, rs.mono s1.fz, e2, fun F2 H2 r2 s2 => ⟨F2, ow, ρ, so2, u, so3, r2, (rs.mono s1.fz).mono s2.fz, e3, fun F3 H3 r3 s3 => ⟨F3, ow, ρ, so3, t, so4, r3, ((rs.mono s1.fz).mono s2.fz).mono s3.fz, e4, fun F4 H4 r4 s4 => ?_⟩⟩⟩⟩
  have d4 := dq_same (s2.fz.trans (s3.fz.trans s4.fz)) _ _ d1
  have st := s1.trans (s2.trans (s3.trans s4))
  replace e5 : dStpU x l u t = some d := e5
  unfold dStpU at e5
  by_cases hc : l = none ∧ u = none ∧ t = some 1
  · rw [if_pos hc] at e5
    obtain ⟨rfl, rfl, rfl⟩ := hc
    split at e5
    · cases e5
      obtain ⟨a, us, rfl, ha, hus⟩ := dq_tup d4
      exact .inr ⟨rfl, rfl, rfl, a, us, rfl, ha.sq r4.sub, k F4 H4 _ r4 st d4⟩
    · cases e5
  · rw [if_neg hc] at e5
    obtain ⟨ok, z, rfl, hz⟩ := dStp_some e5
    refine .inl ?_
    rcases hz with ⟨xs, rfl, hl, rfl⟩ | ⟨xs, rfl, hl, rfl⟩
    · obtain ⟨a, us, rfl, ha, hus⟩ := dq_lst d4
      have hl' : (stepIx us.length l u z).length ≤ LIM := by rw [hus.len]; exact hl
      refine ⟨ok, a, us, z, rfl, rfl, Nat.le_trans hl' (by decide), .inl ⟨SqL.of (r4.sub _ _ ha), fun q nq => ?_⟩⟩
      rw [hus.len]
      exact k _ _ _ (r4.grow (Stp.new nq r4.sub) (same_upd r4.sub)) (st.trans (Stp.new nq r4.sub).some_of) (new_lst (r4.sub.free nq) (dqPick hus _))
    · obtain ⟨a, us, rfl, ha, hus⟩ := dq_tup d4
      have hl' : (stepIx us.length l u z).length ≤ LIM := by rw [hus.len]; exact hl
      refine ⟨ok, a, us, z, rfl, rfl, Nat.le_trans hl' (by decide), .inr ⟨(ha.sq r4.sub), fun q ob nq pl => ?_⟩⟩
      rw [hus.len]
      exact k _ _ _ (r4.grow (Stp.new nq r4.sub) (same_upd r4.sub)) (st.trans (Stp.new nq r4.sub).some_of) (new_tup (r4.sub.free nq) pl (dqPick hus _))
theorem pd_stpU {X : Cx} {e : Expr} {lo hi : Option Expr} {st : Expr} {f : DE} {fl fh fs : DO} {pos p2 : Pos} (he : PD X e f) (hl : PDO X lo fl) (hu : PDO X hi fh) (hs : PDO X (some st) fs) : PD X (.Subscript e (.Slice lo hi (some st) p2) pos) (eStpU f fl fh fs) := (pe_stepU he hl hu hs).imp tOf_stpU
end MP
namespace MP
open PySem PySem.Spec PyProof.Rows L2 RL

/-! ### dicts of a def's own, keys tuples of ints (and of such tuples) -/
theorem un9 {k : Nat} {A : Around} (r : Room k A) : A.units + 9 < cLine := by have := r.un; omega
abbrev DK := List (PyData × PyData)
def isKey (d : PyData) : Bool := match keyD d with
  | some (.tup ks) => decide ((NestedKey.tup ks).depth ≤ 8)
  | _ => false
def dctVal (kvs : DK) (d : PyData) : Option PyData := (kvs.find? fun p => decide (keyD p.1 = keyD d)).map (·.2)
def dctPut (kvs : DK) (d v : PyData) : DK := if (dctVal kvs d).isSome then kvs.map (fun p => if keyD p.1 = keyD d then (p.1, v) else p) else kvs ++ [(d, v)]
/-- the entries of the dict of one's own in slot i -/
def dctAt (i : Nat) (ρ : Slots) (so : Sto) : Option (Nat × DK) := match ρ[i]? with
  | some (some (.o k)) => match so[k]? with
    | some (.dct kvs) => some (k, kvs)
    | _ => none
  | _ => none
section
variable {K : PySem.W.Frag} {F H : Hp} {ow : Ads} {so : Sto} {σ : L2.St} {ρ : Slots} {L : DL3} {kvs : DK}
theorem dct_at {i k : Nat} (rs : RelS K F ow σ ρ) (h : dctAt i ρ so = some (k, kvs)) : ∃ a, σ[i]? = some (some (.ref a)) ∧ ow[k]? = some (some a) ∧ so[k]? = some (.dct kvs) := by
  unfold dctAt at h
  split at h
  · rename_i j hj
    split at h
    · rename_i es he
      cases h
      obtain ⟨v, hv, a, ha, rfl⟩ := rs.get hj
      exact ⟨a, hv, ha, he⟩
    · cases h
  · cases h
theorem own_dct {k : Nat} {a : Addr} (r : RelO K F H ow so) (ha : ow[k]? = some (some a)) (h : so[k]? = some (.dct kvs)) : F a = none ∧ ∃ L, H a = some (DctO L a) ∧ DctAll K F L kvs := r.own k _ _ ha h
theorem key_at {d : PyData} {v : V} (h : isKey d = true) (q : Dq K F v d) : ∃ k b, keyD d = some k ∧ k.depth ≤ 8 ∧ v = .ref b ∧ Dq K F (.ref b) d := by
  unfold isKey at h
  split at h
  · rename_i ks e
    cases d with
    | tuple ds =>
      obtain ⟨a, xs, rfl, _⟩ := dq_tup q
      exact ⟨_, a, e, of_decide_eq_true h, rfl, q⟩
    | int i => cases e
    | _ => cases e
  · cases h
theorem keyAt_of {d : PyData} {k : NestedKey} {b : Addr} (s : Same F H) (e : keyD d = some k) (l : k.depth ≤ 8) (q : Dq K F (.ref b) d) : KeyAt K H k b := ⟨d, e, l, dq_dp _ _ (dq_same s _ _ q)⟩
theorem DctAll.keys (h : DctAll K F L kvs) (s : Same F H) : KeysOk K H L := by
  refine ⟨?_, h.nd⟩
  have := h.all
  clear h
  induction this with
  | nil => exact fun p z => nomatch z
  | @cons p q L kvs z t ih =>
    intro x hx
    rcases List.mem_cons.mp hx with rfl | hx
    · exact keyAt_of s z.1 z.2.1 z.2.2.1
    · exact ih x hx
theorem DctAll.len (h : DctAll K F L kvs) : L.length = kvs.length := Paired.length h.all
theorem DctAll.val (h : DctAll K F L kvs) {d : PyData} {k : NestedKey} (e : keyD d = some k) : (atL L k).isSome = (dctVal kvs d).isSome ∧ ∀ x, dctVal kvs d = some x → ∃ v, atL L k = some v ∧ Dq K F v x := by
  have := h.all
  clear h
  induction this with
  | nil => exact ⟨rfl, fun x z => nomatch z⟩
  | @cons p q L kvs z t ih =>
    unfold atL dctVal at ih ⊢
    rw [List.find?_cons, List.find?_cons]
    by_cases c : p.1 = k
    · rw [decide_eq_true c, decide_eq_true (by rw [z.1, c, e])]
      exact ⟨rfl, fun x hx => ⟨_, rfl, by cases hx; exact z.2.2.2⟩⟩
    · rw [decide_eq_false c, decide_eq_false (by rw [z.1, e]; exact fun y => c (Option.some.inj y))]
      exact ih
theorem putL_keys (L : DL3) (k : NestedKey) (b : Addr) (v : V) : (putL L k b v).map (·.1) = if (atL L k).isSome then L.map (·.1) else L.map (·.1) ++ [k] := by
  unfold putL
  split
  · rw [List.map_map]
    refine List.map_congr_left fun p _ => ?_
    show (if p.1 = k then (p.1, p.2.1, v) else p).1 = p.1
    split <;> rfl
  · rw [List.map_append]
    rfl
theorem atL_none {L : DL3} {k : NestedKey} (h : (atL L k).isSome = false) : k ∉ L.map (·.1) := by
  intro m
  obtain ⟨p, hp, e⟩ := List.mem_map.mp m
  unfold atL at h
  rw [Option.isSome_map] at h
  have : (L.find? fun p => decide (p.1 = k)).isSome = true := by
    rw [List.find?_isSome]
    exact ⟨p, hp, decide_eq_true e⟩
  rw [h] at this
  cases this
theorem DctAll.put (h : DctAll K F L kvs) {d x : PyData} {k : NestedKey} {b : Addr} {v : V} (e : keyD d = some k) (l : k.depth ≤ 8) (qb : Dq K F (.ref b) d) (qv : Dq K F v x) : DctAll K F (putL L k b v) (dctPut kvs d x) := by
  have es := (h.val e).1
  refine ⟨?_, ?_⟩
  · have all := h.all
    unfold putL dctPut
    rw [es]
    split
    · clear es h
      rename_i hh
      clear hh
      induction all with
      | nil => exact .nil
      | @cons p q L kvs z t ih =>
        rw [List.map_cons, List.map_cons]
        refine .cons ?_ ih
        by_cases c : p.1 = k
        · rw [if_pos c, if_pos (by rw [z.1, c, e])]
          exact ⟨z.1, z.2.1, z.2.2.1, qv⟩
        · rw [if_neg c, if_neg (by rw [z.1, e]; exact fun y => c (Option.some.inj y))]
          exact z
    · clear es h
      rename_i hh
      clear hh
      induction all with
      | nil => exact .cons ⟨e, l, qb, qv⟩ .nil
      | cons z t ih => exact .cons z ih
  · rw [putL_keys]
    split
    · exact h.nd
    · rename_i hh
      have n := atL_none (by simpa using hh : (atL L k).isSome = false)
      rw [List.nodup_append]
      exact ⟨h.nd, by simp, fun a ha c hc z => n (by rw [List.mem_singleton] at hc; rw [← hc, ← z]; exact ha)⟩
/-- the dict of one's own is changed -/
theorem relO_putW {k : Nat} {a : Addr} {o : HO} {w w' : Own} (r : RelO K F H ow so) (ha : ow[k]? = some (some a)) (h : so[k]? = some w) (fa : F a = none) (hd : OwnOk K F (upd H a o) (some a) w') :
    RelO K F (upd H a o) ow (so.set k w') ∧ Stp ow F H F (upd H a o) := by
  refine ⟨⟨fun b o hb => ?_, by rw [List.length_set]; exact r.len, fun m b u hb hu => ?_, r.inj, fun m b hb => live_upd (r.old m b hb)⟩, ⟨Same.refl _, fun c o n hc => ?_, fun _ _ _ _ h => h, fun c h => live_upd h⟩⟩
  · rw [upd_ne (ne_of_none hb fa)]
    exact r.sub b o hb
  · rcases get_set hu with ⟨rfl, rfl⟩ | ⟨nm, hu⟩
    · rw [ha] at hb
      cases hb
      exact hd
    · have q := r.own m b u hb hu
      cases u with
      | no => cases b <;> trivial
      | lst es =>
        cases b with
        | none => exact q.elim
        | some b =>
          obtain ⟨fb, us, hu', hd2⟩ := q
          have nb : b ≠ a := fun e => nm (r.inj m k a (by rw [← e]; exact hb) ha)
          exact ⟨fb, us, by rw [upd_ne nb]; exact hu', hd2⟩
      | dct es =>
        cases b with
        | none => exact q.elim
        | some b =>
          obtain ⟨fb, us, hu', hd2⟩ := q
          have nb : b ≠ a := fun e => nm (r.inj m k a (by rw [← e]; exact hb) ha)
          exact ⟨fb, us, by rw [upd_ne nb]; exact hu', hd2⟩
      | fz d =>
        cases b with
        | none => exact q.elim
        | some b => exact ⟨live_upd q.1, q.2⟩
  · have nc : c ≠ a := fun e => n (by rw [e]; exact List.mem_of_getElem? ha)
    rw [upd_ne nc]
    exact hc
end

/-! #### d[k] -/
def rDctIx (K : PySem.W.Frag) : R2 := fun x y H Q => ∃ a b L k v, x = .ref a ∧ y = .ref b ∧ H a = some (DctO L a) ∧ KeysOk K H L ∧ KeyAt K H k b ∧ atL L k = some v ∧ Q v H
theorem pe_dctIx {X : Cx} {o i : Expr} {pos : Pos} {td ty : TE} (hu : X.A.units + 9 < cLine) (ho : PE X o td) (hi : PE X i ty) (hs : PlainIx i) : PE X (.Subscript o i pos) (tOp (rDctIx X.K) td ty) := by
  refine ⟨fun pins s σ H Q I h => subD_of PySem.F.slot_dict_getitem.lookup hs (thn (ho.run pins s σ H _ I h) fun u s1 ⟨x, H1, I1, rx, q1⟩ => thn (hi.run pins s1 σ H1 _ I1 q1) fun iv s2 ⟨y, H2, I2, ry, q2⟩ => ?_)⟩
  obtain ⟨a, b, L, k, v, rfl, rfl, hH, hk, hb, hv, q⟩ := q2
  obtain rfl : u = Value.ref a := rx
  obtain rfl : iv = Value.ref b := ry
  obtain ⟨_, xs, _, hx⟩ := dct_of I2 hH hk
  exact ⟨hx.typeIs, dct_get hu I2 hH hk hb hv fun w s3 I3 rw' => ⟨v, H2, I3, rw', q⟩⟩
def dIxO (i : Nat) (b : DE) : DE := fun ρ so => (b ρ so).bind fun p => (dctAt i ρ p.2).bind fun q => if isKey p.1 then (dctVal q.2 p.1).map fun d => (d, p.2) else none
theorem tOf_dIxO {K : PySem.W.Frag} {i : Nat} {b : DE} (σ : L2.St) (H : Hp) (Q : VK) (h : tOf K (dIxO i b) σ H Q) : tOp (rDctIx K) (tVar i) (tOf K b) σ H Q := by
  obtain ⟨F, ow, ρ, so, d, so', r0, rs, e, k⟩ := h
  obtain ⟨⟨x, so1⟩, e1, e2⟩ := Option.bind_eq_some_iff.mp e
  obtain ⟨⟨j, kvs⟩, e3, e4⟩ := Option.bind_eq_some_iff.mp e2
  have hx : isKey x = true := by
    cases hz : isKey x with
    | true => rfl
    | false => rw [if_neg (by show ¬ isKey x = true; rw [hz]; decide)] at e4; cases e4
  rw [if_pos (show isKey x = true from hx)] at e4
  obtain ⟨y, e5, e6⟩ := Option.map_eq_some_iff.mp e4
  cases e6
  obtain ⟨a, hv, ha, hj⟩ := dct_at rs e3
  refine ⟨_, hv, F, ow, ρ, so, x, _, r0, rs, e1, fun F1 H1 v r1 s1 d1 => ?_⟩
  obtain ⟨fa, L, hL, hd⟩ := own_dct r1 ha hj
  obtain ⟨k0, b0, ek, lk, rfl, qb⟩ := key_at hx d1
  obtain ⟨u, hu, qu⟩ := (hd.val ek).2 _ e5
  exact ⟨a, b0, L, k0, u, rfl, rfl, hL, hd.keys r1.sub, keyAt_of r1.sub ek lk qb, hu, k F1 H1 u r1 s1 qu⟩
theorem pd_dIx {X : Cx} {i : Nat} {y : Str} {p2 pos : Pos} {b : Expr} {fb : DE} (hu : X.A.units + 9 < cLine) (hN : X.N[i]? = some y) (hv : Vis X.env.scope y) (hb : PD X b fb) (hs : PlainIx b) (hd : (y == ("__debug__" : Str)) = false := by decide) (hcd : (y == ("__classdict__" : Str)) = false := by decide) : PD X (.Subscript (.Name y p2) b pos) (dIxO i fb) :=
  (pe_dctIx hu (pe_var hN hv hd hcd) hb hs).imp tOf_dIxO

/-! #### k in d, k not in d -/
def rDctIn (K : PySem.W.Frag) (neg : Bool) : R2 := fun x y H Q => ∃ a b L k, x = .ref b ∧ y = .ref a ∧ H a = some (DctO L a) ∧ KeysOk K H L ∧ KeyAt K H k b ∧ Q (.bl (if neg then !(atL L k).isSome else (atL L k).isSome)) H
theorem op_dctIn {X : Cx} (hu : X.A.units + 9 < cLine) : OpR X (compareOp .In) (rDctIn X.K false) := by
  intro pins s σ H x y v u Q I rx ry h
  obtain ⟨a, b, L, k, rfl, rfl, hH, hk, hb, q⟩ := h
  obtain rfl : v = Value.ref b := rx
  obtain rfl : u = Value.ref a := ry
  exact dct_in hu I hH hk hb fun s' I' => ⟨.bl _, H, I', rfl, q⟩
theorem op_dctNotIn {X : Cx} (hu : X.A.units + 9 < cLine) : OpR X (compareOp .NotIn) (rDctIn X.K true) := by
  intro pins s σ H x y v u Q I rx ry h
  obtain ⟨a, b, L, k, rfl, rfl, hH, hk, hb, q⟩ := h
  obtain rfl : v = Value.ref b := rx
  obtain rfl : u = Value.ref a := ry
  exact dct_notIn hu I hH hk hb fun s' I' => ⟨.bl _, H, I', rfl, q⟩
def dInO (neg : Bool) (i : Nat) (f : DE) : DE := fun ρ so => (f ρ so).bind fun p => (dctAt i ρ p.2).bind fun q => if isKey p.1 then some (.bool (if neg then !(dctVal q.2 p.1).isSome else (dctVal q.2 p.1).isSome), p.2) else none
theorem tOf_dInO {K : PySem.W.Frag} {neg : Bool} {i : Nat} {b : DE} (σ : L2.St) (H : Hp) (Q : VK) (h : tOf K (dInO neg i b) σ H Q) : tOp (rDctIn K neg) (tOf K b) (tVar i) σ H Q := by
  obtain ⟨F, ow, ρ, so, d, so', r0, rs, e, k⟩ := h
  obtain ⟨⟨x, so1⟩, e1, e2⟩ := Option.bind_eq_some_iff.mp e
  obtain ⟨⟨j, kvs⟩, e3, e4⟩ := Option.bind_eq_some_iff.mp e2
  obtain ⟨hx, e5⟩ := if_some e4
  replace hx : isKey x = true := hx
  cases e5
  obtain ⟨a, hv, ha, hj⟩ := dct_at rs e3
  refine ⟨F, ow, ρ, so, x, _, r0, rs, e1, fun F1 H1 v r1 s1 d1 => ⟨_, hv, ?_⟩⟩
  obtain ⟨fa, L, hL, hd⟩ := own_dct r1 ha hj
  obtain ⟨k0, b0, ek, lk, rfl, qb⟩ := key_at hx d1
  refine ⟨a, b0, L, k0, rfl, rfl, hL, hd.keys r1.sub, keyAt_of r1.sub ek lk qb, ?_⟩
  rw [(hd.val ek).1]
  exact k F1 H1 _ r1 s1 (.bl _)
section
variable {X : Cx} {i : Nat} {y : Str} {p2 pos : Pos} {b : Expr} {fb : DE}
theorem pd_dIn (hu : X.A.units + 9 < cLine) (hN : X.N[i]? = some y) (hv : Vis X.env.scope y) (hb : PD X b fb) (hm : behindInMarks .In (.Name y p2) = false) (hd : (y == ("__debug__" : Str)) = false := by decide) (hcd : (y == ("__classdict__" : Str)) = false := by decide) : PD X (.Compare b [.In] [.Name y p2] pos) (dInO false i fb) :=
  (pe_cmpR (op_dctIn hu) hb (pe_var hN hv hd hcd) hm).imp tOf_dInO
theorem pd_dNotIn (hu : X.A.units + 9 < cLine) (hN : X.N[i]? = some y) (hv : Vis X.env.scope y) (hb : PD X b fb) (hm : behindInMarks .NotIn (.Name y p2) = false) (hd : (y == ("__debug__" : Str)) = false := by decide) (hcd : (y == ("__classdict__" : Str)) = false := by decide) : PD X (.Compare b [.NotIn] [.Name y p2] pos) (dInO true i fb) :=
  (pe_cmpR (op_dctNotIn hu) hb (pe_var hN hv hd hcd) hm).imp tOf_dInO
theorem tOf_bool {K : PySem.W.Frag} {f : DE} {z : Bool} {so' : Sto} {F H : Hp} {ow : Ads} {ρ : Slots} {so : Sto} {σ : L2.St} {Q : Bool → Hp → Prop} (r0 : RelO K F H ow so) (rs : RelS K F ow σ ρ) (e : bVal f ρ so = some (z, so')) (k : ∀ F' H', RelO K F' H' ow so' → Stp ow F H F' H' → Q z H') : tOf K f σ H (fun v H' => ∃ b, v = .bl b ∧ Q b H') := by
  obtain ⟨⟨d, so1⟩, e1, e2⟩ := Option.bind_eq_some_iff.mp e
  refine ⟨F, ow, ρ, so, d, so1, r0, rs, e1, fun F1 H1 v r1 s1 d1 => ?_⟩
  split at e2
  · rename_i hd
    cases e2
    replace hd : d = .bool z := hd
    subst hd
    exact ⟨z, dq_bl d1, k F1 H1 r1 s1⟩
  · cases e2
theorem pdb_dIn (hu : X.A.units + 9 < cLine) (hN : X.N[i]? = some y) (hv : Vis X.env.scope y) (hb : PD X b fb) (hm : behindInMarks .In (.Name y p2) = false) (hd : (y == ("__debug__" : Str)) = false := by decide) (hcd : (y == ("__classdict__" : Str)) = false := by decide) : PDB X (.Compare b [.In] [.Name y p2] pos) (bVal (dInO false i fb)) :=
  (pt_cmpR (op_dctIn hu) hb (pe_var hN hv hd hcd) hm).imp fun σ H Q ⟨F, ow, ρ, so, z, so', r0, rs, e, k⟩ => tOf_dInO σ H _ (tOf_bool r0 rs e k)
theorem pdb_dNotIn (hu : X.A.units + 9 < cLine) (hN : X.N[i]? = some y) (hv : Vis X.env.scope y) (hb : PD X b fb) (hm : behindInMarks .NotIn (.Name y p2) = false) (hd : (y == ("__debug__" : Str)) = false := by decide) (hcd : (y == ("__classdict__" : Str)) = false := by decide) : PDB X (.Compare b [.NotIn] [.Name y p2] pos) (bVal (dInO true i fb)) :=
  (pt_cmpR (op_dctNotIn hu) hb (pe_var hN hv hd hcd) hm).imp fun σ H Q ⟨F, ow, ρ, so, z, so', r0, rs, e, k⟩ => tOf_dInO σ H _ (tOf_bool r0 rs e k)
end

/-! #### d[k] = v -/
def rDctSet (K : PySem.W.Frag) : V → V → V → Hp → (Hp → Prop) → Prop := fun o i v H Q => ∃ a b L k, o = .ref a ∧ i = .ref b ∧ H a = some (DctO L a) ∧ KeysOk K H L ∧ KeyAt K H k b ∧ L.length ≤ 1000000 ∧ Q (upd H a (DctO (putL L k b v) a))
theorem set_dct {X : Cx} (hu : X.A.units + 9 < cLine) : PSet X (rDctSet X.K) := by
  intro pins s σ H o i v ov iv u Q I ro ri rv h
  obtain ⟨a, b, L, k, rfl, rfl, hH, hk, hb, hl, q⟩ := h
  obtain rfl : ov = Value.ref a := ro
  obtain rfl : iv = Value.ref b := ri
  exact dct_set hu I hH hk hb rv hl fun s' I' => ⟨_, I', q⟩
def sDct (i : Nat) (b f : DE) : DS := fun ρ so => (f ρ so).bind fun p => (b ρ p.2).bind fun r => (dctAt i ρ r.2).bind fun q => if isKey r.1 && decide (q.2.length < LIM) then some (.nx ρ, r.2.set q.1 (.dct (dctPut q.2 r.1 p.1))) else none
theorem tOf_sDct {K : PySem.W.Frag} {p : Nat} {W : Str → Hp → Prop} {i : Nat} {b f : DE} (D : Ends) (σ : L2.St) (H : Hp) (h : tOfS K p W (sDct i b f) D σ H) : tAsg (tOf K f) (gSub (tVar i) (tOf K b) (rDctSet K)) D σ H := by
  obtain ⟨F, ow, ρ, so, fl, so', r0, rs, e, k⟩ := h
  obtain ⟨⟨x, so1⟩, e1, e⟩ := Option.bind_eq_some_iff.mp e
  obtain ⟨⟨y, so2⟩, e2, e⟩ := Option.bind_eq_some_iff.mp e
  obtain ⟨⟨j, kvs⟩, e3, e4⟩ := Option.bind_eq_some_iff.mp e
  obtain ⟨hc, e5⟩ := if_some e4
  cases e5
  rw [Bool.and_eq_true, decide_eq_true_eq] at hc
  obtain ⟨a, hv, ha, hj⟩ := dct_at rs e3
  refine ⟨F, ow, ρ, so, x, so1, r0, rs, e1, fun F1 H1 v r1 s1 d1 => ⟨_, hv, F1, ow, ρ, so1, y, so2, r1, rs.mono s1.fz, e2, fun F2 H2 u r2 s2 d2 => ?_⟩⟩
  obtain ⟨fa, L, hL, hd⟩ := own_dct r2 ha hj
  obtain ⟨k0, b0, ek, lk, rfl, qb⟩ := key_at hc.1 d2
  have hll : L.length ≤ 1000000 := by
    have := hc.2
    have l2 := hd.len
    have e0 : LIM = 5000 := rfl
    replace this : kvs.length < LIM := this
    omega
  refine ⟨a, b0, L, k0, rfl, rfl, hL, hd.keys r2.sub, keyAt_of r2.sub ek lk qb, hll, ?_⟩
  obtain ⟨p1, p2⟩ := relO_putW r2 ha hj fa (w' := .dct (dctPut kvs y x)) (o := DctO (putL L k0 b0 v) a) ⟨fa, _, upd_same, hd.put ek lk qb (dq_same s2.fz _ _ d1)⟩
  exact k F2 _ ow p1 (s1.trans (s2.trans p2)) (OwTo.refl _ _ _) σ ((rs.mono s1.fz).mono s2.fz)
theorem pds_dct {X : Cx} {pq i : Nat} {W : Str → Hp → Prop} {y : Str} {p2 p pos : Pos} {b v : Expr} {fb f : DE} (hu : X.A.units + 9 < cLine) (hN : X.N[i]? = some y) (hv : Vis X.env.scope y) (hb : PD X b fb) (he : PD X v f)
    (hs : swapsWithSole [.Subscript (.Name y p2) b p] v pos.line X.env = pure false := by rfl) (hw : swappedStores [.Subscript (.Name y p2) b p] v X.env = pure none := by rfl)
    (h1 : (assignEach [.Subscript (.Name y p2) b p] X.env).map (·.2) = [assign (.Subscript (.Name y p2) b p) X.env] := by rfl) (hx : ∀ v, assign (.Subscript (.Name y p2) b p) X.env v = (do
      let ov ← holding [v] (eval (.Name y p2) X.env)
      let iv ← holding [v, ov] (eval b X.env)
      standAt p
      holding [v, ov, iv] (setItem ov iv v)
      release [v, ov, iv] []) := by intro _; rfl) (hd : (y == ("__debug__" : Str)) = false := by decide) (hcd : (y == ("__classdict__" : Str)) = false := by decide) :
    PDS X pq W (.Assign [.Subscript (.Name y p2) b p] v pos) (sDct i fb f) := (ps_asg he (pg_sub (pe_var hN hv hd hcd) hb (set_dct hu) hx) hs hw h1).imp tOf_sDct

/-! ### new things of one's own: a dict, a list -/
abbrev DNw := Slots → Sto → Option (Own × Sto)
def wDct : DNw := fun _ so => some (.dct [], so)
def wLst (f : DL) : DNw := fun ρ so => (f ρ so).map fun p => (.lst p.1, p.2)
def tOfNw (K : PySem.W.Frag) (f : DNw) : TE := fun σ H Q => ∃ F ow ρ so w so', RelO K F H ow so ∧ RelS K F ow σ ρ ∧ f ρ so = some (w, so') ∧
  ∀ F' H' a, RelO K F' H' ow so' → Stp ow F H F' H' → H a = none → F' a = none → H' a ≠ none → OwnOk K F' H' (some a) w → Q (.ref a) H'
abbrev PDNw (X : Cx) (e : Expr) (f : DNw) : Prop := PE X e (tOfNw X.K f)
theorem pdnw_lst {X : Cx} {e : Expr} {f : DL} (h : PDN X e f) : PDNw X e (wLst f) := PE.imp h fun σ H Q ⟨F, ow, ρ, so, w, so', r0, rs, e, k⟩ => by
  obtain ⟨⟨ds, so1⟩, e1, e2⟩ := Option.map_eq_some_iff.mp e
  cases e2
  exact ⟨F, ow, ρ, so, ds, so1, r0, rs, e1, fun F1 H1 a vs r1 s1 n0 f1 h1 d1 => k F1 H1 a r1 s1 n0 f1 (by rw [h1]; exact nofun) ⟨f1, vs, h1, d1⟩⟩
theorem pdnw_dct {X : Cx} {pos : Pos} : PDNw X (.Dict [] [] pos) wDct := pe_dctNew.imp fun σ H Q ⟨F, ow, ρ, so, w, so', r0, rs, e, k⟩ => by
  cases e
  intro p np
  have sg : Stp [] F H F (upd H p (DctO [] p)) := ⟨Same.refl _, fun a o _ h => same_new np a o h, fun _ _ _ _ h => h, fun a h => live_upd h⟩
  refine k F _ p (r0.grow sg (r0.sub.trans (same_new np))) sg.some_of np (r0.sub.free np) (by rw [upd_same]; exact nofun) ⟨r0.sub.free np, [], upd_same, .nil, List.nodup_nil⟩
section
variable {K : PySem.W.Frag} {F H : Hp} {ow : Ads} {so : Sto} {σ : L2.St} {ρ : Slots}
theorem new_relW {j : Nat} {a : Addr} {w : Own} (r1 : RelO K F H ow so) (ne : ∀ (m : Nat) (b : Addr), ow[m]? = some (some b) → b ≠ a) (h1 : H a ≠ none) (d1 : OwnOk K F H (some a) w) : RelO K F H (ow.set j (some a)) (so.set j w) := by
  refine ⟨r1.sub, by rw [List.length_set, List.length_set]; exact r1.len, fun m b w hb hw => ?_, fun m n b hm hn => ?_, fun m b hb => ?_⟩
  · rcases get_set hw with ⟨rfl, rfl⟩ | ⟨nm, hw⟩
    · rcases get_set hb with ⟨_, rfl⟩ | ⟨nm, _⟩
      · exact d1
      · exact absurd rfl nm
    · rcases get_set hb with ⟨z, _⟩ | ⟨_, hb⟩
      · exact absurd z nm
      · exact r1.own m b w hb hw
  · rcases get_set hm with ⟨z1, y1⟩ | ⟨nm, hm'⟩
    · rcases get_set hn with ⟨z2, y2⟩ | ⟨nn, hn'⟩
      · rw [z1, z2]
      · exact absurd (Option.some.inj y1) (ne n b hn')
    · rcases get_set hn with ⟨z2, y2⟩ | ⟨nn, hn'⟩
      · exact absurd (Option.some.inj y2) (ne m b hm')
      · exact r1.inj m n b hm' hn'
  · rcases get_set hb with ⟨rfl, e1⟩ | ⟨nm, hb⟩
    · cases e1
      exact h1
    · exact r1.old m b hb
end
/-- a name (slot i, place k) for a new thing of one's own -/
def putW (i k : Nat) (w : Own) (ρ : Slots) (so : Sto) : Option (Slots × Sto) := if decide (k < so.length) && (ρ.set i none).all (noO k) then some (ρ.set i (some (.o k)), so.set k w) else none
theorem putW_ok {i k : Nat} {w : Own} {ρ ρ' : Slots} {so so' : Sto} (e : putW i k w ρ so = some (ρ', so')) : k < so.length ∧ (ρ.set i none).all (noO k) = true ∧ ρ' = ρ.set i (some (.o k)) ∧ so' = so.set k w := by
  obtain ⟨hc, e⟩ := if_some e
  rw [Bool.and_eq_true, decide_eq_true_eq] at hc
  cases e
  exact ⟨hc.1, hc.2, rfl, rfl⟩
/-- x = a new thing -/
def sNewW (i k : Nat) (f : DNw) : DS := fun ρ so => (f ρ so).bind fun p => (putW i k p.1 ρ p.2).map fun r => (.nx r.1, r.2)
/-- x, y = data, a new thing -/
def sParDW (i j k : Nat) (f : DE) (g : DNw) : DS := fun ρ so => (f ρ so).bind fun p => (g ρ p.2).bind fun q => (putW j k q.1 (ρ.set i (some (.d p.1))) q.2).map fun r => (.nx r.1, r.2)
/-- x, y = a new thing, data -/
def sParWD (i k j : Nat) (f : DNw) (g : DE) : DS := fun ρ so => (f ρ so).bind fun p => (g ρ p.2).bind fun q => (putW i k p.1 ρ q.2).map fun r => (.nx (r.1.set j (some (.d q.1))), r.2)
section
variable {K : PySem.W.Frag} {p : Nat} {W : Str → Hp → Prop}
theorem tOf_newW {i j : Nat} {f : DNw} (hj : p ≤ j) (D : Ends) (σ : L2.St) (H : Hp) (h : tOfS K p W (sNewW i j f) D σ H) : tAsg (tOfNw K f) (gName i) D σ H := by
  obtain ⟨F, ow, ρ, so, fl, so', r0, rs, e, k⟩ := h
  obtain ⟨⟨w, so1⟩, e1, e2⟩ := Option.bind_eq_some_iff.mp e
  obtain ⟨⟨ρ', so2⟩, e3, e4⟩ := Option.map_eq_some_iff.mp e2
  cases e4
  obtain ⟨h1, h2, h3, h4⟩ := putW_ok e3
  subst h3 h4
  refine ⟨F, ow, ρ, so, w, so1, r0, rs, e1, fun F1 H1 a r1 s1 n0 f1 l1 d1 => ?_⟩
  have lo : j < ow.length := by rw [r1.len]; exact h1
  exact k F1 H1 _ (new_relW r1 (fun m b hb e => r0.old m b hb (by rw [e]; exact n0)) l1 d1) s1 (owTo_set hj n0) _ (new_slots (rs.mono s1.fz) lo h2)
theorem tOf_parDW {i j k : Nat} {f : DE} {g : DNw} (hk : p ≤ k) (D : Ends) (σ : L2.St) (H : Hp) (h : tOfS K p W (sParDW i j k f g) D σ H) : tPar i j (tCons (tOf K f) (tCons (tOfNw K g) tNil)) D σ H := by
  obtain ⟨F, ow, ρ, so, fl, so', r0, rs, e, kk⟩ := h
  obtain ⟨⟨x, so1⟩, e1, e⟩ := Option.bind_eq_some_iff.mp e
  obtain ⟨⟨y, so2⟩, e2, e⟩ := Option.bind_eq_some_iff.mp e
  obtain ⟨⟨ρ', so3⟩, e3, e4⟩ := Option.map_eq_some_iff.mp e
  cases e4
  obtain ⟨h1, h2, h3, h4⟩ := putW_ok e3
  subst h3 h4
  refine ⟨F, ow, ρ, so, x, so1, r0, rs, e1, fun F1 H1 v r1 s1 d1 => ⟨F1, ow, ρ, so1, y, so2, r1, rs.mono s1.fz, e2, fun F2 H2 a r2 s2 n0 f2 l2 d2 => ⟨v, _, rfl, ?_⟩⟩⟩
  have lo : k < ow.length := by rw [r2.len]; exact h1
  have nH : H a = none := by
    cases q : H a with
    | none => rfl
    | some o => exact absurd n0 (s1.live a (by rw [q]; exact nofun))
  exact kk F2 H2 _ (new_relW r2 (fun m b hb e => r1.old m b hb (by rw [e]; exact n0)) l2 d2) (s1.trans s2) (owTo_set hk nH) _ (new_slots ((((rs.mono s1.fz).mono s2.fz)).set (i := i) (v := some v) (s := some (.d x)) ⟨v, rfl, dq_same s2.fz _ _ d1⟩) lo h2)
theorem OwnOk.later {F H F' H' : Hp} {ow : Ads} {a : Addr} {w : Own} (h : OwnOk K F H (some a) w) (na : some a ∉ ow) (s : Stp ow F H F' H') : OwnOk K F' H' (some a) w := by
  cases w with
  | no => trivial
  | lst ds =>
    obtain ⟨f, vs, hv, hd⟩ := h
    exact ⟨s.own a _ na hv f, vs, s.keep a _ na hv, dqAll_same s.fz ds vs hd⟩
  | dct ds =>
    obtain ⟨f, vs, hv, hd⟩ := h
    exact ⟨s.own a _ na hv f, vs, s.keep a _ na hv, dct_same s.fz hd⟩
  | fz d => exact ⟨s.live a h.1, dq_same s.fz d _ h.2⟩
theorem tOf_parWD {i j k : Nat} {f : DNw} {g : DE} (hk : p ≤ k) (D : Ends) (σ : L2.St) (H : Hp) (h : tOfS K p W (sParWD i k j f g) D σ H) : tPar i j (tCons (tOfNw K f) (tCons (tOf K g) tNil)) D σ H := by
  obtain ⟨F, ow, ρ, so, fl, so', r0, rs, e, kk⟩ := h
  obtain ⟨⟨x, so1⟩, e1, e⟩ := Option.bind_eq_some_iff.mp e
  obtain ⟨⟨y, so2⟩, e2, e⟩ := Option.bind_eq_some_iff.mp e
  obtain ⟨⟨ρ', so3⟩, e3, e4⟩ := Option.map_eq_some_iff.mp e
  cases e4
  obtain ⟨h1, h2, h3, h4⟩ := putW_ok e3
  subst h3 h4
  refine ⟨F, ow, ρ, so, x, so1, r0, rs, e1, fun F1 H1 a r1 s1 n0 f1 l1 d1 => ⟨F1, ow, ρ, so1, y, so2, r1, rs.mono s1.fz, e2, fun F2 H2 v r2 s2 d2 => ⟨_, v, rfl, ?_⟩⟩⟩
  have lo : k < ow.length := by rw [r2.len]; exact h1
  have na : some a ∉ ow := fun z => by
    obtain ⟨m, hm⟩ := List.mem_iff_getElem?.mp z
    exact r0.old m a hm n0
  refine kk F2 H2 _ (new_relW r2 (fun m b hb e => na (by rw [← e]; exact List.mem_of_getElem? hb)) (s2.live a l1) (d1.later na s2)) (s1.trans s2) (owTo_set hk n0) _ ((new_slots ((rs.mono s1.fz).mono s2.fz) lo h2).set (i := j) (v := some v) (s := some (.d y)) ⟨v, rfl, d2⟩)
end
section
variable {X : Cx} {q : Nat} {W : Str → Hp → Prop} {i j : Nat} {x y : Str} {a b : Expr} {px py pt pos : Pos} {kt k2 : Nat} {pt2 : Pos}
theorem pds_newW {k : Nat} {e : Expr} {f : DNw} (hj : q ≤ k) (hN : X.N.Nodup) (hi : X.N[i]? = some x) (hx : Loc X.env.scope x) (he : PDNw X e f) (hs : swapsWith e (some (.Name x px)) pos.line X.env = pure false := by rfl) (hf : X.fn x = true ∨ X.env.scope.names.lookup x = some .local := by first | exact .inl rfl | exact .inr rfl | assumption) :
    PDS X q W (.Assign [.Name x px] e pos) (sNewW i k f) := (ps_set hN hi hx he hs hf).imp (tOf_newW hj)
theorem pds_parDW {f : DE} {g : DNw} {k : Nat} (hk : q ≤ k) (hc : X.calm = true) (hN : X.N.Nodup) (hi : X.N[i]? = some x) (hj : X.N[j]? = some y) (hij : i ≠ j) (hx : X.env.scope.names.lookup x = some .local) (hy : X.env.scope.names.lookup y = some .local) (ha : PD X a f) (hb : PDNw X b g)
    (hw : swappedStores [.Tuple [.Name x px, .Name y py] kt pt] (.Tuple [a, b] k2 pt2) X.env = pure (some [x, y])) (hs : swapsWithSole [.Tuple [.Name x px, .Name y py] kt pt] (.Tuple [a, b] k2 pt2) pos.line X.env = pure false := by rfl)
    (s1 : starEach [a, b] X.env = (false, eval a X.env) :: starEach [b] X.env := by rfl) (s2 : starEach [b] X.env = (false, eval b X.env) :: starEach [] X.env := by rfl) :
    PDS X q W (.Assign [.Tuple [.Name x px, .Name y py] kt pt] (.Tuple [a, b] k2 pt2) pos) (sParDW i j k f g) := (ps_par hc hN hi hj hij hx hy (pa_cons ha (pa_cons hb pa_nil s2) s1) hw hs).imp (tOf_parDW hk)
theorem pds_parWD {f : DNw} {g : DE} {k : Nat} (hk : q ≤ k) (hc : X.calm = true) (hN : X.N.Nodup) (hi : X.N[i]? = some x) (hj : X.N[j]? = some y) (hij : i ≠ j) (hx : X.env.scope.names.lookup x = some .local) (hy : X.env.scope.names.lookup y = some .local) (ha : PDNw X a f) (hb : PD X b g)
    (hw : swappedStores [.Tuple [.Name x px, .Name y py] kt pt] (.Tuple [a, b] k2 pt2) X.env = pure (some [x, y])) (hs : swapsWithSole [.Tuple [.Name x px, .Name y py] kt pt] (.Tuple [a, b] k2 pt2) pos.line X.env = pure false := by rfl)
    (s1 : starEach [a, b] X.env = (false, eval a X.env) :: starEach [b] X.env := by rfl) (s2 : starEach [b] X.env = (false, eval b X.env) :: starEach [] X.env := by rfl) :
    PDS X q W (.Assign [.Tuple [.Name x px, .Name y py] kt pt] (.Tuple [a, b] k2 pt2) pos) (sParWD i k j f g) := (ps_par hc hN hi hj hij hx hy (pa_cons ha (pa_cons hb pa_nil s2) s1) hw hs).imp (tOf_parWD hk)
end
end MP
namespace RL
open PySem PySem.Spec PyProof.Rows L2

/-! ### dicts with tuple keys: made by a comprehension, their keys as a list -/
section
variable {X : Cx} {pins : List (Addr × Obj)} {σ : L2.St} {H : Hp} {s : Shared} {a b : Addr} {L : DL3} {k : NestedKey} {E : Value → Shared → Prop}
theorem dct_put {v : V} {u : Value} {Q : Unit → Shared → Prop} (hu : X.A.units + 9 < cLine) (I : Inv X pins σ H s) (hH : H a = some (DctO L a)) (hk : KeysOk X.K H L) (hb : KeyAt X.K H k b) (rv : RelV v u) (hl : L.length ≤ 1000000)
    (h : ∀ s', Inv X pins σ (upd H a (DctO (putL L k b v) a)) s' → Q () s') : wpAny (model X.prog X.w) X.A (dictSet a (.ref b) u) Q E s := by
  obtain ⟨n, xs, r, hx⟩ := dct_of I hH hk
  have lx : xs.length = L.length := by
    have := congrArg List.length (rel_keys r)
    rw [List.length_map, List.length_map] at this
    exact this.symm
  have room : (nestedKind X.prog X.w).room X.A := by show X.A.units + 8 < cLine; omega
  refine wpAny_dictSet_heap room (key_is I hb) hx (fun h' hm hs => h _ ?_) (by rw [sizeLine_eq]; omega)
  obtain ⟨o, es, ep, ho, ex, hd, he, _, _⟩ := hm
  refine I.write (x := a) (e := a) (by rw [hH]; exact True.intro) (.inl rfl) (fun c z nc hc => (hs.2 c nc).trans hc) ⟨o, ho⟩ (dct_ok ⟨n, _, o, es, ep, rel_put r k b rv, ho, ex, hd, ?_⟩)
  rw [he]
  refine map_entries fun x hx' => ?_
  have : x ∈ storedH xs k b u := hx'
  unfold storedH at this
  split at this
  · obtain ⟨y, hy, e⟩ := List.mem_map.mp this
    have e1 : x.1 = y.1 := by rw [← e]; unfold putAt; split <;> rfl
    obtain ⟨p, hp, e2, _⟩ := rel_mem r y hy
    rw [e1, ← e2]
    exact hash_at (hk.at_ p hp)
  · rcases List.mem_append.mp this with hy | hy
    · obtain ⟨p, hp, e2, _⟩ := rel_mem r x hy
      rw [← e2]
      exact hash_at (hk.at_ p hp)
    · rw [List.mem_singleton] at hy
      rw [hy]
      exact hash_at hb
end
section
variable {X : Cx}
/-- what is wanted of {k: v for target in iter if ..}: D the new dict -/
def tDcN (K : PySem.W.Frag) (wi : TI) (g : TG) (tt : TT) (tk tv : TE) (vs : List Nat) : TE := fun σ H Q => wi σ H fun J H1 => ∀ D, H1 D = none → ∃ W : Nat → Nat → Hp → Prop, (∃ m, W 0 m (upd H1 D (DctO [] D))) ∧ ∀ i m H, W i m H →
  (J.stop i H ∧ Q (.ref D) H) ∨ (J.go i H ∧ ∃ Nx : Hp → Prop, (∀ H', Nx H' → ∃ m', m' < m ∧ W (i + 1) m' H') ∧ ∀ x H', J.yld i H x H' → g x (wipe σ vs) H' fun σ2 H2 => wipe σ2 vs = wipe σ vs ∧ tt σ2 H2 fun b H3 =>
    if b = true then tk σ2 H3 fun y H4 => tv σ2 H4 fun z H5 => ∃ L k c, y = .ref c ∧ H5 D = some (DctO L D) ∧ KeysOk K H5 L ∧ KeyAt K H5 k c ∧ L.length ≤ 1000000 ∧ Nx (upd H5 D (DctO (putL L k c z) D)) else Nx H3)
theorem pe_dcN {kx vx tg iter : Expr} {ifs : List Expr} {scope : Scope} {own : List (Str × Nat)} {pos : Pos} {wi : TI} {g : TG} {tt : TT} {tk tv : TE} (hu : X.A.units + 9 < cLine) (hc : X.calm = true) (hN : X.N.Nodup) (hi : PI X tg iter wi) (ok : BlkOk X.N X.env.scope scope own)
    (hg : ∀ (s : Shared) (H : Hp) (C : Addr) (cl : List (Str × Addr)) (fp : List Addr), PG (X.blk s H scope (compEnvC scope cl C X.env) fp) tg g) (ht : ∀ (s : Shared) (H : Hp) (C : Addr) (cl : List (Str × Addr)) (fp : List Addr), PTs (X.blk s H scope (compEnvC scope cl C X.env) fp) ifs tt)
    (hk : ∀ (s : Shared) (H : Hp) (C : Addr) (cl : List (Str × Addr)) (fp : List Addr), PE (X.blk s H scope (compEnvC scope cl C X.env) fp) kx tk)
    (he : ∀ (s : Shared) (H : Hp) (C : Addr) (cl : List (Str × Addr)) (fp : List Addr), PE (X.blk s H scope (compEnvC scope cl C X.env) fp) vx tv) (hs : ∀ x, foldedSetIterable iter X.env x = pure x := by intro _; rfl) :
    PE X (.DictComp kx vx [⟨tg, iter, ifs, 0⟩] scope pos) (tDcN X.K wi g tt tk tv (own.map (·.2))) := by
  refine ⟨fun pins s σ H Q I h => ?_⟩
  rw [arm_eval_DictComp]
  have hfree : ∀ y ∈ scope.names, y.2 = .free → ∃ c, X.env.cells.lookup y.1 = some c := fun y hy e => by
    rcases ok.free y hy e with k | k
    · exact I.ok.has _ (.inl k)
    · exact I.ok.has _ (.inr k)
  refine wpAny_comprehension_free rfl hs (closure_ok hfree) ok.kind (fun y hy e => by rw [ok.uniq y hy, e])
    (thn (hi.run pins s σ H _ I h) fun xv s1 hx => thn hx fun itv s2 h2 => ?_)
  obtain ⟨it, fp, tn, J, H2, e, I2, T, st2, f2, q⟩ := h2
  subst e
  refine wpAny_newObj_type (newEnv_comp ?_)
  generalize hD : s2.heap.objs.size = D
  have hDn : H2 D = none := I2.hok.fresh (Nat.le_of_eq hD)
  obtain ⟨W, ⟨m0, w0⟩, turn⟩ := q D hDn
  generalize hs3 : ({ s2 with heap := s2.heap.push { cls := .type "dict", data := .dict #[] } } : Shared) = s3
  have I3 : Inv X pins σ (upd H2 D (DctO [] D)) s3 := by
    rw [← hs3]
    refine I2.laid (t' := s2.toks) (fun b o e => Heap.get?_push_of_some _ e) (Nat.le_of_eq hD) ?_
    rw [← hD]
    have n : (s2.heap.objs.size == sysModules) = false := beq_eq_false_iff_ne.mpr (Ne.symm (Nat.ne_of_lt I2.big))
    exact dct_ok ⟨n, [], _, #[], 0, .nil, Heap.get?_push_size _ rfl, ⟨rfl, rfl, rfl⟩, rfl, rfl⟩
  have h3 : s3.heap = s2.heap.push { cls := .type "dict", data := .dict #[] } := by rw [← hs3]
  have f3 : ∀ b ∈ fp, FpOk X pins (upd H2 D (DctO [] D)) b ∧ b < s3.heap.objs.size := fun b hb => by
    obtain ⟨o, e, _⟩ := T.obj _ _ st2 b hb
    have hlt : b < s2.heap.objs.size := Heap.lt_size e
    refine ⟨⟨?_, (f2 b hb).2⟩, by rw [h3, Heap.size_push]; exact Nat.lt_succ_of_lt hlt⟩
    rw [upd_ne (by rw [← hD]; exact Nat.ne_of_lt hlt)]
    exact (f2 b hb).1
  have st3 : tn 0 s3.heap := T.keep _ _ _ st2 fun b _ o e => by rw [h3]; exact Heap.get?_push_of_some _ e
  have I4 := block_start I3 ok hN f3
  have pg := hg s3 (upd H2 D (DctO [] D)) s3.heap.objs.size (cellsFrom (s3.heap.objs.size + 1) scope.names (cloFrom X.env.cells scope.names [])) fp
  have pt := ht s3 (upd H2 D (DctO [] D)) s3.heap.objs.size (cellsFrom (s3.heap.objs.size + 1) scope.names (cloFrom X.env.cells scope.names [])) fp
  have pk := hk s3 (upd H2 D (DctO [] D)) s3.heap.objs.size (cellsFrom (s3.heap.objs.size + 1) scope.names (cloFrom X.env.cells scope.names [])) fp
  have pe := he s3 (upd H2 D (DctO [] D)) s3.heap.objs.size (cellsFrom (s3.heap.objs.size + 1) scope.names (cloFrom X.env.cells scope.names [])) fp
  have nfp : ∀ b ∈ fp, (upd H2 D (DctO [] D)) b = none := fun b hb => (f3 b hb).1.1
  show codeAny _ _ (.compStart (.DictComp kx vx [⟨tg, iter, ifs, 0⟩] scope pos) 0 (.ref it) (.ref D) (compEnvC scope (cellsFrom (s3.heap.objs.size + 1) scope.names (cloFrom X.env.cells scope.names [])) s3.heap.objs.size X.env)) (compPost (model X.prog X.w) X.A X.xe none (EP X pins σ Q) (.ref D) s3.heap.objs.size) { s3 with heap := pushCells (s3.heap.push { cls := .type "dict", data := .dict #[] }) scope.names }
  generalize hce : compEnvC scope (cellsFrom (s3.heap.objs.size + 1) scope.names (cloFrom X.env.cells scope.names [])) s3.heap.objs.size X.env = ce at I4 pg pt pk pe ⊢
  have cL : ce.locals = s3.heap.objs.size := by subst hce; rfl
  generalize hH3 : upd H2 D (DctO [] D) = H3 at I3 I4 pg pt pk pe w0 nfp f3
  generalize hs4 : ({ s3 with heap := pushCells (s3.heap.push { cls := .type "dict", data := .dict #[] }) scope.names } : Shared) = s4 at I4 ⊢
  have st4 : tn 0 s4.heap := T.keep _ _ _ st3 fun b _ o e => by rw [← hs4]; exact pushCells_keeps _ _ _ _ (Heap.get?_push_of_some _ e)
  have stat : ∀ {σ' : L2.St} {H' : Hp} {s' : Shared}, Inv (X.blk s3 H3 scope ce fp) [] σ' H' s' → (∀ b ∈ fp, H' b = none) → ∀ b ∈ fp, FpOk (X.blk s3 H3 scope ce fp) [] H' b := fun {σ' H' s'} I' hn b hb =>
    ⟨hn b hb, (I'.ok.exf b hb).1, I'.ok.exfs b hb, .inl hb, fun x c e => (I'.ok.exf b hb).2 x c e, fun p hp => absurd (show p ∈ ([] : List (Addr × Obj)) ++ [] from hp) (by simp)⟩
  have loop : codeAny (model X.prog X.w) X.A (.compLoop (.DictComp kx vx [⟨tg, iter, ifs, 0⟩] scope pos) 0 (.ref it) (.ref D) ce) (compPost (model X.prog X.w) X.A X.xe none (EP X pins σ Q) (.ref D) s3.heap.objs.size) s4 := by
    refine compLoop_anyD (fun n s' => ∃ i H', Inv (X.blk s3 H3 scope ce fp) [] (wipe σ (own.map (·.2))) H' s' ∧ tn i s'.heap ∧ (∀ b ∈ fp, H' b = none) ∧ W i n H') ?_ m0 ⟨0, H3, I4, st4, nfp, w0⟩
    rintro n s5 ⟨i, H5, I5, st5, n5, w5⟩
    rcases turn i n H5 w5 with ⟨stop, qq⟩ | ⟨go, Nx, hNx, step⟩
    · have td := T.done (X.blk s3 H3 scope ce fp) rfl rfl rfl hc i [] s5 _ H5 (fun _ _ => False) I5 (stat I5 n5) st5 stop
      refine thnF td fun r s6 ⟨hr, I6⟩ => ?_
      subst hr
      have I7 : Inv X pins σ H5 s6 := I3.call' (ch := fp) I6.os I6.base I6.hok I6.bare fun b hb => ⟨(f3 b hb).1.2.2.2.1, (f3 b hb).1.2.1, (f3 b hb).1.2.2.2.2.1, (f3 b hb).1.2.2.2.2.2⟩
      have nC : H5 s3.heap.objs.size = none := by
        have z : H5 ce.locals = none := I6.free
        rw [cL] at z
        exact z
      obtain ⟨m, hn, _⟩ := I6.loc
      have hn : s6.heap.Ns ce.locals m := hn
      rw [cL] at hn
      refine ⟨m, hn, fun h'' sb => ?_⟩
      obtain ⟨g0, g1, g2, g3, g4, g5⟩ := I3.fpOk (Nat.le_refl _) nC
      exact ⟨.ref D, H5, I7.turned (t' := s6.toks) (fun b o hb e => (sb.2 b hb).trans e) g0 g1 g3 g4 g5, rfl, qq⟩
    · have ti := T.item (X.blk s3 H3 scope ce fp) rfl rfl rfl hc i [] s5 _ H5 (fun _ _ => False) I5 (stat I5 n5) st5 go
      refine thnF ti fun r s6 ⟨u, hr, h6⟩ => ?_
      subst hr
      refine thnF h6 fun _ s7 ⟨x, H7, I7, r7, y7, st7, n7⟩ => ?_
      have I7' := I7.pinned (stat I7 n7) (T.obj _ _ st7)
      refine thnF (pg.run _ s7 _ H7 x u _ I7' r7 (step x H7 y7)) fun _ s8 ⟨σ8, H8, I8, hw8, q8⟩ => ?_
      refine thnF (pt.run _ s8 σ8 H8 _ I8 q8) fun b s9 ⟨H9, I9, q9⟩ => ?_
      have fin : ∀ {s' : Shared} {H' : Hp}, Inv (X.blk s3 H3 scope ce fp) ([] ++ pinsAt fp s7.heap) σ8 H' s' → Nx H' → ∃ m, m < n ∧ ∃ i H', Inv (X.blk s3 H3 scope ce fp) [] (wipe σ (own.map (·.2))) H' s' ∧ tn i s'.heap ∧ (∀ b ∈ fp, H' b = none) ∧ W i m H' := fun {s' H'} I' nx => by
        obtain ⟨m', hm, w'⟩ := hNx H' nx
        have pin' : ∀ b ∈ fp, ∀ o, s7.heap.get? b = some o → s'.heap.get? b = some o ∧ H' b = none := fun b hb o e =>
          let z := I'.pin (b, o) (List.mem_append_right _ (List.mem_append_right _ (mem_pinsAt hb e)))
          ⟨z.1, z.2.1⟩
        have hl : (wipe σ (own.map (·.2))).length = σ8.length := by rw [← hw8, wipe_length]
        refine ⟨m', hm, i + 1, H', (I'.unpinned (pins := [])).weak hl (fun j v e => ?_), T.keep _ _ _ st7 fun b hb o e => (pin' b hb o e).1, fun b hb => ?_, w'⟩
        · rw [← hw8] at e
          exact (wipe_some e).1
        · obtain ⟨o, e, _⟩ := T.obj _ _ st7 b hb
          exact (pin' b hb o e).2
      cases b with
      | false =>
        simp only [Bool.false_eq_true, if_false] at q9 ⊢
        exact fin I9 q9
      | true =>
        simp only [if_true] at q9 ⊢
        refine thnF (pk.run _ s9 σ8 H9 _ I9 q9) fun z s10 ⟨yk, H10, I10, r10, q10⟩ => ?_
        refine thnF (pe.run _ s10 σ8 H10 _ I10 q10) fun z2 s11 ⟨yv, H11, I11, r11, L, k, c, ek, hD11, hk11, hb11, hz11, nx⟩ => ?_
        subst ek
        cases r10
        exact dct_put (X := X.blk s3 H3 scope ce fp) hu I11 hD11 hk11 hb11 r11 hz11 fun s12 I12 => fin I12 nx
  exact codeAny_compStart_dict loop (T.self X.A 0 _ _ _ st4 loop)
end
/-! ### list(d): its keys -/
theorem vals_at : ∀ {vs : List V} {us : List Value}, us.length = vs.length → (∀ (j : Nat) (u : Value), us[j]? = some u → ∃ v, vs[j]? = some v ∧ RelV v u) → Vals vs us
  | [], [], _, _ => .nil
  | [], _ :: _, h, _ => by simp at h
  | _ :: _, [], h, _ => by simp at h
  | v :: vs, u :: us, h, q => by
    obtain ⟨v', e, r⟩ := q 0 u rfl
    cases e
    exact .cons r (vals_at (by simpa using h) fun j w hw => by
      obtain ⟨z, e, r⟩ := q (j + 1) w (by simpa using hw)
      exact ⟨z, by simpa using e, r⟩)
theorem rel_get {L : DL3} {xs : List (NestedKey × Addr × Value)} (r : Paired RelE L xs) : ∀ (i : Nat) (x : NestedKey × Addr × Value), xs[i]? = some x → ∃ p, L[i]? = some p ∧ p.2.1 = x.2.1 := by
  induction r with
  | nil => exact fun i x h => by simp at h
  | @cons p q L xs h t ih =>
    intro i x hx
    cases i with
    | zero => cases hx; exact ⟨p, rfl, h.2.1⟩
    | succ i =>
      obtain ⟨p, e1, e2⟩ := ih i x (by simpa using hx)
      exact ⟨p, by simpa using e1, e2⟩
theorem rel_len {L : DL3} {xs : List (NestedKey × Addr × Value)} (r : Paired RelE L xs) : L.length = xs.length := by
  have := congrArg List.length (rel_keys r)
  rwa [List.length_map, List.length_map] at this
def rKeys : List V → Hp → VK → Prop := fun xs H Q => ∃ (a : Addr) (L : DL3), xs = [.ref a] ∧ H a = some (DctO L a) ∧ L.length ≤ 1000000 ∧ ∀ p, H p = none → Q (.ref p) (upd H p (.lst (L.map fun p => V.ref p.2.1)))
theorem call_listDct {X : Cx} (hcalm : X.calm = true) : CallR X (.type "list") rKeys := by
  intro pins s σ H xs us Q I r q
  obtain ⟨a, L, rfl, hd, hl, q⟩ := q
  obtain ⟨u, rfl, rx⟩ := Vals.one r
  cases rx
  obtain ⟨⟨lo, ys, o, es, ep, rel, ho, ex, hdat, he⟩, _, _⟩ := (show ObjOk X.prog X.w H s.heap a (DctO L a) from I.hok a _ hd)
  have ll := rel_len rel
  have sz : es.size = ys.length := by rw [← Array.length_toList, he, List.length_map]
  refine PySem.W.kdl_call (KdlSrc.rawDict lo) (I.ok.hd hcalm) ⟨o, ho, ex, hdat⟩ (by rw [sz, ← ll, sizeLine_eq]; omega) fun h' tk acc c' hk hD hacc => ?_
  have hv : Vals (L.map fun p => V.ref p.2.1) acc.toList := by
    refine vals_at (by rw [Array.length_toList, hacc.1, List.length_map, sz, ll]) fun j u e => ?_
    obtain ⟨hj, rfl⟩ := hacc.2 j u (by rw [← Array.getElem?_toList]; exact e)
    have hj2 : j < ys.length := by rw [← sz]; exact hj
    obtain ⟨p, e1, e2⟩ := rel_get rel j ys[j] (List.getElem?_eq_getElem hj2)
    have e3 : es[j] = numEntry ys[j] := by
      have e4 : es.toList[j]? = some (numEntry ys[j]) := by rw [he, List.getElem?_map, List.getElem?_eq_getElem hj2]; rfl
      rw [Array.getElem?_toList, Array.getElem?_eq_getElem hj] at e4
      exact Option.some.inj e4
    refine ⟨.ref p.2.1, by rw [List.getElem?_map, e1]; rfl, ?_⟩
    rw [e3, e2]
    rfl
  exact ⟨.ref s.heap.objs.size, upd H s.heap.objs.size (.lst (L.map fun p => V.ref p.2.1)), I.laid (t' := tk) hk (Nat.le_refl _)
    (show ObjOk X.prog X.w _ _ _ (.lst (L.map fun p => V.ref p.2.1)) from ⟨by rw [List.length_map, sizeLine_eq]; omega, acc.toList, c', hv, by rw [Array.toArray_toList]; exact hD⟩), rfl, q _ (I.hok.fresh (Nat.le_refl _))⟩

/-! ### min of a list of anything alike, with what stands for none -/
def rMinX (K : PySem.W.Frag) : List V → List V → Hp → VK → Prop := fun vs zs H Q => ∃ (a : Addr) (z : V) (us : List V) (ds : List PyData), vs = [V.ref a] ∧ zs = [z] ∧ SqL K H a us ∧ DpAll K H us ds ∧ PySem.W.AlikeAll ds ∧ PyData.depthAll ds ≤ 60 ∧ (ds = [] → Q z H) ∧
  ∀ (y : PyData) (ys : List PyData) (i : Nat) (v : V), ds = y :: ys → us[i]? = some v → ds[i]? = some (PySem.W.minD y ys) → Q v H
theorem cr_minX {X : Cx} (hc : X.calm = true) (hu : X.A.units + 64 < cLine) : CallRK X (.builtin "min") [Str.ofString "default"] (rMinX X.K) := by
  intro pins s σ H xs zs us ws Q I r r2 h
  obtain ⟨a, z, vs, ds, rfl, rfl, hs, hd, hal, hdp, h0, h1⟩ := h
  rw [Vals.ref1 r]
  obtain ⟨u, rfl, ru⟩ := r2.one
  obtain ⟨its, rv, hl, _⟩ := I.list hs
  obtain ⟨as, rd⟩ := Dp.readsAll I ds _ its hd rv
  refine PySem.W.min_list_default (I.ok.hd hc) hl.isList (by simpa using rd) hal (by omega) (fun e h' tk hk => ?_) fun y ys i v h' tk bs e hv rr hk => ?_
  · exact ⟨z, H, I.kept hk, ru, h0 e⟩
  · have hv2 : its[i]? = some v := by simpa using hv
    obtain ⟨bs2, q1, q2, _, _⟩ := PySem.W.readsAll_at rd i v hv2
    have q3 : Reads h' v (ds.getD i .none) bs2 := Reads.keeps hk q1
    have e2 := (Reads.unique rr _ _ q3).1
    have hi : i < vs.length := by rw [rv.length]; exact (List.getElem?_eq_some_iff.mp hv2).1
    have gv : vs[i]? = some vs[i] := List.getElem?_eq_getElem hi
    obtain ⟨w, hw, rw'⟩ := rv.get gv
    rw [hv2] at hw
    cases hw
    refine ⟨vs[i], H, I.kept hk, rw', h1 y ys i _ e gv ?_⟩
    rw [e2, List.getD_eq_getElem?_getD, List.getElem?_eq_getElem q2]
    rfl
end RL
namespace MP
open PySem PySem.Spec PyProof.Rows L2 RL

/-! ### a dict made by a comprehension -/
def dcGo (body : PyData → DK → Sto → Option (DK × Sto)) : List PyData → DK → Sto → Option (DK × Sto)
  | [], kvs, so => some (kvs, so)
  | d :: r, kvs, so => (body d kvs so).bind fun p => dcGo body r p.1 p.2
def dcBody (t : Tg) (tt : DB) (tk tv : DE) (ρ : Slots) (d : PyData) (kvs : DK) (so : Sto) : Option (DK × Sto) :=
  (putT t d ρ).bind fun ρ1 => (tt ρ1 so).bind fun b => if b.1 = true then (tk ρ1 b.2).bind fun y => (tv ρ1 y.2).bind fun z => if isKey y.1 && decide (kvs.length < LIM) then some (dctPut kvs y.1 z.1, z.2) else none else some (kvs, b.2)
def wDc (vs : List Nat) (t : Tg) (fi : DL) (tt : DB) (tk tv : DE) : DNw := fun ρ so => (fi ρ so).bind fun p => (dcGo (dcBody t tt tk tv (wipeS ρ vs)) p.1 [] p.2).map fun q => (.dct q.1, q.2)
section
variable {K : PySem.W.Frag}
structure AccD (F0 H0 F H : Hp) (ow : Ads) (so : Sto) (D : Addr) (L : DL3) (kvs : DK) : Prop where
  rel : RelO K F H ow so
  stp : Stp ow F0 H0 F H
  dct : H D = some (DctO L D)
  fre : F D = none
  all : DctAll K F L kvs
theorem AccD.step {F0 H0 F H F' H' : Hp} {ow : Ads} {so so' : Sto} {D : Addr} {L : DL3} {kvs : DK} (A : AccD (K := K) F0 H0 F H ow so D L kvs) (n : some D ∉ ow) (r : RelO K F' H' ow so') (s : Stp ow F H F' H') : AccD (K := K) F0 H0 F' H' ow so' D L kvs :=
  ⟨r, A.stp.trans s, s.keep D _ n A.dct, s.own D _ n A.dct A.fre, dct_same s.fz A.all⟩
theorem AccD.put {F0 H0 F H : Hp} {ow : Ads} {so : Sto} {D : Addr} {L : DL3} {kvs : DK} {k : NestedKey} {b : Addr} {v : V} {d x : PyData} (A : AccD (K := K) F0 H0 F H ow so D L kvs) (n : some D ∉ ow) (h0 : H0 D = none)
    (e : keyD d = some k) (l : k.depth ≤ 8) (qb : Dq K F (.ref b) d) (qv : Dq K F v x) : AccD (K := K) F0 H0 F (upd H D (DctO (putL L k b v) D)) ow so D (putL L k b v) (dctPut kvs d x) := by
  refine ⟨A.rel.out A.fre n, ⟨A.stp.fz, fun a o hn h => ?_, A.stp.own, fun a h => live_upd (A.stp.live a h)⟩, upd_same, A.fre, A.all.put e l qb qv⟩
  rw [upd_ne (ne_of_none h h0)]
  exact A.stp.keep a o hn h
theorem tOf_dc {w : Bool} {vs : List Nat} {t : Tg} {fi : DL} {tt : DB} {tk tv : DE} (hw : w = true → isTp t = true) (hv : ∀ i ∈ idT t, i ∈ vs) (σ : L2.St) (H : Hp) (Q : VK) (h : tOfNw K (wDc vs t fi tt tk tv) σ H Q) :
    tDcN K (iOf K w fi) (gOf K t) (tOfB K tt) (tOf K tk) (tOf K tv) vs σ H Q := by
  obtain ⟨F, ow, ρ, so, wn, so', r0, rs, e, k⟩ := h
  obtain ⟨⟨items, so1⟩, e1, e2⟩ := Option.bind_eq_some_iff.mp e
  obtain ⟨⟨kvsE, so2⟩, e3, e4⟩ := Option.map_eq_some_iff.mp e2
  cases e4
  refine ⟨F, ow, ρ, so, items, so1, r0, rs, e1, fun F1 H1 J G Y r1 s1 wk hG hY D nD => ?_⟩
  have nD0 : H D = none := by
    cases q : H D with
    | none => rfl
    | some o => exact absurd nD (s1.live D (by rw [q]; exact nofun))
  have nw : some D ∉ ow := fun m => by
    obtain ⟨j, hj⟩ := List.mem_iff_getElem?.mp m
    exact r1.old j D hj nD
  have fD : F1 D = none := r1.sub.free nD
  refine walk_any wk (body := fun x H' Nx => gOf K t x (L2.wipe σ vs) H' fun σ2 H2 => L2.wipe σ2 vs = L2.wipe σ vs ∧ tOfB K tt σ2 H2 fun b H3 =>
      if b = true then tOf K tk σ2 H3 fun y H4 => tOf K tv σ2 H4 fun z H5 => ∃ L k c, y = .ref c ∧ H5 D = some (DctO L D) ∧ KeysOk K H5 L ∧ KeyAt K H5 k c ∧ L.length ≤ 1000000 ∧ Nx (upd H5 D (DctO (putL L k c z) D)) else Nx H3)
    (fun i H' => ∃ F2 so_i L kvs, AccD (K := K) F1 H1 F2 H' ow so_i D L kvs ∧ RelS K F2 ow (L2.wipe σ vs) (wipeS ρ vs) ∧ dcGo (dcBody t tt tk tv (wipeS ρ vs)) (items.drop i) kvs so_i = some (kvsE, so2))
    ⟨F1, so1, [], [], ⟨r1.out fD nw, ⟨Same.refl _, fun a o _ h => by rw [upd_ne (ne_of_none h nD)]; exact h, fun _ _ _ _ h => h, fun a h => live_upd h⟩, upd_same, fD, ⟨.nil, List.nodup_nil⟩⟩, (rs.mono s1.fz).wipe vs, e3⟩
    (fun i H' _ ⟨F2, so_i, L, kvs, A, _⟩ => hG F2 H' A.stp.fz A.rel.sub) (fun i x H2 H3 hi ⟨F2, so_i, L, kvs, A, rs2, e6⟩ y => ?_) (fun H2 ⟨F2, so_i, L, kvs, A, rs2, e6⟩ => ?_)
  · obtain ⟨F3, d, hd, s3, e3', dx⟩ := hY i F2 H2 x H3 hi A.stp.fz A.rel.sub y
    rw [List.drop_eq_getElem_cons hi] at e6
    have ed : items[i] = d := by rw [List.getElem?_eq_getElem hi] at hd; exact Option.some.inj hd
    rw [ed] at e6
    obtain ⟨⟨kvs1, so3⟩, e7, e8⟩ := Option.bind_eq_some_iff.mp (show (dcBody t tt tk tv (wipeS ρ vs) d kvs so_i).bind _ = _ from e6)
    obtain ⟨ρ1, e9, e10⟩ := Option.bind_eq_some_iff.mp e7
    obtain ⟨⟨b, so4⟩, e11, e12⟩ := Option.bind_eq_some_iff.mp e10
    have A3 := A.step nw (A.rel.grow s3 e3') s3.some_of
    have ww := wipe_wipe σ vs
    refine put_okI A3.rel.sub t hw d _ ρ1 x _ _ dx (rs2.mono s3.fz) e9 fun σ2 rs3 w2 => ⟨by rw [w2 vs hv, ww], F3, ow, ρ1, so_i, b, so4, A3.rel, rs3, e11, fun F4 H4 r4 s4 => ?_⟩
    have A4 := A3.step nw r4 s4
    have rs0 : ∀ {F'}, Same F3 F' → RelS K F' ow (L2.wipe σ vs) (wipeS ρ vs) := fun h => rs2.mono (s3.fz.trans h)
    cases b with
    | false =>
      cases e12
      exact ⟨F4, _, L, _, A4, rs0 s4.fz, e8⟩
    | true =>
      obtain ⟨⟨y, so5⟩, e13, e14⟩ := Option.bind_eq_some_iff.mp e12
      obtain ⟨⟨z, so6⟩, e15, e16⟩ := Option.bind_eq_some_iff.mp e14
      obtain ⟨hc, e17⟩ := if_some e16
      cases e17
      rw [Bool.and_eq_true, decide_eq_true_eq] at hc
      refine ⟨F4, ow, ρ1, so4, y, so5, r4, rs3.mono s4.fz, e13, fun F5 H5 u r5 s5 d5 => ⟨F5, ow, ρ1, so5, z, _, r5, (rs3.mono s4.fz).mono s5.fz, e15, fun F6 H6 v r6 s6 d6 => ?_⟩⟩
      have A5 := A4.step nw r5 s5
      have A6 := A5.step nw r6 s6
      obtain ⟨k0, c0, ek, lk, rfl, qb⟩ := key_at hc.1 (dq_same s6.fz _ _ d5)
      refine ⟨L, k0, c0, rfl, A6.dct, A6.all.keys r6.sub, keyAt_of r6.sub ek lk qb, ?_, F6, _, _, _, A6.put nw nD ek lk qb d6, rs0 (s4.fz.trans (s5.fz.trans s6.fz)), e8⟩
      have l2 := A6.all.len
      have l3 : kvs.length < LIM := hc.2
      have e0 : LIM = 5000 := rfl
      omega
  · rw [List.drop_length] at e6
    cases e6
    exact k F2 H2 D A.rel (s1.trans A.stp) nD0 A.fre (fun z => by rw [A.dct] at z; cases z) ⟨A.fre, L, A.dct, A.all⟩
end
section
variable {X : Cx} {kx vx tg iter : Expr} {ifs : List Expr} {scope : Scope} {own : List (Str × Nat)} {pos : Pos} {fi : DL} {t : Tg} {tt : DB} {tk tv : DE}
theorem pdnw_dc (hu : X.A.units + 9 < cLine) (hc : X.calm = true) (hN : X.N.Nodup) (hi : PDI X tg iter fi) (ok : BlkOk X.N X.env.scope scope own) (hv : ∀ i ∈ idT t, i ∈ own.map (·.2))
    (hg : ∀ (s : Shared) (H : Hp) (C : Addr) (cl : List (Str × Addr)) (fp : List Addr), PDG (X.blk s H scope (compEnvC scope cl C X.env) fp) tg t) (ht : ∀ (s : Shared) (H : Hp) (C : Addr) (cl : List (Str × Addr)) (fp : List Addr), PDTs (X.blk s H scope (compEnvC scope cl C X.env) fp) ifs tt)
    (hk : ∀ (s : Shared) (H : Hp) (C : Addr) (cl : List (Str × Addr)) (fp : List Addr), PD (X.blk s H scope (compEnvC scope cl C X.env) fp) kx tk)
    (he : ∀ (s : Shared) (H : Hp) (C : Addr) (cl : List (Str × Addr)) (fp : List Addr), PD (X.blk s H scope (compEnvC scope cl C X.env) fp) vx tv) (hs : ∀ x, foldedSetIterable iter X.env x = pure x := by intro _; rfl)
    (hw : isTup tg = true → isTp t = true := by first | exact fun _ => rfl | exact fun h => nomatch (show false = true from h)) :
    PDNw X (.DictComp kx vx [⟨tg, iter, ifs, 0⟩] scope pos) (wDc (own.map (·.2)) t fi tt tk tv) := PE.imp (pe_dcN hu hc hN hi ok hg ht hk he hs) (tOf_dc hw hv)
end

/-! ### list(d): its keys -/
def nKeys (i : Nat) : DL := fun ρ so => (dctAt i ρ so).bind fun q => if q.2.length ≤ LIM then some (q.2.map (·.1), so) else none
theorem keys_dq {K : PySem.W.Frag} {F : Hp} {L : DL3} {kvs : DK} (h : DctAll K F L kvs) : DqAll K F (L.map fun p => V.ref p.2.1) (kvs.map (·.1)) := by
  have := h.all
  clear h
  induction this with
  | nil => exact .nil
  | cons z t ih => exact .cons z.2.2.1 ih
theorem tOf_keys {K : PySem.W.Frag} {i : Nat} (σ : L2.St) (H : Hp) (Q : VK) (h : tOfN K (nKeys i) σ H Q) : tCB rKeys (tCons (tVar i) tNil) σ H Q := by
  obtain ⟨F, ow, ρ, so, ds, so', r0, rs, e, k⟩ := h
  obtain ⟨⟨j, kvs⟩, e1, e2⟩ := Option.bind_eq_some_iff.mp e
  obtain ⟨hl, e3⟩ := if_some e2
  replace hl : kvs.length ≤ LIM := hl
  cases e3
  obtain ⟨a, hv, ha, hj⟩ := dct_at rs e1
  obtain ⟨fa, L, hL, hd⟩ := own_dct r0 ha hj
  have ll := hd.len
  have e0 : LIM = 5000 := rfl
  exact ⟨_, hv, a, L, rfl, hL, by omega, fun p np => keepN k r0 (Stp.refl _ _ _) (keys_dq hd) np⟩
theorem pdn_keys {X : Cx} {i : Nat} {y : Str} {p p2 pos : Pos} (hc : X.calm = true) (hg : Gl X "list") (hm : X.mg "list" = none) (hN : X.N[i]? = some y) (hv2 : Vis X.env.scope y)
    (hd2 : (y == ("__debug__" : Str)) = false := by decide) (hcd : (y == ("__classdict__" : Str)) = false := by decide) (he : starEach [.Name y p2] X.env = (false, eval (.Name y p2) X.env) :: starEach [] X.env := by rfl) (hpl : (backTo pos (starEach [] X.env)).any (·.1) = false := by rfl) :
    PDN X (.Call (.Name "list" p) [.Name y p2] [] pos) (nKeys i) := (pe_callTy (call_listDct hc) hg hm (by decide +kernel) (pa_cons (pe_var hN hv2 hd2 hcd) pa_nil he) (by decide) (by decide) he hpl).imp tOf_keys

/-! ### min of a list of anything alike, with what stands for none of them -/
def alikeB (ds : List PyData) : Bool := ds.all fun x => (match x with | .none => false | _ => true) && ds.all fun y => PySem.W.alike x y
theorem alikeB_all {ds : List PyData} (h : alikeB ds = true) : PySem.W.AlikeAll ds := by
  refine ⟨fun x hx y hy => ?_, fun x hx e => ?_⟩
  · have := List.all_eq_true.mp h x hx
    rw [Bool.and_eq_true] at this
    exact List.all_eq_true.mp this.2 y hy
  · subst e
    have := List.all_eq_true.mp h _ hx
    rw [Bool.and_eq_true] at this
    exact nomatch this.1
def gMinX : PyData → PyData → Option PyData
  | .list [], z => some z
  | .list (y :: ys), _ => if alikeB (y :: ys) && decide (PyData.depthAll (y :: ys) ≤ 60) then some (PySem.W.minD y ys) else none
  | _, _ => none
def eMinX (f g : DE) : DE := fun ρ so => (f ρ so).bind fun p => (g ρ p.2).bind fun q => (gMinX p.1 q.1).map fun d => (d, q.2)
theorem tOf_minX {K : PySem.W.Frag} {f g : DE} (σ : L2.St) (H : Hp) (Q : VK) (h : tOf K (eMinX f g) σ H Q) : tCKw (rMinX K) (tCons (tOf K f) tNil) (tCons (tOf K g) tNil) σ H Q := by
  obtain ⟨F, ow, ρ, so, d, so', r0, rs, e, k⟩ := h
  obtain ⟨⟨x, so1⟩, e1, e⟩ := Option.bind_eq_some_iff.mp e
  obtain ⟨⟨y, so2⟩, e2, e⟩ := Option.bind_eq_some_iff.mp e
  obtain ⟨z, e3, e⟩ := Option.map_eq_some_iff.mp e
  cases e
  refine ⟨F, ow, ρ, so, x, so1, r0, rs, e1, fun F1 H1 v1 r1 s1 d1 => ⟨F1, ow, ρ, so1, y, so2, r1, rs.mono s1.fz, e2, fun F2 H2 v2 r2 s2 d2 => ?_⟩⟩
  replace e3 : gMinX x y = some d := e3
  cases x with
  | list ds =>
    obtain ⟨a, us, rfl, ha, hus⟩ := dq_lst (dq_same s2.fz _ _ d1)
    have hp := dqAll_dp _ _ (dqAll_same r2.sub _ _ hus)
    cases ds with
    | nil =>
      cases e3
      exact ⟨a, v2, us, [], rfl, rfl, SqL.of (r2.sub _ _ ha), hp, ⟨(fun x hx => nomatch hx), (fun x hx => nomatch hx)⟩, Nat.zero_le _, fun _ => k F2 H2 v2 r2 (s1.trans s2) d2, fun y ys i v en => by cases en⟩
    | cons y ys =>
      obtain ⟨hc, rfl⟩ := if_some (show (if _ then some _ else none) = some d from e3)
      rw [Bool.and_eq_true, decide_eq_true_eq] at hc
      refine ⟨a, v2, us, y :: ys, rfl, rfl, SqL.of (r2.sub _ _ ha), hp, alikeB_all (show alikeB (y :: ys) = true from hc.1), hc.2, (fun en => by cases en), fun y' ys' i v en hv hd => ?_⟩
      cases en
      obtain ⟨d', g, q⟩ := hus.get hv
      rw [hd] at g
      cases g
      exact k F2 H2 v r2 (s1.trans s2) q
  | _ => cases e3
theorem pd_minX {X : Cx} {p pos kpos : Pos} {e e2 : Expr} {f g : DE} (hc : X.calm = true) (hu : X.A.units + 64 < cLine) (hg : Gl X "min") (hm : X.mg "min" = none) (ha : PD X e f) (hb : PD X e2 g)
    (he : backTo pos (starEach [e] X.env) = (false, eval e X.env) :: backTo pos (starEach [] X.env) := by rfl) (hpl : (backTo pos (starEach [e] X.env)).any (·.1) = false := by rfl)
    (hall : (backToKw pos (keywordEach [⟨some "default", e2, kpos⟩] X.env)).all (·.1.isSome) = true := by rfl) (hnone : (backToKw pos (keywordEach [⟨some "default", e2, kpos⟩] X.env)).any (·.1.isNone) = false := by rfl)
    (hks : (backToKw pos (keywordEach [⟨some "default", e2, kpos⟩] X.env)).filterMap (·.1) = [Str.ofString "default"] := by rfl)
    (hs : starEach [e] X.env = (false, eval e X.env) :: starEach [] X.env := by rfl) :
    PD X (.Call (.Name "min" p) [e] [⟨some "default", e2, kpos⟩] pos) (eMinX f g) :=
  (pe_callBK (cr_minX hc hu) hg hm (by decide +kernel) (pa_cons ha pa_nil hs) (pk_cons hb pk_nil) (by decide) (by decide) he hpl hall hnone hks).imp tOf_minX
end MP
namespace RL
open PySem PySem.Spec PyProof.Rows L2

/-! ### set(a tuple of tuples of ints) -/
/-- the new set -/
abbrev nuSet (w : World) : Obj := { cls := .type "set", dict := none, data := .set #[] 0 (.fresh 0 0 (!w.params.followText "set-order")) }
section
variable {P : Program} {w : World} {A : Around} {E : Value → Shared → Prop} {s : Shared}
theorem set_tupsT {l : Addr} {arr : Array Value} (kk : List (Addr × List Int)) {Q : Value → Shared → Prop} (hh : A.handled = none) (ht : s.heap.IsTuple l arr) (ha : arr.toList = kk.map fun q => Value.ref q.1)
    (hT : ∀ q ∈ kk, IsT P w s.heap q.2 q.1) (few : kk.length < 64) (hu : A.units + 3 < cLine)
    (fin : ∀ (g : Heap) (tk : Nat) L es ep t, SetTR P w g s.heap.objs.size L es ep t → Got kk kk.length L → (∀ c o, s.heap.get? c = some o → g.get? c = some o) → Q (.ref s.heap.objs.size) { s with heap := g, toks := tk }) :
    wpAny (model P w) A (call (.type "set") [.ref l]) Q E s := by
  have sz : arr.size = kk.length := by
    have e := congrArg List.length ha
    rwa [Array.length_toList, List.length_map] at e
  obtain ⟨c, tl, hmro⟩ := F.called_set.mro
  have m1 := F.called_set.made
  have m2 := F.called_set.sub
  refine wpAny_call (codeAny_of_tree ?_)
  show wpAny _ _ (callAny (.type "set") _) _ _ _
  refine wpAny_pure ⟨Code.quiet_builtin _ (by decide +kernel), codeAny_builtin F.entry_type_call ?_⟩
  rw [Around.under_plain (weight_type_call_type "set" [.ref l] []) rfl]
  have m3 := F.called_set.notType
  have m4 := F.called_set.canCreate
  have m5 := F.typeCall_set_1 (.ref l)
  repeat (any_goals (first | assumption | wp_step))
  refine codeAny_mono (code_set_led1 (.ref l) (E := E) (Q₁ := fun obj s1 => obj = .ref s.heap.objs.size ∧ s1 = { s with heap := s.heap.push (nuSet w) }) ⟨rfl, rfl⟩) fun r s1 hr => ?_
  cases r with
  | error e => exact hr
  | ok fl =>
    cases fl with
    | ret obj =>
      obtain ⟨rfl, rfl⟩ := hr
      have hS : (s.heap.push (nuSet w)).get? s.heap.objs.size = some (nuSet w) := Heap.get?_push_size _ rfl
      have hTy : Shared.TypeIs { s with heap := s.heap.push (nuSet w) } (.ref s.heap.objs.size) "set" := ⟨_, hS, rfl⟩
      have m6 := F.called_set.init.lookup
      have m7 := F.called_set.init.bind (.ref s.heap.objs.size)
      repeat (any_goals (first | assumption | wp_step))
      refine codeAny_mono (codeAny_call_builtin (R := wants (fun r s2 => r = .none ∧ ∃ g tk L es ep t, s2 = { s with heap := g, toks := tk } ∧ SetTR P w g s.heap.objs.size L es ep t ∧ Got kk kk.length L ∧
          (∀ c o, s.heap.get? c = some o → g.get? c = some o)) E) F.called_set.init.plain F.entry_set_init (check_set_init_1 hTy ?_)) fun r2 s2 hr2 => ?_
      · obtain ⟨ol, hol, hcl, nl, hdl⟩ := id ht
        obtain ⟨ocls, odict, odata, oslots⟩ := ol
        simp only at hcl hdl
        subst hcl
        subst hdl
        have hol2 : (s.heap.push (nuSet w)).get? l = some { cls := .type "tuple", dict := odict, data := .seq arr nl, slots := oslots } := Heap.get?_push_of_some _ hol
        have f1 := F.sub_tuple_set
        have f2 := F.sub_tuple_frozenset
        have f3 : (Value.type "tuple" == Value.type "dict") = false := by decide
        have ht1 : (s.heap.push (nuSet w)).IsTuple l arr := ⟨_, hol2, rfl, nl, rfl⟩
        unfold Builtin.«set.__init__» noKeywords Builtin.Frozenset.updateFrom
        generalize hPI : pyIter = PI
        wp_walk
        subst hPI
        refine wpAny_pyIter_tuple ht1 ?_
        refine wpAny_bind (wpAny_runValue ?_)
        have hl0 : l < s.heap.objs.size := Heap.lt_size hol
        have hh3 : A.in1.in1.in1.handled = none := by simp [hh]
        have n1 : (s.heap.push (nuSet w)).objs.size = s.heap.objs.size + 1 := Heap.size_push ..
        have ne1 : l ≠ (s.heap.push (nuSet w)).objs.size := by
          rw [n1]
          exact Nat.ne_of_lt (Nat.lt_succ_of_lt hl0)
        have ne2 : s.heap.objs.size ∉ [(s.heap.push (nuSet w)).objs.size, l] := by
          rw [n1]
          simp only [List.mem_cons, List.not_mem_nil, or_false, not_or]
          exact ⟨Nat.ne_of_lt (Nat.lt_succ_self _), Nat.ne_of_gt hl0⟩
        have hval : ∀ (i : Nat) (v : Value), arr[i]? = some v → ∃ q, kk[i]? = some q ∧ v = .ref q.1 := fun i v hv => by
          have e : (kk.map fun q => Value.ref q.1)[i]? = some v := by rw [← ha, Array.getElem?_toList]; exact hv
          rw [List.getElem?_map] at e
          obtain ⟨q, e1, e2⟩ := Option.map_eq_some_iff.mp e
          exact ⟨q, e1, e2.symm⟩
        have free : ∀ c, s.heap.objs.size ≤ c → s.heap.get? c = none := fun c hc => by
          cases q : s.heap.get? c with
          | none => rfl
          | some o => exact absurd (Heap.lt_size q) (Nat.not_lt.mpr hc)
        refine set_update_tups ((Walks.tuple hh3 _ l ne1 arr).toS) s.heap.objs.size ne2 kk sz few hval s.heap hT (free _ (Nat.le_refl _)) (fun c hc => free c ?hw) hu (arr.size - 0) 0 _ (by omega) (Nat.zero_le _) ⟨⟨_, Heap.get?_push_size _ rfl, rfl, rfl⟩, ht1.push _⟩
          (fun c o e => Heap.get?_push_of_some _ (Heap.get?_push_of_some _ e)) ?hS0 ?hR
        case hw =>
          rw [List.mem_singleton.mp hc, n1]
          exact Nat.le_succ _
        case hS0 => exact ⟨[], #[], 0, _, setTR_fresh (Heap.get?_push_of_some _ hS), Got.zero kk⟩
        case hR =>
          intro s3 L es ep t hm hS3 got hk3
          obtain ⟨g, g2, d2, tk2, os2⟩ := s3
          have eg : g2 = s.gens := hm.gens
          have ed : d2 = s.drawn := hm.drawn
          have eo : os2 = s.os := hm.os
          subst eg
          subst ed
          subst eo
          show wpAny _ _ _ _ _ _
          refine wpAny_pure ?_
          show wpAny _ _ (PySem.ret Value.none) _ _ _
          rw [sz] at got
          exact wpAny_pure ⟨rfl, g, tk2, L, es, ep, t, rfl, hS3, got, hk3⟩
      · cases r2 with
        | error e => exact hr2
        | ok fl2 =>
          cases fl2 with
          | ret r =>
            obtain ⟨rfl, g, tk, L, es, ep, t, rfl, hS3, got, hk3⟩ := hr2
            repeat (any_goals (first | assumption | wp_step))
            exact fin _ _ _ _ _ _ hS3 got hk3
          | _ => exact hr2.elim
    | _ => exact hr.elim
end
def rSetOfTT (K : PySem.W.Frag) (P : Program) (w : World) : List V → Hp → VK → Prop := fun xs H Q => ∃ (l : Addr) (kk : List (Addr × List Int)), xs = [V.ref l] ∧ (SqL K H l (kk.map fun q => V.ref q.1) ∨ SqT K H l (kk.map fun q => V.ref q.1)) ∧ (∀ q ∈ kk, SqT K H q.1 (q.2.map V.int)) ∧ kk.length < 64 ∧
  ∀ a L, H a = none → (∀ q ∈ L, q ∈ kk) → (∀ q ∈ kk, q.2 ∈ L.map (·.2)) → Q (.ref a) (upd H a (SetTO P w a L))
theorem cr_setOfTT {X : Cx} (hc : X.calm = true) (hu : X.A.units + 64 < cLine) : CallR X (.type "set") (rSetOfTT X.K X.prog X.w) := by
  intro pins s σ H xs us Q I r h
  obtain ⟨l, kk, rfl, hs, hT, few, q⟩ := h
  rcases hs with hs | hs
  · exact cr_setOfT hc hu pins s σ H _ us Q I r ⟨l, kk, rfl, hs, hT, few, q⟩
  · rw [Vals.ref1 r]
    obtain ⟨its, rv, pl, _⟩ := I.tuple hs
    refine set_tupsT (P := X.prog) (w := X.w) kk (I.ok.hd hc) pl (by simpa using refs_of_vals rv) (fun p hp => I.isT (hT p hp)) few (by omega) fun g tk L es ep t R got k => ?_
    refine ⟨.ref s.heap.objs.size, _, I.laid (t' := tk) k (Nat.le_refl _) (setTO_new R.t0), rfl, q _ L (I.hok.fresh (Nat.le_refl _)) (fun p hp => List.mem_of_mem_take (got.sub p hp)) fun p hp => ?_⟩
    exact got.all p (by rw [List.take_length]; exact hp)
end RL
namespace MP
open PySem PySem.Spec PyProof.Rows L2 RL

/-! ### sorted(set(a list or a tuple of tuples of small numbers)) -/
def nST (f : DE) : DL := fun ρ so => (f ρ so).bind fun p => (seqOf p.1).bind fun ds => (keysOf ds).bind fun ks => if keysOk ks = true then some ((sortK ks).map tupI, p.2) else none
theorem tOf_nST {X : Cx} {f : DE} (σ : L2.St) (H : Hp) (Q : VK) (h : tOfN X.K (nST f) σ H Q) : tCB (rSortedT X.K X.prog X.w) (tCons (tCB (rSetOfTT X.K X.prog X.w) (tCons (tOf X.K f) tNil)) tNil) σ H Q := by
  obtain ⟨F, ow, ρ, so, ds, so', r0, rs, e, k⟩ := h
  obtain ⟨⟨d, so1⟩, e1, e2⟩ := Option.bind_eq_some_iff.mp e
  obtain ⟨es, e0, e2⟩ := Option.bind_eq_some_iff.mp e2
  refine ⟨F, ow, ρ, so, d, so1, r0, rs, e1, fun F1 H1 v r1 s1 d1 => ?_⟩
  obtain ⟨ks, e3, e4⟩ := Option.bind_eq_some_iff.mp e2
  obtain ⟨hok, e5⟩ := if_some e4
  cases e5
  obtain ⟨hlen, hd1, hall⟩ := keysOk_all hok
  obtain ⟨a, us, rfl, ha, hus⟩ := dq_seq d1 e0
  obtain ⟨L, rfl, eL, hL⟩ := keys_at hus e3
  have lL : L.length < 64 := by rw [← eL, List.length_map] at hlen; exact hlen
  have hsrc : SqL X.K H1 a (L.map fun p => V.ref p.1) ∨ SqT X.K H1 a (L.map fun p => V.ref p.1) := by
    rcases ha with ⟨ha, _⟩ | ⟨ha, _⟩
    · exact .inl (SqL.of (r1.sub _ _ ha))
    · exact .inr ((ha.sq r1.sub))
  refine ⟨a, L, rfl, hsrc, fun p hp => ((hL p hp).sq r1.sub), lL, fun b M nb hM1 hM2 => ?_⟩
  have kOk : ∀ p ∈ L, KeyOk (ks.headD [0]).length p.2 := fun p hp => hall p.2 (by rw [← eL]; exact List.mem_map.mpr ⟨p, hp, rfl⟩)
  have sS : Same H1 (upd H1 b (SetTO X.prog X.w b M)) := same_new nb
  refine ⟨b, M, (ks.headD [0]).length, 64, rfl, upd_same, fun p hp => ((hL p (hM1 p hp)).sq (r1.sub.trans sS)), hd1, fun p hp => kOk p (hM1 p hp), fun L' c pm nd _ pw nc => ?_⟩
  have sg : Stp [] F1 H1 F1 (upd H1 b (SetTO X.prog X.w b M)) := ⟨Same.refl _, fun a o _ h => same_new nb a o h, fun _ _ _ _ h => h, fun a h => live_upd h⟩
  have mL' : ∀ p ∈ L', p ∈ L := fun p hp => hM1 p (pm.mem_iff.mp hp)
  have eS : L'.map (·.2) = sortK ks := by
    obtain ⟨m1, m2⟩ := mem_sortK hall
    refine sorted_one _ _ ?_ m2 fun y => ?_
    · have pl : (L'.map (·.2)).Pairwise (fun q r => cd64 q ≤ cd64 r) := List.pairwise_map.mpr pw
      have both := pl.and (List.nodup_iff_pairwise_ne.mp nd)
      refine both.imp_of_mem fun {q r} hq hr z => ?_
      obtain ⟨p, hp, rfl⟩ := List.mem_map.mp hq
      obtain ⟨p2, hp2, rfl⟩ := List.mem_map.mp hr
      rcases Int.lt_or_eq_of_le z.1 with g | g
      · exact g
      · exact absurd (cd_inj (kOk p (mL' p hp)) (kOk p2 (mL' p2 hp2)) g) z.2
    · rw [m1 y, ← eL]
      constructor
      · intro hy
        obtain ⟨p, hp, rfl⟩ := List.mem_map.mp hy
        exact List.mem_map.mpr ⟨p, mL' p hp, rfl⟩
      · intro hy
        obtain ⟨p, hp, rfl⟩ := List.mem_map.mp hy
        obtain ⟨p2, hp2, e6⟩ := List.mem_map.mp (hM2 p hp)
        exact List.mem_map.mpr ⟨p2, pm.mem_iff.mpr hp2, e6⟩
  have dq : DqAll X.K F1 (L'.map fun q => V.ref q.1) ((sortK ks).map tupI) := by
    rw [← eS]
    exact dq_keys fun p hp => hL p (mL' p hp)
  exact keepN k (r1.grow sg (r1.sub.trans sS)) (s1.trans sg.some_of) dq nc
theorem pdn_st {X : Cx} {p p2 pos pos2 : Pos} {e : Expr} {f : DE} (hc : X.calm = true) (hu : X.A.units + 64 < cLine) (hg : Gl X "sorted") (hm : X.mg "sorted" = none) (hg2 : Gl X "set") (hm2 : X.mg "set" = none) (ha : PD X e f)
    (hs : starEach [e] X.env = (false, eval e X.env) :: starEach [] X.env := by rfl) (hs2 : starEach [.Call (.Name "set" p2) [e] [] pos2] X.env = (false, eval (.Call (.Name "set" p2) [e] [] pos2) X.env) :: starEach [] X.env := by rfl) :
    PDN X (.Call (.Name "sorted" p) [.Call (.Name "set" p2) [e] [] pos2] [] pos) (nST f) :=
  (pe_callB (cr_sortedT hc) hg hm (by decide +kernel) (pa_cons (pe_callTy (cr_setOfTT hc hu) hg2 hm2 (by decide +kernel) (pa_cons ha pa_nil hs) (by decide) (by decide) hs rfl) pa_nil hs2) (by decide) (by decide) hs2 rfl).imp tOf_nST
end MP
namespace MP
open PySem PySem.Spec PyProof.Rows L2 RL

/-! ### a thing of one's own as the last argument -/
def isThing : Own → Bool
  | .lst _ => true
  | .dct _ => true
  | _ => false
def thingAt (i : Nat) (ρ : Slots) (so : Sto) : Option (Nat × Own) := match ρ[i]? with
  | some (some (.o k)) => match so[k]? with
    | some w => if isThing w then some (k, w) else none
    | none => none
  | _ => none
def putBack (k : Nat) (so : Sto) (r : PyData × Sto) : Option (PyData × Sto) := match r.2 with
  | [w'] => some (r.1, so.set k w')
  | _ => none
def fCallL (G : FD) (i : Nat) (g : DL) : DE := fun ρ so => (g ρ so).bind fun p => (thingAt i ρ p.2).bind fun q => (G (p.1.map .d ++ [.o 0]) [q.2]).bind fun r => putBack q.1 p.2 r
def tOfL (K : PySem.W.Frag) (i : Nat) (g : DL) : TA := fun σ H Q => ∃ F ow ρ so ds so' k, RelO K F H ow so ∧ RelS K F ow σ ρ ∧ ρ[i]? = some (some (.o k)) ∧ g ρ so = some (ds, so') ∧
  ∀ F' H' vs a, RelO K F' H' ow so' → Stp ow F H F' H' → DqAll K F' vs ds → ow[k]? = some (some a) → Q (vs ++ [.ref a]) H'
abbrev PDL (X : Cx) (i : Nat) (es : List Expr) (f : DL) : Prop := PA X es (tOfL X.K i f)
section
variable {X : Cx} {i : Nat} {y : Str} {p2 : Pos} {e : Expr} {es : List Expr} {f : DE} {g : DL}
theorem pdl_var (hN : X.N[i]? = some y) (hv : Vis X.env.scope y) (hd : (y == ("__debug__" : Str)) = false := by decide) (hcd : (y == ("__classdict__" : Str)) = false := by decide) (he : starEach [.Name y p2] X.env = (false, eval (.Name y p2) X.env) :: starEach [] X.env := by rfl) : PDL X i [.Name y p2] aNil :=
  (pa_cons (pe_var hN hv hd hcd) pa_nil he).imp fun σ H Q ⟨F, ow, ρ, so, ds, so', k, r0, rs, hi, e, kk⟩ => by
    cases e
    obtain ⟨v, hv, a, ha, rfl⟩ := rs.get hi
    exact ⟨_, hv, kk F H [] a r0 (Stp.refl _ _ _) .nil ha⟩
theorem pdl_cons (ha : PD X e f) (hr : PDL X i es g) (hs : starEach (e :: es) X.env = (false, eval e X.env) :: starEach es X.env := by rfl) : PDL X i (e :: es) (aCons f g) :=
  (pa_cons ha hr hs).imp fun σ H Q ⟨F, ow, ρ, so, ds, so', k, r0, rs, hi, e, kk⟩ => by
    obtain ⟨⟨x, so1⟩, e1, e⟩ := Option.bind_eq_some_iff.mp e
    obtain ⟨⟨xs, so2⟩, e2, e⟩ := Option.bind_eq_some_iff.mp e
    cases e
    exact ⟨F, ow, ρ, so, x, so1, r0, rs, e1, fun F1 H1 v1 r1 s1 d1 => ⟨F1, ow, ρ, so1, xs, so2, k, r1, rs.mono s1.fz, hi, e2, fun F2 H2 vs a r2 s2 d2 ha => kk F2 H2 _ a r2 (s1.trans s2) (.cons (dq_same s2.fz x v1 d1) d2) ha⟩⟩
end
section
variable {K : PySem.W.Frag}
theorem relS_snoc {F : Hp} {ow : Ads} {v : V} {s : Sl} {σ : L2.St} {ρ : Slots} (r : RelS K F ow σ ρ) (h : SvOk K F ow v s) : RelS K F ow (σ ++ [some v]) (ρ ++ [some s]) := by
  refine ⟨by rw [List.length_append, List.length_append, r.len]; rfl, fun i a b ha hb => ?_⟩
  by_cases c : i < σ.length
  · rw [List.getElem?_append_left c] at ha
    rw [List.getElem?_append_left (by rw [← r.len]; exact c)] at hb
    exact r.ats i a b ha hb
  · rw [List.getElem?_append_right (by omega)] at ha
    rw [List.getElem?_append_right (by rw [← r.len]; omega), ← r.len] at hb
    cases z : i - σ.length with
    | zero =>
      rw [z] at ha hb
      cases ha
      cases hb
      exact ⟨v, rfl, h⟩
    | succ n =>
      rw [z] at ha
      simp at ha
theorem tOf_callL {G : FD} {n i : Nat} {g : DL} {E : XK} (σ : L2.St) (H : Hp) (Q : VK) (h : tOf K (fCallL G i g) σ H Q) (hn : ∀ ρ so p, g ρ so = some p → p.1.length + 1 = n) : tCall (spF K n G) [] E (tOfL K i g) σ H Q := by
  obtain ⟨F, ow, ρ, so, d, so', r0, rs, e, k⟩ := h
  obtain ⟨⟨ds, so1⟩, e1, e⟩ := Option.bind_eq_some_iff.mp e
  obtain ⟨⟨j, w⟩, e2, e⟩ := Option.bind_eq_some_iff.mp e
  obtain ⟨⟨x, so2⟩, e3, e4⟩ := Option.bind_eq_some_iff.mp e
  obtain ⟨hi, hw⟩ : ρ[i]? = some (some (.o j)) ∧ so1[j]? = some w := by
    unfold thingAt at e2
    split at e2
    · rename_i m hm
      split at e2
      · rename_i w' hw
        obtain ⟨_, e5⟩ := if_some e2
        cases e5
        exact ⟨hm, hw⟩
      · cases e2
    · cases e2
  refine ⟨F, ow, ρ, so, ds, so1, j, r0, rs, hi, e1, fun F1 H1 vs a r1 s1 d1 ha => ?_⟩
  simp only [List.append_nil]
  refine ⟨by rw [List.length_append, d1.len]; exact hn _ _ _ e1, F1, [some a], [w], ds.map .d ++ [.o 0], x, so2, r1.one ha hw, ?_, e3, fun F2 H2 v r2 s2 d2 => ?_⟩
  · rw [List.map_append, List.map_append]
    exact relS_snoc (relS_args d1) ⟨a, rfl, rfl⟩
  · unfold putBack at e4
    split at e4
    · rename_i w' hw'
      replace hw' : so2 = [w'] := hw'
      subst hw'
      cases e4
      obtain ⟨b1, b2⟩ := r1.back ha hw r2 s2
      exact k F2 H2 v b1 (s1.trans b2) d2
    · cases e4
end
section
variable {X : Cx} {k j n i : Nat} {x : Str} {G : FD} {p pos : Pos} {e : Expr} {es : List Expr} {g : DL}
theorem pd_callL (c : C8.Cal X.prog X.w X.K X.mg X.base k x (spF X.K n G) []) (hr : Room j X.A) (hk : k ≤ j) (hg : Gl X x) (ha : PDL X i (e :: es) g) (hn : ∀ ρ so p, g ρ so = some p → p.1.length + 1 = n)
    (hdb : (x == ("__debug__" : Str)) = false := by decide) (he : starEach (e :: es) X.env = (false, eval e X.env) :: starEach es X.env := by rfl) (hpl : (backTo pos (starEach es X.env)).any (·.1) = false := by rfl) :
    PD X (.Call (.Name x p) (e :: es) [] pos) (fCallL G i g) := (C8.pe_c c hr hk hg ha hdb he hpl).imp fun σ H Q h => tOf_callL σ H Q h hn
end

/-! ### defs that hand back a dict of their own -/
abbrev DSW := Slots → Sto → Option (Own × Sto)
def wRet (i : Nat) : DSW := fun ρ so => match ρ[i]? with
  | some (some (.o k)) => match so[k]? with
    | some (.dct kvs) => some (.dct kvs, so)
    | _ => none
  | _ => none
def wSeq (f : DS) (g : DSW) : DSW := fun ρ so => (f ρ so).bind fun q => match q.1 with
  | .nx ρ1 => g ρ1 q.2
  | _ => none
def tOfSW (K : PySem.W.Frag) (f : DSW) : TS := fun D σ H => ∃ F ow ρ so w so', RelO K F H ow so ∧ RelS K F ow σ ρ ∧ f ρ so = some (w, so') ∧
  ∀ F' H' ow' a, RelO K F' H' ow' so' → Stp ow F H F' H' → OwTo 0 ow H ow' → (∃ k : Nat, ow'[k]? = some (some a)) → OwnOk K F' H' (some a) w → D.rt (.ref a) H'
abbrev PDSW (X : Cx) (st : List Stmt) (f : DSW) : Prop := PSs X st (tOfSW X.K f)
section
variable {X : Cx} {i : Nat} {y : Str} {p2 pos : Pos} {st : Stmt} {rest : List Stmt} {f : DS} {g : DSW} {W : Str → Hp → Prop}
theorem pdsw_ret (hN : X.N[i]? = some y) (hv : Vis X.env.scope y) (hd : (y == ("__debug__" : Str)) = false := by decide) (hcd : (y == ("__classdict__" : Str)) = false := by decide) : PDSW X [.Return (some (.Name y p2)) pos] (wRet i) :=
  (pss_one (ps_ret (pe_var hN hv hd hcd))).imp fun D σ H ⟨F, ow, ρ, so, w, so', r0, rs, e, kk⟩ => by
    unfold wRet at e
    split at e
    · rename_i k hk
      split at e
      · rename_i kvs hs
        cases e
        obtain ⟨v, hv, a, ha, rfl⟩ := rs.get hk
        exact ⟨_, hv, kk F H ow a r0 (Stp.refl _ _ _) (OwTo.refl _ _ _) ⟨k, ha⟩ (r0.own k _ _ ha hs)⟩
      · cases e
    · cases e
theorem pdsw_cons (h1 : PDS X 0 W st f) (h2 : PDSW X rest g) : PDSW X (st :: rest) (wSeq f g) :=
  (pss_cons h1 h2).imp fun D σ H ⟨F, ow, ρ, so, w, so', r0, rs, e, kk⟩ => by
    obtain ⟨⟨fl1, so1⟩, e1, e2⟩ := Option.bind_eq_some_iff.mp e
    refine ⟨F, ow, ρ, so, fl1, so1, r0, rs, e1, fun F1 H1 ow1 r1 s1 t1 => ?_⟩
    cases fl1 with
    | nx ρ1 => exact fun σ1 rs1 => ⟨F1, ow1, ρ1, so1, w, so', r1, rs1, e2, fun F2 H2 ow2 a r2 s2 t2 => kk F2 H2 ow2 a r2 (s1.next t1 s2) (OwTo.trans s1 t1 t2)⟩
    | _ => cases e2
end
abbrev FDW := List Sl → Option DK
/-- n parameters, m names, q things of its own -/
def fDefW (n m q : Nat) (f : DSW) : FDW := fun as => if as.length = n then
    (f (as.map some ++ List.replicate (m - n) none) (List.replicate q .no)).bind fun r => match r.1 with
      | .dct kvs => some kvs
      | _ => none
  else none
def spFW (K : PySem.W.Frag) (n : Nat) (G : FDW) : Sp := fun vs H Q _ => vs.length = n ∧ ∃ F as kvs, Same F H ∧ RelS K F [] (vs.map some) (as.map some) ∧ G as = some kvs ∧
  ∀ F' H' a, Same F' H' → Stp [] F H F' H' → H a = none → F' a = none → H' a ≠ none → OwnOk K F' H' (some a) (.dct kvs) → Q (.ref a) H'
section
variable {K : PySem.W.Frag}
theorem body_ofW {N : List Str} {n q : Nat} {f : DSW} (vs : List V) (H : Hp) (Q : VK) (E : XK) (h : spFW K n (fDefW n N.length q f) vs H Q E) : tOfSW K f { nx := fun _ H' => Q .non H', rt := Q } (L2.start N vs) H := by
  obtain ⟨hn, F, as, kvs, r0, rs, e, k⟩ := h
  have la : vs.length = as.length := by have := rs.len; simpa using this
  have e : (if as.length = n then _ else none) = some kvs := e
  by_cases hc : as.length = n
  · rw [if_pos hc] at e
    obtain ⟨⟨w, so1⟩, e1, e2⟩ := Option.bind_eq_some_iff.mp e
    have get1 : ∀ {m : Nat} {a : Addr}, (List.replicate q (none : Option Addr))[m]? = some (some a) → False := fun {m a} h => by
      rw [List.getElem?_replicate] at h
      split at h <;> cases h
    have r1 : RelO K F H (List.replicate q none) (List.replicate q .no) := by
      refine ⟨r0, by rw [List.length_replicate, List.length_replicate], fun m a w ha hw => ?_, fun i j a hi hj => (get1 hi).elim, fun m a ha => (get1 ha).elim⟩
      rw [List.getElem?_replicate] at hw
      split at hw
      · cases hw
        cases a <;> trivial
      · cases hw
    have rs1 : RelS K F (List.replicate q none) (L2.start N vs) (as.map some ++ List.replicate (N.length - n) none) := by
      refine ⟨?_, fun i v s hv hs => ?_⟩
      · unfold L2.start
        rw [List.length_append, List.length_append, List.length_map, List.length_map, List.length_replicate, List.length_replicate, la, hc]
      · unfold L2.start at hv
        by_cases hi : i < as.length
        · rw [List.getElem?_append_left (by rw [List.length_map]; omega)] at hv hs
          have q := rs.ats i v s hv hs
          cases s with
          | none => trivial
          | some s =>
            obtain ⟨u, hu, q⟩ := q
            refine ⟨u, hu, ?_⟩
            cases s with
            | d x => exact q
            | s ns => exact q
            | o j =>
              obtain ⟨a, ha, e⟩ := q
              simp at ha
        · rw [List.getElem?_append_right (by rw [List.length_map]; omega), List.getElem?_replicate] at hs
          split at hs
          · cases hs; trivial
          · cases hs
    refine ⟨F, _, _, _, w, so1, r1, rs1, e1, fun F' H' ow' a r' s' t' ⟨m, hm⟩ ha => ?_⟩
    have n0 : H a = none := by
      rcases t'.mem (List.mem_of_getElem? hm) with z | z
      · exact ((get1 (List.mem_iff_getElem?.mp z).choose_spec)).elim
      · exact z
    split at e2
    · rename_i kv hk
      cases e2
      replace hk : w = .dct kvs := hk
      subst hk
      have l := ha
      obtain ⟨fa, L, hL, _⟩ := l
      exact k F' H' a r'.sub ⟨s'.fz, fun b o _ h => s'.keep b o (fun z => (get1 (List.mem_iff_getElem?.mp z).choose_spec).elim) h, fun b o _ h => s'.own b o (fun z => (get1 (List.mem_iff_getElem?.mp z).choose_spec).elim) h, s'.live⟩ n0 fa (by rw [hL]; exact nofun) ha
    · cases e2
  · rw [if_neg hc] at e
    exact nomatch e
end
section
variable {P : Program} {w : World} {K : PySem.W.Frag} {mg : Str → Option Value} {base : Heap} {x : Str} {st : Stmt} {N ps : List Str} {k n q : Nat} {f : DSW}
theorem mk_calW (D : Df K mg x st) (S : FnScope N ps (defScope st)) (hn : ps.length = n)
    (hb : ∀ (kV doc pm : Value) (an : Option Addr) (cdv ct : Value) (us : List Value), us.length = ps.length → bindArgs (PySem.W.fnOf x x (defArgs st) (defBody st) (defScope st) .none kV doc pm an cdv ct) ⟨us, []⟩ = pure (ps.zip us))
    (h : ∀ (f0 : Addr) (cdv : Value) (A : Around) (outer : List Env) (s : Shared) (H : Hp) (E : XK), Room k (A.deeper (envOfC x (defScope st) s.heap.objs.size f0 cdv)) → PDSW (cxOf CX0 P w K mg base N x (defScope st) f0 cdv A outer s H E).nox (defBody st) f) :
    C8.Cal P w K mg base (k + 1) x (spFW K n (fDefW n N.length q f)) [] :=
  D.cal S hb (fun vs H Q E h => by rw [hn]; exact h.1) fun f0 cdv A outer s H vs Q E hr hsp => ⟨_, h f0 cdv A outer s H E hr, body_ofW vs H Q E hsp⟩
end
/-- x = f(..), f hands back a dict of its own -/
def wCall (G : FDW) (g : DL) : DNw := fun ρ so => (g ρ so).bind fun p => (G (p.1.map .d)).map fun kvs => (.dct kvs, p.2)
section
variable {K : PySem.W.Frag}
theorem tOf_wCall {G : FDW} {n : Nat} {g : DL} {E : XK} (σ : L2.St) (H : Hp) (Q : VK) (h : tOfNw K (wCall G g) σ H Q) (hn : ∀ ρ so p, g ρ so = some p → p.1.length = n) : tCall (spFW K n G) [] E (tOfA K g) σ H Q := by
  obtain ⟨F, ow, ρ, so, w, so', r0, rs, e, k⟩ := h
  obtain ⟨⟨ds, so1⟩, e1, e2⟩ := Option.bind_eq_some_iff.mp e
  obtain ⟨kvs, e3, e4⟩ := Option.map_eq_some_iff.mp e2
  cases e4
  refine ⟨F, ow, ρ, so, ds, _, r0, rs, e1, fun F1 H1 vs r1 s1 d1 => ?_⟩
  simp only [List.append_nil]
  refine ⟨by rw [d1.len]; exact hn _ _ _ e1, F1, ds.map .d, kvs, r1.sub, relS_args d1, e3, fun F2 H2 a r2 s2 n0 f2 l2 d2 => ?_⟩
  have nH : H a = none := by
    cases q : H a with
    | none => rfl
    | some o => exact absurd n0 (s1.live a (by rw [q]; exact nofun))
  exact k F2 H2 a (r1.grow s2 r2) (s1.trans s2.some_of) nH f2 l2 d2
end
theorem pdnw_call {X : Cx} {k j n : Nat} {x : Str} {G : FDW} {p pos : Pos} {e : Expr} {es : List Expr} {g : DL} (c : C8.Cal X.prog X.w X.K X.mg X.base k x (spFW X.K n G) []) (hr : Room j X.A) (hk : k ≤ j) (hg : Gl X x) (ha : PDA X (e :: es) g) (hn : ∀ ρ so p, g ρ so = some p → p.1.length = n)
    (hdb : (x == ("__debug__" : Str)) = false := by decide) (he : starEach (e :: es) X.env = (false, eval e X.env) :: starEach es X.env := by rfl) (hpl : (backTo pos (starEach es X.env)).any (·.1) = false := by rfl) :
    PDNw X (.Call (.Name x p) (e :: es) [] pos) (wCall G g) := (C8.pe_c c hr hk hg ha hdb he hpl).imp fun σ H Q h => tOf_wCall σ H Q h hn
end MP
namespace RL
open PySem PySem.Spec PyProof.Rows L2
/-! ### the tuple that is unpacked at once -/
theorem letgo_zip {prog : Program} {w : World} {A : Around} {E : Value → Shared → Prop} {s : Shared} {elts : List Expr} {kk : Nat} {tpos : Pos} {z TI TO T : Addr} {f : Value} {g : Bool} {Q : Unit → Shared → Prop} (hz : IsZipG s.heap z TI TO f g)
    (h1 : Q () s) (h2 : ∀ h', IsZipG h' z TI TO .none g → Heap.SameBut z s.heap h' → Q () { s with heap := h' }) : wpAny (model prog w) A (letOwnedTupleGo (.Tuple elts kk tpos) (.ref z) (.ref T)) Q E s := by
  unfold letOwnedTupleGo
  refine wpAny_bind (wpAny_load hz ?_)
  have two : ∀ c : Bool, wpAny (model prog w) A (if c = true then (do rule "for.unpacks-the-owned-tuple"; updateField z 0 .none) else pure ()) Q E s := fun c => by
    cases c with
    | false => exact wpAny_pure h1
    | true => exact wpAny_bind (wpAny_rule (show wpAny _ _ (setField (.ref z) 0 .none) Q E s from wpAny_setField_rec hz (by simp) fun h' hz' hs' => h2 h' hz' hs'))
  exact two _
theorem turn_zipT {P : Program} {w : World} {K : PySem.W.Frag} {elts : List Expr} {kk : Nat} {tpos : Pos} {b : Addr → Bool} {z TI TO : Addr} {its src : List Addr} (D : ZA z TI TO its src) (h0 : 0 < its.length) (h9 : its.length ≤ 100) :
    Turn P w K (.Tuple elts kk tpos) (ItzB K b src) (z :: TI :: TO :: its) z (ZSB b z TI TO its src) := by
  have T := turn_zipB (P := P) (w := w) (K := K) (x := "a") (px := tpos) (b := b) D h0 h9
  refine { mem := T.mem, obj := T.obj, keep := T.keep, done := T.done, self := T.self, item := ?_ }
  intro X hP hw hK hc i pins s σ H E I hf st hg
  subst hP hw hK
  obtain ⟨xss, lx, hx⟩ := hg
  obtain ⟨ys, vs, l1, rv, hs, hy⟩ := itemsB I src xss lx hx
  have lv : vs.length = its.length := by rw [← rv.length, l1, D.len]
  have low : ∀ c : Nat, c ∈ z :: TI :: TO :: its → c < s.heap.objs.size := fun c hcm => by
    obtain ⟨o, e, _⟩ := T.obj i s.heap st c hcm
    exact Heap.lt_size e
  have hzl : z < s.heap.objs.size := low z List.mem_cons_self
  refine pyNextB D st h0 h9 lv hs fun h' st' hT hk => ⟨_, rfl, ?_⟩
  have fin : ∀ h2 : Heap, ZSB b z TI TO its src (i + 1) h2 → tupN h2 s.heap.objs.size vs → (∀ c o, c ∉ z :: TI :: TO :: its → s.heap.get? c = some o → h2.get? c = some o) →
      ∃ x H', Inv X pins σ H' { s with heap := h2 } ∧ RelV x (.ref s.heap.objs.size) ∧ (ItzB X.K b src).yld i H x H' ∧ ZSB b z TI TO its src (i + 1) h2 ∧ ∀ c ∈ z :: TI :: TO :: its, H' c = none := by
    intro h2 st2 hT2 far
    have new : ObjOk X.prog X.w (upd H s.heap.objs.size (.frz { cls := .type "tuple", data := .seq vs.toArray } (.tup ys))) h2 s.heap.objs.size (.frz { cls := .type "tuple", data := .seq vs.toArray } (.tup ys)) := ⟨hT2, by rw [l1, ← D.len]; exact Nat.le_trans h9 (by decide), vs, rv, ⟨_, hT2, rfl, _, rfl⟩⟩
    refine ⟨.ref s.heap.objs.size, _, I.turnedNew (t' := s.toks) (ch := z :: TI :: TO :: its) far hf (Nat.le_refl _) new, rfl, ⟨_, ys, _, rfl, I.hok.fresh (Nat.le_refl _), ⟨rfl, rfl⟩, rfl, l1, fun k l xs hkl hq => ?_⟩, st2, fun c hcm => ?_⟩
    · have hkx : k < xss.length := by rw [lx]; exact (List.getElem?_eq_some_iff.mp hkl).1
      have gx : xss[k]? = some xss[k] := List.getElem?_eq_getElem hkx
      rw [SqB.inj I hq (hx k l _ hkl gx).1]
      exact hy k l _ hkl gx
    · rw [upd_ne (Nat.ne_of_lt (low c hcm))]
      exact (hf c hcm).1
  have far1 : ∀ c o, c ∉ z :: TI :: TO :: its → s.heap.get? c = some o → h'.get? c = some o := fun c o hb q => by
    simp only [List.mem_cons, not_or] at hb
    exact hk c o hb.1 hb.2.2.1 hb.2.2.2 q
  obtain ⟨⟨f', g', ff', hz'⟩, TI', ⟨cur', lc', TO'⟩, it'⟩ := id st'
  refine letgo_zip (s := { s with heap := h' }) hz' (fin h' st' hT far1) fun h2 z2 sb => fin h2 ?_ ?_ fun c o hb q => ?_
  · replace sb : Heap.SameBut z h' h2 := sb
    exact ⟨⟨.none, g', trivial, z2⟩, sb.extBut _ _ D.TIz TI', ⟨cur', lc', sb.extBut _ _ D.TOz TO'⟩, fun k t l hkk hl => (it' k t l hkk hl).at fun o e => sb.extBut _ _ (D.iz t (List.mem_of_getElem? hkk)) e⟩
  · replace sb : Heap.SameBut z h' h2 := sb
    exact sb.extBut _ _ (Nat.ne_of_gt hzl) hT
  · replace sb : Heap.SameBut z h' h2 := sb
    have nz : c ≠ z := fun e => hb (by rw [e]; exact List.mem_cons_self)
    exact sb.extBut _ _ nz (far1 c o hb q)
/-! ### zip of three things, lists or tuples as they come -/
def iZipA (K : PySem.W.Frag) (ta : TA) : TI := fun σ H R => ta σ H fun vs H1 => ∃ (src : List Addr) (b : Addr → Bool), vs = src.map V.ref ∧ 1 ≤ src.length ∧ src.length ≤ 6 ∧ (∀ c ∈ src, ∃ xs, SqB K (b c) H1 c xs) ∧ R (ItzB K b src) H1
theorem pi_zipA3 {X : Cx} {e1 e2 e3 : Expr} {ta : TA} {p pos tpos : Pos} {elts : List Expr} {kk : Nat} (hg : Gl X "zip") (hm : X.mg "zip" = none) (ha : PA X [e1, e2, e3] ta)
    (hs : starEach [e1, e2, e3] X.env = (false, eval e1 X.env) :: starEach [e2, e3] X.env := by rfl) (hpl : (backTo pos (starEach [e2, e3] X.env)).any (·.1) = false := by rfl) :
    PI X (.Tuple elts kk tpos) (.Call (.Name "zip" p) [e1, e2, e3] [] pos) (iZipA X.K ta) := by
  refine ⟨fun pins s σ H R I h => Call_ (ld_blt I hg hm PyProof.Rows.boot_zip (PyProof.Rows.callWith_type1 (thn (ha.run pos pins s σ H _ I h) ?_) hs hpl))⟩
  rintro us s1 ⟨vs, H1, I1, rv, src, b, rfl, l1, l6, hb, q⟩
  rw [vals_refs rv]
  have ok : ∀ c ∈ src, ∃ arr, SOk (b c) s1.heap c arr := fun c hc => by
    obtain ⟨xs, hx⟩ := hb c hc
    obtain ⟨us2, _, z, _⟩ := SqB.get I1 hx
    exact ⟨_, z⟩
  have low : ∀ c : Nat, c ∈ src → c < s1.heap.objs.size := fun c hc => by
    obtain ⟨xs, hx⟩ := hb c hc
    obtain ⟨us2, _, _, o, ho⟩ := SqB.get I1 hx
    exact Heap.lt_size ho
  refine call_zipB (b := b) l1 l6 ok fun h' st hk => iterZ (by obtain ⟨f, g, _, e⟩ := st.1; exact ⟨_, e, rfl⟩) ⟨_, _, _, _, H1, rfl, I1.kept (t' := s1.toks) hk, turn_zipT (apartB low) (by rw [itsAt_len]; omega) (by rw [itsAt_len]; omega), st, fun c hc => ?_, q⟩
  have far : s1.heap.objs.size ≤ c := by
    have all : ∀ t : Nat, t ∈ (s1.heap.objs.size + src.length + 2) :: (s1.heap.objs.size + src.length) :: (s1.heap.objs.size + src.length + 1) :: itsAt s1.heap.objs.size src.length → s1.heap.objs.size ≤ t := fun t ht => by
      rcases List.mem_cons.mp ht with e | ht
      · omega
      rcases List.mem_cons.mp ht with e | ht
      · omega
      rcases List.mem_cons.mp ht with e | ht
      · omega
      obtain ⟨k, _, e⟩ := List.mem_map.mp ht
      have e2 : s1.heap.objs.size + k = t := e
      omega
    exact all c hc
  exact I1.fpOk far (I1.hok.fresh far)
end RL
namespace MP
open PySem PySem.Spec PyProof.Rows L2 RL

/-! ### zip of three lists or tuples, as they come -/
def iZ3 (g : DL) : DL := fun ρ so => (g ρ so).bind fun p => match p.1 with
  | [a, b, c] => (seqOf a).bind fun xs => (seqOf b).bind fun ys => (seqOf c).bind fun zs => if ys.length = xs.length ∧ zs.length = xs.length then some (zip3D xs ys zs, p.2) else none
  | _ => none
def kindOf (F : Hp) (l : Addr) : Bool := match F l with
  | some (.frz _ (.tup _)) => true
  | _ => false
theorem seq_kind {K : PySem.W.Frag} {F H : Hp} {v : V} {d : PyData} {ds : List PyData} (s : Same F H) (h : Dq K F v d) (e : seqOf d = some ds) : ∃ p xs, v = .ref p ∧ (∀ F2 H2, Same F F2 → Same F2 H2 → SqB K (kindOf F p) H2 p xs) ∧ DqAll K F xs ds := by
  obtain ⟨p, xs, rfl, hp, hx⟩ := dq_seq h e
  refine ⟨p, xs, rfl, fun F2 H2 a1 a2 => ?_, hx⟩
  rcases hp with ⟨hp, _⟩ | ⟨hp, _⟩
  · unfold kindOf
    rw [hp]
    exact SqL.of (a2 _ _ (a1 _ _ hp))
  · have hk : kindOf F p = true := by
      obtain ⟨ob, hp, _⟩ := hp
      unfold kindOf
      rw [hp]
    rw [hk]
    exact (hp.sq (a1.trans a2))
theorem pdi_z3 {X : Cx} {e1 e2 e3 : Expr} {g : DL} {p pos tpos : Pos} {elts : List Expr} {kk : Nat} (hg : Gl X "zip") (hm : X.mg "zip" = none) (ha : PDA X [e1, e2, e3] g)
    (hs : starEach [e1, e2, e3] X.env = (false, eval e1 X.env) :: starEach [e2, e3] X.env := by rfl) (hpl : (backTo pos (starEach [e2, e3] X.env)).any (·.1) = false := by rfl) :
    PDI X (.Tuple elts kk tpos) (.Call (.Name "zip" p) [e1, e2, e3] [] pos) (iZ3 g) := by
  refine (RL.pi_zipA3 hg hm ha hs hpl).imp fun σ H R q => ?_
  obtain ⟨F, ow, ρ, so, ds, so', r0, rs, e, k⟩ := q
  obtain ⟨⟨ds1, so1⟩, q1, q2⟩ := Option.bind_eq_some_iff.mp e
  refine ⟨F, ow, ρ, so, ds1, so1, r0, rs, q1, fun F1 H1 vs r1 s1 d1 => ?_⟩
  split at q2
  · rename_i a b c hd
    replace hd : ds1 = [a, b, c] := hd
    subst hd
    obtain ⟨xs, f1, q3⟩ := Option.bind_eq_some_iff.mp q2
    obtain ⟨ys, f2, q4⟩ := Option.bind_eq_some_iff.mp q3
    obtain ⟨zs, f3, q5⟩ := Option.bind_eq_some_iff.mp q4
    obtain ⟨⟨ly, lz⟩, q6⟩ := if_some q5
    cases q6
    obtain ⟨u1, u2, u3, rfl, g1, g2, g3⟩ := d1.three
    obtain ⟨p1, x1, rfl, k1, a1⟩ := seq_kind r1.sub g1 f1
    obtain ⟨p2, x2, rfl, k2, a2⟩ := seq_kind r1.sub g2 f2
    obtain ⟨p3, x3, rfl, k3, a3⟩ := seq_kind r1.sub g3 f3
    have n1 := a1.len
    have n2 := a2.len
    have n3 := a3.len
    have hn : ∀ z ∈ [x1, x2, x3], z.length = xs.length := fun z hz => by
      simp only [List.mem_cons, List.not_mem_nil, or_false] at hz
      rcases hz with rfl | rfl | rfl <;> omega
    have wk := walk_zipB (K := X.K) (b := kindOf F1) (src := [p1, p2, p3]) (xss := [x1, x2, x3]) rfl (by simp) hn
    have lzip : (zip3D xs ys zs).length = xs.length := by
      unfold zip3D
      rw [List.length_zipWith, List.length_zipWith]
      omega
    rw [← lzip] at wk
    have all : ∀ F2 H2, Same F1 F2 → Same F2 H2 → ∀ (j : Nat) (l : Addr) (z : List V), [p1, p2, p3][j]? = some l → [x1, x2, x3][j]? = some z → SqB X.K (kindOf F1 l) H2 l z := fun F2 H2 b1 b2 j l z hj hz => by
      match j, hj, hz with
      | 0, hj, hz => cases hj; cases hz; exact k1 F2 H2 b1 b2
      | 1, hj, hz => cases hj; cases hz; exact k2 F2 H2 b1 b2
      | 2, hj, hz => cases hj; cases hz; exact k3 F2 H2 b1 b2
      | j + 3, hj, hz => simp at hj
    refine ⟨[p1, p2, p3], kindOf F1, rfl, by simp, by simp, fun c hc => ?_, k F1 H1 _ _ _ r1 s1 wk (fun F2 H2 b1 b2 => all F2 H2 b1 b2) fun i F2 H2 v H3 hi b1 b2 y => ?_⟩
    · simp only [List.mem_cons, List.not_mem_nil, or_false] at hc
      rcases hc with rfl | rfl | rfl
      · exact ⟨x1, k1 F1 H1 (Same.refl _) r1.sub⟩
      · exact ⟨x2, k2 F1 H1 (Same.refl _) r1.sub⟩
      · exact ⟨x3, k3 F1 H1 (Same.refl _) r1.sub⟩
    · obtain ⟨T, ts, ob, rfl, nT, pl, rfl, lt, ht⟩ := y
      rw [lzip] at hi
      have t1 := ht 0 x1 rfl
      have t2 := ht 1 x2 rfl
      have t3 := ht 2 x3 rfl
      have i1 : x1[i]? = some x1[i] := List.getElem?_eq_getElem (by omega)
      have i2 : x2[i]? = some x2[i] := List.getElem?_eq_getElem (by omega)
      have i3 : x3[i]? = some x3[i] := List.getElem?_eq_getElem (by omega)
      obtain ⟨d1, e1, m1⟩ := a1.get i1
      obtain ⟨d2, e2, m2⟩ := a2.get i2
      obtain ⟨d3, e3, m3⟩ := a3.get i3
      match ts, lt, t1, t2, t3 with
      | [v1, v2, v3], _, t1, t2, t3 =>
        rw [i1] at t1
        rw [i2] at t2
        rw [i3] at t3
        cases t1
        cases t2
        cases t3
        refine ⟨_, .tuple [d1, d2, d3], ?_, Stp.new nT b2, same_upd b2, .inl (new_tup (b2.free nT) pl (.cons (dq_same b1 _ _ m1) (.cons (dq_same b1 _ _ m2) (.cons (dq_same b1 _ _ m3) .nil))))⟩
        unfold zip3D
        rw [List.getElem?_zipWith, List.getElem?_zipWith, e1, e2, e3]
  · cases q2

/-! ### a new list as the first argument, which nobody has afterwards -/
def fCallN (G : FD) (f g : DL) : DE := fun ρ so => (f ρ so).bind fun p => (g ρ p.2).bind fun q => (G (.o 0 :: q.1.map .d) [.lst p.1]).map fun r => (r.1, q.2)
section
variable {K : PySem.W.Frag}
theorem tOf_callN {G : FD} {n : Nat} {f g : DL} {E : XK} (σ : L2.St) (H : Hp) (Q : VK) (h : tOf K (fCallN G f g) σ H Q) (hn : ∀ ρ so p, g ρ so = some p → p.1.length + 1 = n) : tCall (spF K n G) [] E (tCons (tOfN K f) (tOfA K g)) σ H Q := by
  obtain ⟨F, ow, ρ, so, d, so', r0, rs, e, k⟩ := h
  obtain ⟨⟨es, so1⟩, e1, e⟩ := Option.bind_eq_some_iff.mp e
  obtain ⟨⟨ds, so2⟩, e2, e⟩ := Option.bind_eq_some_iff.mp e
  obtain ⟨⟨x, so3⟩, e3, e4⟩ := Option.map_eq_some_iff.mp e
  cases e4
  refine ⟨F, ow, ρ, so, es, so1, r0, rs, e1, fun F1 H1 a us r1 s1 n0 f1 hu d1 => ⟨F1, ow, ρ, so1, ds, so2, r1, rs.mono s1.fz, e2, fun F2 H2 vs r2 s2 d2 => ?_⟩⟩
  have na : some a ∉ ow := fun z => by
    obtain ⟨m, hm⟩ := List.mem_iff_getElem?.mp z
    exact r0.old m a hm n0
  have hu2 : H2 a = some (.lst us) := s2.keep a _ na hu
  have fa2 : F2 a = none := s2.own a _ na hu f1
  have rel : RelO K F2 H2 [some a] [.lst es] := by
    refine ⟨r2.sub, rfl, fun m b w hb hw => ?_, fun i j b hi hj => ?_, fun m b hb => ?_⟩
    · cases m with
      | zero =>
        cases hb
        cases hw
        exact ⟨fa2, us, hu2, dqAll_same s2.fz _ _ d1⟩
      | succ m => simp at hb
    · cases i with
      | zero =>
        cases j with
        | zero => rfl
        | succ j => simp at hj
      | succ i => simp at hi
    · cases m with
      | zero =>
        cases hb
        rw [hu2]
        exact nofun
      | succ m => simp at hb
  simp only [List.append_nil]
  refine ⟨by rw [List.length_cons, d2.len]; exact hn _ _ _ e2, F2, [some a], [.lst es], .o 0 :: ds.map .d, x, so3, rel, relS_cons ⟨a, rfl, rfl⟩ (relS_args d2), e3, fun F3 H3 v r3 s3 d3 => ?_⟩
  have out : ∀ {b : Addr}, some b ∈ ow → some b ∉ [some a] := fun {b} hb z => by
    have : b = a := by simpa using z
    exact na (by rw [← this]; exact hb)
  have far : ∀ {c : Addr} {o : HO}, H c = some o → some c ∉ [some a] := fun {c o} hc z => by
    have : c = a := by simpa using z
    rw [this, n0] at hc
    cases hc
  have s12 := s1.trans s2
  refine k F3 H3 v ⟨r3.sub, r2.len, fun m b w hb hw => ?_, r2.inj, fun m b hb => s3.live b (r2.old m b hb)⟩ ⟨s12.fz.trans s3.fz, fun c o nc hc => s3.keep c o (far hc) (s12.keep c o nc hc), fun c o nc hc fc => s3.own c o (far hc) (s12.keep c o nc hc) (s12.own c o nc hc fc), fun c hc => s3.live c (s12.live c hc)⟩ d3
  have q := r2.own m b w hb hw
  cases b with
  | none => cases w <;> first | trivial | exact q.elim
  | some b => exact OwnOk.later q (out (List.mem_of_getElem? hb)) s3
end
theorem pd_callN {X : Cx} {k j n : Nat} {x : Str} {G : FD} {p pos : Pos} {e : Expr} {es : List Expr} {f g : DL} (c : C8.Cal X.prog X.w X.K X.mg X.base k x (spF X.K n G) []) (hr : Room j X.A) (hk : k ≤ j) (hg : Gl X x) (hf : PDN X e f) (ha : PDA X es g) (hn : ∀ ρ so p, g ρ so = some p → p.1.length + 1 = n)
    (hdb : (x == ("__debug__" : Str)) = false := by decide) (he : starEach (e :: es) X.env = (false, eval e X.env) :: starEach es X.env := by rfl) (hpl : (backTo pos (starEach es X.env)).any (·.1) = false := by rfl) :
    PD X (.Call (.Name x p) (e :: es) [] pos) (fCallN G f g) := (C8.pe_c c hr hk hg (pa_cons hf ha he) hdb he hpl).imp fun σ H Q h => tOf_callN σ H Q h hn
end MP
namespace MP
open PySem PySem.Spec PyProof.Rows L2 RL
def F_is_integer : FD := fDef 1 1 0 0
    (sRet (eAnd (eIsi "int" (eVar 0)) (eAnd (eOp dIsNot (eVar 0) (eC (.bool true))) (eOp dIsNot (eVar 0) (eC (.bool false))))))
def F_is_number_from : FD := fDef 3 3 0 0
    (sRet (eAnd (fCall0 F_is_integer (aCons (eVar 0) aNil)) (eChain dLe dLe (eVar 1) (eVar 0) (eVar 2))))
def B_groups_of_step_1 : DS :=
    (sSeq (sIf (bOr (bNot (bVal (eIsi "int" (eVar 3)))) (bOr (bVal (eOp dIs (eVar 3) (eC (.bool true)))) (bOr (bVal (eOp dIs (eVar 3) (eC (.bool false)))) (bNot (bVal (eChain dLe dLt (eC (.int 0)) (eVar 3) (eVar 1))))))) (sRet (eC (.int 0))) sNext)
    (sSet (.nm 2) (eOp dBor (eVar 2) (eOp dShl (eC (.int 1)) (eVar 3)))))
def F_groups_of_step : FD := fDef 2 5 0 0
    (sSeq (sIf (bOr (bNot (bVal (eIsi "tuple" (eVar 0)))) (bVal (eOp dNe (eCall gLen (aCons (eVar 0) aNil)) (eVar 1)))) (sRet (eC (.int 0))) sNext)
    (sSeq (sSet (.nm 2) (eC (.int 0)))
    (sSeq (sFor (.nm 3) (iSeq (eVar 0)) B_groups_of_step_1)
    (sSeq (sSet (.nm 4) (eUn dBits (eVar 2)))
    (sRet (eIf (bAnd (bVal (eOp dLt (eVar 4) (eVar 1))) (bVal (eOp dEq (eOp dAdd (eVar 2) (eC (.int 1))) (eOp dShl (eC (.int 1)) (eVar 4))))) (eVar 4) (eC (.int 0))))))))
def B_is_attribute_1 : DS :=
    (sSeq (sSet (.nm 3) (fCall0 F_groups_of_step (aCons (eVar 4) (aCons (eVar 3) aNil))))
    (sIf (bVal (eOp dEq (eVar 3) (eC (.int 0)))) (sRet (eC (.bool false))) sNext))
def F_is_attribute : FD := fDef 1 5 0 0
    (sSeq (sIf (bOr (bNot (bVal (eIsi "tuple" (eVar 0)))) (bVal (eOp dNe (eCall gLen (aCons (eVar 0) aNil)) (eC (.int 2))))) (sRet (eC (.bool false))) sNext)
    (sSeq (sSet (.tp 2 (.cons (.nm 1) (.cons (.nm 2) .nil))) (eVar 0))
    (sSeq (sIf (bOr (bNot (bVal (fCall0 F_is_number_from (aCons (eVar 1) (aCons (eC (.int 1)) (aCons (eC (.int 6)) aNil)))))) (bOr (bNot (bVal (eIsi "tuple" (eVar 2)))) (bVal (eOp dGt (eCall gLen (aCons (eVar 2) aNil)) (eC (.int 3)))))) (sRet (eC (.bool false))) sNext)
    (sSeq (sSet (.nm 3) (eVar 1))
    (sSeq (sFor (.nm 4) (iSeq (eVar 2)) B_is_attribute_1)
    (sRet (eC (.bool true))))))))
def B_choices_1 : DS :=
    (sSet (.nm 1) (eOfN (nLc2 [3, 4] [4] (.nm 3) (iSeq (eVar 1)) bYes (iRg1 (aCons (eVar 2) aNil)) (.nm 4) bYes (eTup (aStar (eVar 3) (aCons (eVar 4) aNil))))))
def F_choices : FD := fDef 1 5 0 0
    (sSeq (sSet (.nm 1) (eOfN (nLst (aCons (eTup aNil) aNil))))
    (sSeq (sFor (.nm 2) (iSeq (eVar 0)) B_choices_1)
    (sRet (eVar 1))))
def B_count_of_cells_1 : DS :=
    (sSet (.nm 1) (eOp dMul (eVar 1) (eVar 2)))
def F_count_of_cells : FD := fDef 1 4 0 0
    (sSeq (sSet (.nm 1) (eC (.int 1)))
    (sSeq (sFor (.tp 2 (.cons (.nm 2) (.cons (.nm 3) .nil))) (iSeq (eVar 0)) B_count_of_cells_1)
    (sRet (eVar 1))))
def F_group_count : FD := fDef 2 4 0 0
    (sSeq (sSet (.tp 2 (.cons (.nm 2) (.cons (.nm 3) .nil))) (eVar 0))
    (sRet (eIf (bVal (eOp dEq (eVar 1) (eC (.int 0)))) (eVar 2) (eOp dAdd (eCall gMax (aCons (eOp dIx (eVar 3) (eOp dSub (eVar 1) (eC (.int 1)))) aNil)) (eC (.int 1))))))
def B_has_levels_up_to_1 : DS :=
    (sIf (bVal (eOp dGt (eVar 2) (eVar 3))) (sRet (eC (.bool false))) sNext)
def F_has_levels_up_to : FD := fDef 2 4 0 0
    (sSeq (sFor (.tp 2 (.cons (.nm 2) (.cons (.nm 3) .nil))) (iZip2 (aCons (eVar 0) (aCons (eVar 1) aNil))) B_has_levels_up_to_1)
    (sRet (eC (.bool true))))
def F_rollups_of : FD := fDef 1 3 0 0
    (sRet (fCall0 F_choices (aCons (eOfN (nLc [1, 2] (.tp 2 (.cons (.nm 1) (.cons (.nm 2) .nil))) (iSeq (eVar 0)) bYes (eOp dAdd (eCall gLen (aCons (eVar 2) aNil)) (eC (.int 1))))) aNil)))
def B_size_of_1 : DS :=
    (sSet (.nm 2) (eOp dMul (eVar 2) (fCall0 F_group_count (aCons (eVar 3) (aCons (eVar 4) aNil)))))
def F_size_of : FD := fDef 2 5 0 0
    (sSeq (sSet (.nm 2) (eC (.int 1)))
    (sSeq (sFor (.tp 2 (.cons (.nm 3) (.cons (.nm 4) .nil))) (iZip2 (aCons (eVar 0) (aCons (eVar 1) aNil))) B_size_of_1)
    (sRet (eVar 2))))
def B_is_rollup_1 : DS :=
    (sIf (bOr (bNot (bVal (eIsi "int" (eVar 2)))) (bOr (bVal (eOp dIs (eVar 2) (eC (.bool true)))) (bOr (bVal (eOp dIs (eVar 2) (eC (.bool false)))) (bNot (bVal (eChain dLe dLe (eC (.int 0)) (eVar 2) (eCall gLen (aCons (eVar 4) aNil)))))))) (sRet (eC (.bool false))) sNext)
def F_is_rollup : FD := fDef 2 5 0 0
    (sSeq (sIf (bOr (bNot (bVal (eIsi "tuple" (eVar 1)))) (bVal (eOp dNe (eCall gLen (aCons (eVar 1) aNil)) (eCall gLen (aCons (eVar 0) aNil))))) (sRet (eC (.bool false))) sNext)
    (sSeq (sFor (.tp 2 (.cons (.nm 2) (.cons (.tp 2 (.cons (.nm 3) (.cons (.nm 4) .nil))) .nil))) (iZip2 (aCons (eVar 1) (aCons (eVar 0) aNil))) B_is_rollup_1)
    (sRet (eC (.bool true)))))
def B_are_rollups_1 : DS :=
    (sIf (bNot (bVal (fCall0 F_is_rollup (aCons (eVar 0) (aCons (eVar 2) aNil))))) (sRet (eC (.bool false))) sNext)
def F_are_rollups : FD := fDef 2 3 0 0
    (sSeq (sIf (bOr (bNot (bVal (eIsi "tuple" (eVar 1)))) (bVal (eOp dGt (eCall gLen (aCons (eVar 1) aNil)) (eC (.int 8))))) (sRet (eC (.bool false))) sNext)
    (sSeq (sFor (.nm 2) (iSeq (eVar 1)) B_are_rollups_1)
    (sRet (eC (.bool true)))))
def B_is_scheme_1 : DS :=
    (sIf (bNot (bVal (fCall0 F_is_attribute (aCons (eVar 1) aNil)))) (sRet (eC (.bool false))) sNext)
def F_is_scheme : FD := fDef 1 2 0 0
    (sSeq (sIf (bOr (bNot (bVal (eIsi "tuple" (eVar 0)))) (bNot (bVal (eChain dLe dLe (eC (.int 1)) (eCall gLen (aCons (eVar 0) aNil)) (eC (.int 3)))))) (sRet (eC (.bool false))) sNext)
    (sSeq (sFor (.nm 1) (iSeq (eVar 0)) B_is_scheme_1)
    (sRet (eOp dLe (fCall0 F_count_of_cells (aCons (eVar 0) aNil)) (eC (.int 60))))))
def F_check_scheme : FD := fDef 1 1 0 0
    (sIf (bNot (bVal (fCall0 F_is_scheme (aCons (eVar 0) aNil)))) sNone sNext)
def F_check_stored : FD := fDef 2 2 0 0
    (sIf (bNot (bVal (fCall0 F_are_rollups (aCons (eVar 0) (aCons (eVar 1) aNil))))) sNone sNext)
def F_sizes_for : FD := fDef 3 5 0 0
    (sSeq (sSet (.nm 3) (fCall0 F_size_of (aCons (eVar 0) (aCons (eVar 1) aNil))))
    (sRet (eOfN (nLc [4] (.nm 4) (iSeq (eVar 2)) bYes (eIf (bVal (fCall0 F_has_levels_up_to (aCons (eVar 1) (aCons (eVar 4) aNil)))) (eVar 3) (eC .none))))))
def F_least_of : FD := fDef 1 2 0 0
    (sRet (eMinD (eOfN (nLc [1] (.nm 1) (iSeq (eVar 0)) (bVal (eOp dIsNot (eVar 1) (eC .none))) (eVar 1))) (eC .none)))
def F_least_sizes : FD := fDef 2 4 0 0
    (sRet (eOfN (nLc [2] (.nm 2) (iRg1 (aCons (eCall gLen (aCons (eVar 1) aNil)) aNil)) bYes (fCall0 F_least_of (aCons (eOfN (nLc [3] (.nm 3) (iSeq (eVar 0)) bYes (eOp dIx (eVar 3) (eVar 2)))) aNil)))))
def F_stored_sizes : FD := fDef 3 4 0 0
    (sRet (fCall0 F_least_sizes (aCons (eOfN (nLc [3] (.nm 3) (iSeq (eVar 1)) bYes (fCall0 F_sizes_for (aCons (eVar 0) (aCons (eVar 3) (aCons (eVar 2) aNil)))))) (aCons (eVar 2) aNil))))
def F_total_of : FD := fDef 1 1 0 0
    (sRet (eIf (bVal (eOp dIn (eC .none) (eVar 0))) (eC .none) (eCall gSum (aCons (eVar 0) aNil))))
def F_selections : FD := fDef 2 5 0 0
    (sSeq (sIf (bVal (eOp dEq (eVar 1) (eC (.int 1)))) (sRet (eOfN (nLc [2] (.nm 2) (iSeq (eVar 0)) bYes (eTup (aCons (eVar 2) aNil))))) sNext)
    (sRet (eOfN (nLc2 [3, 4] [4] (.nm 3) (iSeq (eVar 0)) bYes (iSeq (eVar 0)) (.nm 4) (bVal (eOp dLtU (eVar 3) (eVar 4))) (eTup (aCons (eVar 3) (aCons (eVar 4) aNil)))))))
def F_check_many : FD := fDef 1 1 0 0
    (sIf (bOr (bNot (bVal (fCall0 F_is_integer (aCons (eVar 0) aNil)))) (bNot (bVal (eChain dLe dLe (eC (.int 1)) (eVar 0) (eC (.int 2)))))) sNone sNext)
def F_check_stored_and_all_wanted : FD := fDef 3 3 0 0
    (sSeq (sDrop (fCall0 F_check_scheme (aCons (eVar 0) aNil)))
    (sSeq (sDrop (fCall0 F_check_stored (aCons (eVar 0) (aCons (eVar 1) aNil))))
    (sDrop (fCall0 F_check_stored (aCons (eVar 0) (aCons (eVar 2) aNil))))))
def F_needed : FD := fDef 2 4 0 0
    (sSeq (sDrop (fCall0 F_check_scheme (aCons (eVar 0) aNil)))
    (sSeq (sDrop (fCall0 F_check_stored (aCons (eVar 0) (aCons (eVar 1) aNil))))
    (sRet (eCall gTuple (aCons (eOfN (nLc [2] (.nm 2) (iSeq (eOfN (nST (eVar 1)))) (bNot (bVal (eCall gAny (aCons (eOfN (nLc [3] (.nm 3) (iSeq (eVar 1)) bYes (eAnd (eOp dNe (eVar 3) (eVar 2)) (fCall0 F_has_levels_up_to (aCons (eVar 3) (aCons (eVar 2) aNil)))))) aNil)))) (eVar 2))) aNil)))))
def F_cost : FD := fDef 3 3 0 0
    (sSeq (sDrop (fCall0 F_check_stored_and_all_wanted (aCons (eVar 0) (aCons (eVar 1) (aCons (eVar 2) aNil)))))
    (sRet (fCall0 F_total_of (aCons (fCall0 F_stored_sizes (aCons (eVar 0) (aCons (eVar 1) (aCons (eVar 2) aNil)))) aNil))))
def F_best : FD := fDef 4 10 0 1
    (sSeq (sDrop (fCall0 F_check_stored_and_all_wanted (aCons (eVar 0) (aCons (eVar 1) (aCons (eVar 2) aNil)))))
    (sSeq (sDrop (fCall0 F_check_many (aCons (eVar 3) aNil)))
    (sSeq (sSet (.nm 4) (fCall0 F_stored_sizes (aCons (eVar 0) (aCons (eVar 1) (aCons (eVar 2) aNil)))))
    (sSeq (sNewW 5 0 (wDc [7] (.nm 7) (iSeq (fCall0 F_rollups_of (aCons (eVar 0) aNil))) bYes (eVar 7) (fCall0 F_sizes_for (aCons (eVar 0) (aCons (eVar 7) (aCons (eVar 2) aNil))))))
    (sSeq (sSet (.nm 6) (eOfN (nLc [8] (.nm 8) (iSeq (fCall0 F_selections (aCons (eOfN (nKeys 5)) (aCons (eVar 3) aNil)))) bYes (eTup (aCons (fCall0 F_total_of (aCons (fCall0 F_least_sizes (aCons (eOp dAdd (eOfN (nLst (aCons (eVar 4) aNil))) (eOfN (nLc [7] (.nm 7) (iSeq (eVar 8)) bYes (dIxO 5 (eVar 7))))) (aCons (eVar 2) aNil))) aNil)) (aCons (eVar 8) aNil))))))
    (sRet (eMinX (eOfN (nLc [9] (.nm 9) (iSeq (eVar 6)) (bVal (eOp dIsNot (eOp dIx (eVar 9) (eC (.int 0))) (eC .none))) (eVar 9))) (eC .none))))))))
def F__law_cell : FD := fDef 2 2 0 0
    (sSeq (sIf (bVal (eOp dLt (eVar 1) (scLen 0))) (sRet (scIx 0 (eVar 1))) sNext)
    (sRet (eC (.int 0))))
def F__law_source : List Sl → Option (List PyData) := fDefN 1 1 (nLst (aCons (eCall gMax (aCons (eC (.int 0)) (aCons (eOp dSub (eVar 0) (eOp dPow (eC (.int 10)) (eC (.int 18)))) aNil))) (aCons (eOp dAdd (eOp dMod (eVar 0) (eC (.int 2147483629))) (eC (.int 1))) (aCons (eC (.int 0)) aNil))))
def F__law_draw : FD := fDef 2 4 1 0
    (sSeq (sIf (bVal (eOp dGt (oIx 0 (eC (.int 0))) (eC (.int 0)))) (sSeq (sSet (.nm 2) (eOp dMod (oIx 0 (eC (.int 0))) (eVar 1)))
    (sSeq (sOwn 0 (eC (.int 0)) (eOp dDiv (oIx 0 (eC (.int 0))) (eVar 1)))
    (sRet (eVar 2)))) sNext)
    (sSeq (sOwn 0 (eC (.int 2)) (eOp dAdd (oIx 0 (eC (.int 2))) (eC (.int 1))))
    (sSeq (sOwn 0 (eC (.int 1)) (eOp dMod (eOp dAdd (eOp dAdd (eOp dMul (oIx 0 (eC (.int 1))) (eC (.int 48271))) (eOp dMul (eC (.int 1009)) (oIx 0 (eC (.int 2))))) (eC (.int 7))) (eC (.int 2147483647))))
    (sSeq (sSet (.nm 3) (eOp dMod (eOp dAdd (eOp dAdd (eOp dMul (oIx 0 (eC (.int 1))) (oIx 0 (eC (.int 1)))) (eOp dMul (eC (.int 69621)) (oIx 0 (eC (.int 1))))) (eC (.int 11))) (eC (.int 2147483629))))
    (sSeq (sSet (.nm 3) (eOp dMod (eOp dAdd (eOp dMul (eVar 3) (eVar 3)) (eOp dMul (eC (.int 40014)) (eVar 3))) (eC (.int 2147483587))))
    (sRet (eOp dMod (eOp dDiv (eVar 3) (eC (.int 16))) (eVar 1))))))))
def F__law_is_equal : FD := fDef 2 2 0 0
    (sRet (eOp dEq (eCall gRepr (aCons (eVar 0) aNil)) (eCall gRepr (aCons (eVar 1) aNil))))
def F__law_first_right : FD := fDef 1 5 0 0
    (sSeq (sSet (.tp 2 (.cons (.nm 1) (.cons (.nm 2) .nil))) (eTup (aCons (eTup (aCons (eTup (aCons (eC (.int 4)) (aCons (eTup (aCons (eTup (aCons (eC (.int 0)) (aCons (eC (.int 0)) (aCons (eC (.int 1)) (aCons (eC (.int 1)) aNil))))) (aCons (eTup (aCons (eC (.int 0)) (aCons (eC (.int 0)) aNil))) aNil))) aNil))) (aCons (eTup (aCons (eC (.int 3)) (aCons (eTup (aCons (eTup (aCons (eC (.int 0)) (aCons (eC (.int 1)) (aCons (eC (.int 1)) aNil)))) aNil)) aNil))) aNil))) (aCons (eTup (aCons (eTup (aCons (eC (.int 0)) (aCons (eC (.int 0)) aNil))) (aCons (eTup (aCons (eC (.int 1)) (aCons (eC (.int 1)) aNil))) aNil))) aNil))))
    (sSeq (sParDD 2 3 (eStpU (eVar 2) oNo oNo (oSome (eOp dIx (eTup (aCons (eC (.int 1)) (aCons (eUn dNeg (eC (.int 1))) aNil))) (eVar 0)))) (eTup (aCons (eTup (aCons (eC (.int 2)) (aCons (eC (.int 1)) aNil))) (aCons (eTup (aCons (eC (.int 2)) (aCons (eC (.int 0)) aNil))) (aCons (eTup (aCons (eC (.int 1)) (aCons (eC (.int 1)) aNil))) aNil)))))
    (sSeq (sSet (.nm 4) (eOfN (nLst (aCons (fCall0 F_needed (aCons (eVar 1) (aCons (eVar 3) aNil))) (aCons (fCall0 F_needed (aCons (eVar 1) (aCons (eTup (aCons (eTup (aCons (eC (.int 1)) (aCons (eC (.int 1)) aNil))) (aCons (eTup (aCons (eC (.int 2)) (aCons (eC (.int 0)) aNil))) (aCons (eTup (aCons (eC (.int 2)) (aCons (eC (.int 1)) aNil))) (aCons (eTup (aCons (eC (.int 1)) (aCons (eC (.int 1)) aNil))) aNil))))) aNil))) (aCons (fCall0 F_cost (aCons (eVar 1) (aCons (eVar 2) (aCons (eVar 3) aNil)))) aNil))))))
    (sSeq (sIf (bNot (bVal (fCall0 F__law_is_equal (aCons (eVar 4) (aCons (eOfN (nLst (aCons (eTup (aCons (eTup (aCons (eC (.int 1)) (aCons (eC (.int 1)) aNil))) (aCons (eTup (aCons (eC (.int 2)) (aCons (eC (.int 0)) aNil))) aNil))) (aCons (eTup (aCons (eTup (aCons (eC (.int 1)) (aCons (eC (.int 1)) aNil))) (aCons (eTup (aCons (eC (.int 2)) (aCons (eC (.int 0)) aNil))) aNil))) (aCons (eC (.int 20)) aNil))))) aNil))))) (sRet (eC (.bool false))) sNext)
    (sSeq (sSet (.nm 4) (eOfN (nLst (aCons (fCall0 F_best (aCons (eVar 1) (aCons (eVar 2) (aCons (eVar 3) (aCons (eC (.int 1)) aNil))))) (aCons (fCall0 F_best (aCons (eVar 1) (aCons (eVar 2) (aCons (eVar 3) (aCons (eC (.int 2)) aNil))))) (aCons (fCall0 F_cost (aCons (eVar 1) (aCons (eTup (aCons (eTup (aCons (eC (.int 1)) (aCons (eC (.int 1)) aNil))) aNil)) (aCons (eVar 3) aNil)))) aNil))))))
    (sSeq (sIf (bNot (bVal (fCall0 F__law_is_equal (aCons (eVar 4) (aCons (eOfN (nLst (aCons (eTup (aCons (eC (.int 10)) (aCons (eTup (aCons (eTup (aCons (eC (.int 2)) (aCons (eC (.int 0)) aNil))) aNil)) aNil))) (aCons (eTup (aCons (eC (.int 9)) (aCons (eTup (aCons (eTup (aCons (eC (.int 2)) (aCons (eC (.int 0)) aNil))) (aCons (eTup (aCons (eC (.int 2)) (aCons (eC (.int 1)) aNil))) aNil))) aNil))) (aCons (eC .none) aNil))))) aNil))))) (sRet (eC (.bool false))) sNext)
    (sSeq (sSet (.nm 4) (eOfN (nLst (aCons (fCall0 F_cost (aCons (eVar 1) (aCons (eTup aNil) (aCons (eTup aNil) aNil)))) (aCons (fCall0 F_cost (aCons (eVar 1) (aCons (eTup aNil) (aCons (eVar 3) aNil)))) (aCons (fCall0 F_best (aCons (eVar 1) (aCons (eTup aNil) (aCons (eVar 3) (aCons (eC (.int 1)) aNil))))) (aCons (fCall0 F_best (aCons (eVar 1) (aCons (eTup aNil) (aCons (eTup aNil) (aCons (eC (.int 2)) aNil))))) aNil)))))))
    (sRet (fCall0 F__law_is_equal (aCons (eVar 4) (aCons (eOfN (nLst (aCons (eC (.int 0)) (aCons (eC .none) (aCons (eTup (aCons (eC (.int 18)) (aCons (eTup (aCons (eTup (aCons (eC (.int 1)) (aCons (eC (.int 0)) aNil))) aNil)) aNil))) (aCons (eTup (aCons (eC (.int 0)) (aCons (eTup (aCons (eTup (aCons (eC (.int 0)) (aCons (eC (.int 0)) aNil))) (aCons (eTup (aCons (eC (.int 0)) (aCons (eC (.int 1)) aNil))) aNil))) aNil))) aNil)))))) aNil)))))))))))
def F__law_small_right : FD := fDef 0 3 0 0
    (sSeq (sSet (.tp 2 (.cons (.nm 0) (.cons (.nm 1) .nil))) (eTup (aCons (eTup (aCons (eTup (aCons (eC (.int 3)) (aCons (eTup aNil) aNil))) aNil)) (aCons (eTup (aCons (eTup (aCons (eC (.int 2)) (aCons (eTup (aCons (eTup (aCons (eC (.int 0)) (aCons (eC (.int 0)) aNil))) aNil)) aNil))) aNil)) aNil))))
    (sSeq (sSet (.nm 2) (eOfN (nLst (aCons (fCall0 F_needed (aCons (eVar 0) (aCons (eTup (aCons (eTup (aCons (eC (.int 0)) aNil)) (aCons (eTup (aCons (eC (.int 0)) aNil)) aNil))) aNil))) (aCons (fCall0 F_cost (aCons (eVar 0) (aCons (eTup (aCons (eTup (aCons (eC (.int 0)) aNil)) aNil)) (aCons (eTup (aCons (eTup (aCons (eC (.int 0)) aNil)) (aCons (eTup (aCons (eC (.int 0)) aNil)) aNil))) aNil)))) aNil)))))
    (sSeq (sSet (.nm 2) (eOp dAdd (eVar 2) (eOfN (nLst (aCons (fCall0 F_best (aCons (eVar 0) (aCons (eTup aNil) (aCons (eTup (aCons (eTup (aCons (eC (.int 0)) aNil)) aNil)) (aCons (eC (.int 1)) aNil))))) (aCons (fCall0 F_best (aCons (eVar 0) (aCons (eTup aNil) (aCons (eTup aNil) (aCons (eC (.int 2)) aNil))))) aNil))))))
    (sSeq (sIf (bNot (bVal (fCall0 F__law_is_equal (aCons (eVar 2) (aCons (eOfN (nLst (aCons (eTup (aCons (eTup (aCons (eC (.int 0)) aNil)) aNil)) (aCons (eC (.int 6)) (aCons (eTup (aCons (eC (.int 3)) (aCons (eTup (aCons (eTup (aCons (eC (.int 0)) aNil)) aNil)) aNil))) (aCons (eC .none) aNil)))))) aNil))))) (sRet (eC (.bool false))) sNext)
    (sSeq (sSet (.nm 2) (eOfN (nLst (aCons (fCall0 F_best (aCons (eVar 1) (aCons (eTup aNil) (aCons (eTup (aCons (eTup (aCons (eC (.int 1)) aNil)) aNil)) (aCons (eC (.int 1)) aNil))))) (aCons (fCall0 F_best (aCons (eVar 1) (aCons (eTup (aCons (eTup (aCons (eC (.int 1)) aNil)) aNil)) (aCons (eTup (aCons (eTup (aCons (eC (.int 1)) aNil)) aNil)) (aCons (eC (.int 1)) aNil))))) (aCons (fCall0 F_best (aCons (eVar 1) (aCons (eTup aNil) (aCons (eTup (aCons (eTup (aCons (eC (.int 0)) aNil)) (aCons (eTup (aCons (eC (.int 1)) aNil)) aNil))) (aCons (eC (.int 2)) aNil))))) (aCons (fCall0 F_needed (aCons (eVar 1) (aCons (eTup aNil) aNil))) aNil)))))))
    (sRet (fCall0 F__law_is_equal (aCons (eVar 2) (aCons (eOfN (nLst (aCons (eTup (aCons (eC (.int 1)) (aCons (eTup (aCons (eTup (aCons (eC (.int 1)) aNil)) aNil)) aNil))) (aCons (eTup (aCons (eC (.int 1)) (aCons (eTup (aCons (eTup (aCons (eC (.int 0)) aNil)) aNil)) aNil))) (aCons (eTup (aCons (eC (.int 3)) (aCons (eTup (aCons (eTup (aCons (eC (.int 0)) aNil)) (aCons (eTup (aCons (eC (.int 1)) aNil)) aNil))) aNil))) (aCons (eTup aNil) aNil)))))) aNil)))))))))
def B_law_1 : DS :=
    (sIf (bNot (bVal (fCall0 F__law_first_right (aCons (fCallN F__law_draw (nCall F__law_source (aCons (fCallS F__law_cell 0 (aCons (eVar 1) aNil)) aNil)) (aCons (eC (.int 2)) aNil)) aNil)))) (sRet (eC (.bool false))) sNext)
def F_law : FD := fDef 1 2 0 0
    (sSeq (sFor (.nm 1) (iRg1 (aCons (eCall gMax (aCons (eC (.int 1)) (aCons (eCall gMin (aCons (scLen 0) (aCons (eC (.int 3)) aNil))) aNil))) aNil)) B_law_1)
    (sRet (fCallZ F__law_small_right)))
end MP
namespace RL
open PySem PySem.Spec PyProof.Rows L2

/-! ### set(a tuple of ints), sorted(a set of ints) -/
def rSetI (K : PySem.W.Frag) (w : World) : List V → Hp → VK → Prop := fun vs H Q => ∃ (p : Addr) (ns : List Int), vs = [V.ref p] ∧ SqT K H p (ns.map V.int) ∧ ns.length ≤ 1000 ∧
  ∀ (b : Addr) (ks : List Int), H b = none → ks.Nodup → (∀ k, k ∈ ks ↔ k ∈ ns) → Q (.ref b) (upd H b (SetO w b (fun j => decide (j ∈ ns)) ks.length))
theorem cr_setI {X : Cx} (hc : X.calm = true) : CallR X (.type "set") (rSetI X.K X.w) := by
  intro pins s σ H xs us Q I r h
  obtain ⟨p, ns, rfl, hs, hl, q⟩ := h
  rw [Vals.ref1 r]
  obtain ⟨its, rv, pl, _⟩ := I.tuple hs
  refine call_set_tupI ns (I.ok.hd hc) pl (by simpa using ints_of_vals rv) (by unfold scanBound; omega) fun g tk c R hcn k => ?_
  obtain ⟨o, es, ep, t, ho, hex, hd, good, nd, hm, hb, hf, hn, hr, hl2⟩ := id R
  have e1 : (es.toList.map keyOf).length = c := by rw [List.length_map, Array.length_toList]; exact hn
  refine ⟨.ref s.heap.objs.size, _, I.laid (t' := tk) k (Nat.le_refl _) (setO_new R), rfl, ?_⟩
  rw [← e1]
  exact q _ _ (I.hok.fresh (Nat.le_refl _)) nd fun k => by rw [← hm k, decide_eq_true_iff]
def rSortedI (w : World) : List V → Hp → VK → Prop := fun vs H Q => ∃ (a : Addr) (S : Int → Bool) (n : Nat), vs = [V.ref a] ∧ H a = some (SetO w a S n) ∧ n < 64 ∧
  ∀ (p : Addr) (ns : List Int), H p = none → ns.Pairwise (· < ·) → (∀ k, k ∈ ns ↔ S k = true) → ns.length = n → Q (.ref p) (upd H p (.lst (ns.map V.int)))
theorem vals_ints {ns : List Int} : ∀ {out : List Value}, IntsAre out ns → Vals (ns.map V.int) out := by
  induction ns with
  | nil => intro out h; cases h; exact .nil
  | cons n ns ih =>
    intro out h
    cases h with
    | cons h1 h2 => exact .cons ⟨_, rfl⟩ (ih (by assumption))
theorem cr_sortedI {X : Cx} (hc : X.calm = true) : CallR X (.builtin "sorted") (rSortedI X.w) := by
  intro pins s σ H vs us Q I r h
  obtain ⟨a, S, n, rfl, ha, hn, q⟩ := h
  rw [Vals.ref1 r]
  refine sorted_set (setO_get I ha) (I.ok.hd hc) hn fun s' p out c ns k g o hp hg hi pw hm hl => ?_
  have hfr : H p = none := I.hok.fresh hp
  have hlen : (ns.map V.int).length ≤ sizeLine := by rw [List.length_map, sizeLine_eq]; omega
  have J : Inv X pins σ (upd H p (.lst (ns.map V.int))) { s with heap := s'.heap, gens := s'.gens, drawn := s'.drawn, toks := s'.toks } :=
    I.call (ch := []) (Un.laid k hp hfr) (I.hok.laid k hp ⟨hlen, out.toList, c, vals_ints hi, hg⟩) (by rw [g]; exact I.bare) (fun _ z => nomatch z)
  have e : s' = { s with heap := s'.heap, gens := s'.gens, drawn := s'.drawn, toks := s'.toks } := by
    cases s'
    cases s
    cases o
    rfl
  rw [e]
  exact ⟨.ref p, _, J, rfl, q p ns hfr pw hm hl⟩
end RL
namespace RL
open PySem PySem.Spec PyProof.Rows L2

/-! ### x, y = a, b where one of the names is a cell: stored from the left -/
section
variable {X : Cx} {pos : Pos}
theorem ps_parC {i j : Nat} {x y : Str} {a b : Expr} {ta : TA} {px py pt : Pos} {kt k2 pt2} (hc : X.calm = true) (hN : X.N.Nodup) (hi : X.N[i]? = some x) (hj : X.N[j]? = some y)
    (hx : Loc X.env.scope x) (hy : Loc X.env.scope y) (ha : PA X [a, b] ta)
    (hw : swappedStores [.Tuple [.Name x px, .Name y py] kt pt] (.Tuple [a, b] k2 pt2) X.env = pure none)
    (hs : swapsWithSole [.Tuple [.Name x px, .Name y py] kt pt] (.Tuple [a, b] k2 pt2) pos.line X.env = pure false := by rfl)
    (fx : X.fn x = true ∨ X.env.scope.names.lookup x = some .local := by first | exact .inl rfl | exact .inr rfl) (fy : X.fn y = true ∨ X.env.scope.names.lookup y = some .local := by first | exact .inl rfl | exact .inr rfl)
    (h1 : (assignEach [.Tuple [.Name x px, .Name y py] kt pt] X.env).map (·.2) = [assign (.Tuple [.Name x px, .Name y py] kt pt) X.env] := by rfl)
    (h2 : (assignEach [.Name x px, .Name y py] X.env).map (·.2) = [assign (.Name x px) X.env, assign (.Name y py) X.env] := by rfl)
    (h3 : (assignEach [.Name y py] X.env).map (·.2) = [assign (.Name y py) X.env] := by rfl)
    (h4 : (assignEach [.Name x px, .Name y py] X.env).length = 2 := by rfl)
    (h5 : (assignEach [.Name x px, .Name y py] X.env).findIdx? (·.1) = none := by rfl)
    (h6 : (assignEach ([] : List Expr) X.env).map (·.2) = [] := by rfl) :
    PS X (.Assign [.Tuple [.Name x px, .Name y py] kt pt] (.Tuple [a, b] k2 pt2) pos) (tPar i j ta) := by
  constructor
  intro pins s σ H D I h
  have both : PGs X [.Name x px, .Name y py] (gCons (gName i) (gCons (gName j) gNil)) :=
    pgs_cons (pg_name hN hi hx fx) (pgs_cons (pg_name hN hj hy fy) pgs_nil (by rw [h3, h6])) (by rw [h2, h3])
  refine wpAny_Assign_stores ?_ hs hw
  refine Tuple_ (thn (ha.run _ pins s σ H _ I h) ?_)
  rintro us s1 ⟨vs, H1, I1, r1, v, w, rfl, q1⟩
  have r0 := r1
  cases r1 with
  | cons p q =>
    cases q with
    | cons p' q' =>
      cases q'
      refine wpAny_newObj_type ?_ (by show 2 ≤ sizeLine; decide)
      rw [h1]
      refine assign_Tuple_tuple (I1.ok.hd hc) (IsTup.new s1.heap _) (by rw [h4]; rfl) h5 fun h' hx' => ?_
      have old : ∀ (c : Addr) (o : Obj), s1.heap.get? c = some o → h'.get? c = some o := fun c o e => have up := Heap.get?_push_of_some _ e; hx' c o (Nat.ne_of_lt (Heap.lt_size up)) up
      exact thn (both.run pins _ σ H1 [v, w] _ (fun σ' H' => D.nx σ' H') (I1.kept (h' := h') (t' := s1.toks) old) r0 ⟨v, [w], rfl, w, [], rfl, rfl, q1⟩) fun _ s2 q => q
end
/-! ### a call without arguments, of a def that asks that nothing is being shown -/
section
variable {X : Cx} {k : Nat} {f : Addr} {fd : FuncData} {ps : List Str} {sp : Sp} {x : Str} {p pos : Pos}
theorem pe_callGZ (F : FnG X.prog X.w X.K X.mg X.base k f fd ps sp) (gd : X.A.guards = some []) (hr : Room k X.A) (hg : Gl X x) (hm : X.mg x = some (.ref f)) (hk : PySem.W.keepIn X.K (.ref f) = true) (hb : Binds X.K fd ps [])
    (hdb : (x == ("__debug__" : Str)) = false := by decide) : PE X (.Call (.Name x p) [] [] pos) (tCall sp [] E0 tNil) := by
  constructor
  intro pins s σ H Q I h
  have q : sp [] H Q E0 := h
  have hl : ([] : List Value).length = ps.length := F.len _ _ _ _ q
  have bb := hb s [] I.kIn hl
  refine wpAny_Call_Name_kw (ld_glob I hg hm (PySem.W.callWith_K0 I.kIn hk (wpAny_call (codeAny_mono (F.run X.A X.stack s H ⟨[], []⟩ [] [] Q E0 gd hr I.env0 bb .nil q) ?_))) hdb)
  rintro (e | fl) s' hq
  · exact hq.elim
  · cases fl <;> first | exact I.after hq | exact hq.elim
end
end RL
namespace MP
open PySem PySem.Spec PyProof.Rows L2 RL

section
variable {X : Cx} {q : Nat} {W : Str → Hp → Prop} {i j : Nat} {x y : Str} {a b : Expr} {px py pt pos : Pos} {kt k2 pt2}
/-- a, b = data, a new list, where a name is a cell -/
theorem pds_parDNc {f : DE} {g : DL} {k : Nat} (hk : q ≤ k) (hc : X.calm = true) (hN : X.N.Nodup) (hi : X.N[i]? = some x) (hj : X.N[j]? = some y) (hij : i ≠ j) (hx : Loc X.env.scope x) (hy : Loc X.env.scope y) (ha : PD X a f) (hb : PDN X b g)
    (hw : swappedStores [.Tuple [.Name x px, .Name y py] kt pt] (.Tuple [a, b] k2 pt2) X.env = pure none) (hs : swapsWithSole [.Tuple [.Name x px, .Name y py] kt pt] (.Tuple [a, b] k2 pt2) pos.line X.env = pure false := by rfl)
    (s1 : starEach [a, b] X.env = (false, eval a X.env) :: starEach [b] X.env := by rfl) (s2 : starEach [b] X.env = (false, eval b X.env) :: starEach [] X.env := by rfl)
    (fx : X.fn x = true ∨ X.env.scope.names.lookup x = some .local := by first | exact .inl rfl | exact .inr rfl) (fy : X.fn y = true ∨ X.env.scope.names.lookup y = some .local := by first | exact .inl rfl | exact .inr rfl)
    (h1 : (assignEach [.Tuple [.Name x px, .Name y py] kt pt] X.env).map (·.2) = [assign (.Tuple [.Name x px, .Name y py] kt pt) X.env] := by rfl)
    (h2 : (assignEach [.Name x px, .Name y py] X.env).map (·.2) = [assign (.Name x px) X.env, assign (.Name y py) X.env] := by rfl)
    (h3 : (assignEach [.Name y py] X.env).map (·.2) = [assign (.Name y py) X.env] := by rfl)
    (h4 : (assignEach [.Name x px, .Name y py] X.env).length = 2 := by rfl)
    (h5 : (assignEach [.Name x px, .Name y py] X.env).findIdx? (·.1) = none := by rfl)
    (h6 : (assignEach ([] : List Expr) X.env).map (·.2) = [] := by rfl) :
    PDS X q W (.Assign [.Tuple [.Name x px, .Name y py] kt pt] (.Tuple [a, b] k2 pt2) pos) (sParDN i j k f g) :=
  (ps_parC hc hN hi hj hx hy (pa_cons ha (pa_cons hb pa_nil s2) s1) hw hs fx fy h1 h2 h3 h4 h5 h6).imp (tOf_parDN hk)
end
/-- a call without arguments -/
theorem pd_callGZ {X : Cx} {G : FD} {k j : Nat} {x : Str} {p pos : Pos} (c : CalG X.prog X.w X.K X.mg X.base k x (spF X.K 0 G)) (gd : X.A.guards = some []) (hr : Room j X.A) (hk : k ≤ j) (hg : Gl X x) (hdb : (x == ("__debug__" : Str)) = false := by decide) :
    PD X (.Call (.Name x p) [] [] pos) (fCallZ G) := by
  obtain ⟨f, fd, ps, F, hm, kp, b⟩ := c.ex
  exact (pe_callGZ F gd (hr.mono hk) hg hm kp b hdb).imp fun σ H Q h => tOf_callZ σ H Q h
end MP
namespace MP
open PySem PySem.Spec PyProof.Rows L2 RL
def topS (i : Nat) : Stmt := PySem.Challenge.pw_rolluplevels_k33_plans_by_hand.main.body.getD i (.Pass ⟨0, 0, 0, 0⟩)
abbrev s_is_integer : Stmt := topS 6
abbrev N_is_integer : List Str := ["thing"]
theorem sc_is_integer : FnScope N_is_integer ["thing"] (defScope s_is_integer) := ⟨rfl, rfl, rfl, by decide +kernel, rfl, by decide +kernel, by decide +kernel⟩
abbrev s_is_number_from : Stmt := topS 7
abbrev N_is_number_from : List Str := ["thing", "least", "most"]
theorem sc_is_number_from : FnScope N_is_number_from ["thing", "least", "most"] (defScope s_is_number_from) := ⟨rfl, rfl, rfl, by decide +kernel, rfl, by decide +kernel, by decide +kernel⟩
abbrev s_groups_of_step : Stmt := topS 14
abbrev N_groups_of_step : List Str := ["thing", "below", "seen", "part", "many"]
theorem sc_groups_of_step : FnScope N_groups_of_step ["thing", "below"] (defScope s_groups_of_step) := ⟨rfl, rfl, rfl, by decide +kernel, rfl, by decide +kernel, by decide +kernel⟩
abbrev s_is_attribute : Stmt := topS 15
abbrev N_is_attribute : List Str := ["thing", "many", "steps", "below", "step"]
theorem sc_is_attribute : FnScope N_is_attribute ["thing"] (defScope s_is_attribute) := ⟨rfl, rfl, rfl, by decide +kernel, rfl, by decide +kernel, by decide +kernel⟩
abbrev s_choices : Stmt := topS 16
abbrev N_choices : List Str := ["counts", "rows", "many", "row", "number"]
theorem sc_choices : FnScope N_choices ["counts"] (defScope s_choices) := ⟨rfl, rfl, rfl, by decide +kernel, rfl, by decide +kernel, by decide +kernel⟩
abbrev s_count_of_cells : Stmt := topS 17
abbrev N_count_of_cells : List Str := ["scheme", "product", "many", "steps"]
theorem sc_count_of_cells : FnScope N_count_of_cells ["scheme"] (defScope s_count_of_cells) := ⟨rfl, rfl, rfl, by decide +kernel, rfl, by decide +kernel, by decide +kernel⟩
abbrev s_group_count : Stmt := topS 18
abbrev N_group_count : List Str := ["attribute", "level", "many", "steps"]
theorem sc_group_count : FnScope N_group_count ["attribute", "level"] (defScope s_group_count) := ⟨rfl, rfl, rfl, by decide +kernel, rfl, by decide +kernel, by decide +kernel⟩
abbrev s_has_levels_up_to : Stmt := topS 19
abbrev N_has_levels_up_to : List Str := ["one", "other", "level", "higher"]
theorem sc_has_levels_up_to : FnScope N_has_levels_up_to ["one", "other"] (defScope s_has_levels_up_to) := ⟨rfl, rfl, rfl, by decide +kernel, rfl, by decide +kernel, by decide +kernel⟩
abbrev s_rollups_of : Stmt := topS 20
abbrev N_rollups_of : List Str := ["scheme", "many", "steps"]
theorem sc_rollups_of : FnScope N_rollups_of ["scheme"] (defScope s_rollups_of) := ⟨rfl, rfl, rfl, by decide +kernel, rfl, by decide +kernel, by decide +kernel⟩
abbrev s_size_of : Stmt := topS 21
abbrev N_size_of : List Str := ["scheme", "rollup", "product", "attribute", "level"]
theorem sc_size_of : FnScope N_size_of ["scheme", "rollup"] (defScope s_size_of) := ⟨rfl, rfl, rfl, by decide +kernel, rfl, by decide +kernel, by decide +kernel⟩
abbrev s_is_rollup : Stmt := topS 22
abbrev N_is_rollup : List Str := ["scheme", "thing", "part", "many", "steps"]
theorem sc_is_rollup : FnScope N_is_rollup ["scheme", "thing"] (defScope s_is_rollup) := ⟨rfl, rfl, rfl, by decide +kernel, rfl, by decide +kernel, by decide +kernel⟩
abbrev s_are_rollups : Stmt := topS 23
abbrev N_are_rollups : List Str := ["scheme", "thing", "part"]
theorem sc_are_rollups : FnScope N_are_rollups ["scheme", "thing"] (defScope s_are_rollups) := ⟨rfl, rfl, rfl, by decide +kernel, rfl, by decide +kernel, by decide +kernel⟩
abbrev s_is_scheme : Stmt := topS 26
abbrev N_is_scheme : List Str := ["thing", "part"]
theorem sc_is_scheme : FnScope N_is_scheme ["thing"] (defScope s_is_scheme) := ⟨rfl, rfl, rfl, by decide +kernel, rfl, by decide +kernel, by decide +kernel⟩
abbrev s_check_scheme : Stmt := topS 24
abbrev N_check_scheme : List Str := ["scheme"]
theorem sc_check_scheme : FnScope N_check_scheme ["scheme"] (defScope s_check_scheme) := ⟨rfl, rfl, rfl, by decide +kernel, rfl, by decide +kernel, by decide +kernel⟩
abbrev s_check_stored : Stmt := topS 25
abbrev N_check_stored : List Str := ["scheme", "stored"]
theorem sc_check_stored : FnScope N_check_stored ["scheme", "stored"] (defScope s_check_stored) := ⟨rfl, rfl, rfl, by decide +kernel, rfl, by decide +kernel, by decide +kernel⟩
abbrev s_sizes_for : Stmt := topS 29
abbrev N_sizes_for : List Str := ["scheme", "rollup", "wanted", "many", "other"]
theorem sc_sizes_for : FnScope N_sizes_for ["scheme", "rollup", "wanted"] (defScope s_sizes_for) := ⟨rfl, rfl, rfl, by decide +kernel, rfl, by decide +kernel, by decide +kernel⟩
abbrev s_least_of : Stmt := topS 30
abbrev N_least_of : List Str := ["numbers", "number"]
theorem sc_least_of : FnScope N_least_of ["numbers"] (defScope s_least_of) := ⟨rfl, rfl, rfl, by decide +kernel, rfl, by decide +kernel, by decide +kernel⟩
abbrev s_least_sizes : Stmt := topS 31
abbrev N_least_sizes : List Str := ["rows", "wanted", "at", "row"]
theorem sc_least_sizes : FnScope N_least_sizes ["rows", "wanted"] (defScope s_least_sizes) := ⟨rfl, rfl, rfl, by decide +kernel, rfl, by decide +kernel, by decide +kernel⟩
abbrev s_stored_sizes : Stmt := topS 32
abbrev N_stored_sizes : List Str := ["scheme", "stored", "wanted", "rollup"]
theorem sc_stored_sizes : FnScope N_stored_sizes ["scheme", "stored", "wanted"] (defScope s_stored_sizes) := ⟨rfl, rfl, rfl, by decide +kernel, rfl, by decide +kernel, by decide +kernel⟩
abbrev s_total_of : Stmt := topS 33
abbrev N_total_of : List Str := ["sizes"]
theorem sc_total_of : FnScope N_total_of ["sizes"] (defScope s_total_of) := ⟨rfl, rfl, rfl, by decide +kernel, rfl, by decide +kernel, by decide +kernel⟩
abbrev s_selections : Stmt := topS 34
abbrev N_selections : List Str := ["ascending", "many", "rollup", "one", "other"]
theorem sc_selections : FnScope N_selections ["ascending", "many"] (defScope s_selections) := ⟨rfl, rfl, rfl, by decide +kernel, rfl, by decide +kernel, by decide +kernel⟩
abbrev s_check_many : Stmt := topS 35
abbrev N_check_many : List Str := ["many"]
theorem sc_check_many : FnScope N_check_many ["many"] (defScope s_check_many) := ⟨rfl, rfl, rfl, by decide +kernel, rfl, by decide +kernel, by decide +kernel⟩
abbrev s_check_stored_and_all_wanted : Stmt := topS 36
abbrev N_check_stored_and_all_wanted : List Str := ["scheme", "stored", "wanted"]
theorem sc_check_stored_and_all_wanted : FnScope N_check_stored_and_all_wanted ["scheme", "stored", "wanted"] (defScope s_check_stored_and_all_wanted) := ⟨rfl, rfl, rfl, by decide +kernel, rfl, by decide +kernel, by decide +kernel⟩
abbrev s_needed : Stmt := topS 37
abbrev N_needed : List Str := ["scheme", "wanted", "rollup", "other"]
theorem sc_needed : FnScope N_needed ["scheme", "wanted"] (defScope s_needed) := ⟨rfl, rfl, rfl, by decide +kernel, rfl, by decide +kernel, by decide +kernel⟩
abbrev s_cost : Stmt := topS 38
abbrev N_cost : List Str := ["scheme", "stored", "wanted"]
theorem sc_cost : FnScope N_cost ["scheme", "stored", "wanted"] (defScope s_cost) := ⟨rfl, rfl, rfl, by decide +kernel, rfl, by decide +kernel, by decide +kernel⟩
abbrev s_best : Stmt := topS 39
abbrev N_best : List Str := ["scheme", "stored", "wanted", "many", "known", "rows", "costs", "rollup", "more", "pair"]
theorem sc_best : FnScope N_best ["scheme", "stored", "wanted", "many"] (defScope s_best) := ⟨rfl, rfl, rfl, by decide +kernel, rfl, by decide +kernel, by decide +kernel⟩
abbrev s__law_cell : Stmt := topS 41
abbrev N__law_cell : List Str := ["_law_script", "_law_index"]
theorem sc__law_cell : FnScope N__law_cell ["_law_script", "_law_index"] (defScope s__law_cell) := ⟨rfl, rfl, rfl, by decide +kernel, rfl, by decide +kernel, by decide +kernel⟩
abbrev s__law_source : Stmt := topS 42
abbrev N__law_source : List Str := ["_law_cell_here"]
theorem sc__law_source : FnScope N__law_source ["_law_cell_here"] (defScope s__law_source) := ⟨rfl, rfl, rfl, by decide +kernel, rfl, by decide +kernel, by decide +kernel⟩
abbrev s__law_draw : Stmt := topS 43
abbrev N__law_draw : List Str := ["_law_supply", "_law_many", "_law_found", "_law_mixed"]
theorem sc__law_draw : FnScope N__law_draw ["_law_supply", "_law_many"] (defScope s__law_draw) := ⟨rfl, rfl, rfl, by decide +kernel, rfl, by decide +kernel, by decide +kernel⟩
abbrev s__law_is_equal : Stmt := topS 44
abbrev N__law_is_equal : List Str := ["_law_actual", "_law_due"]
theorem sc__law_is_equal : FnScope N__law_is_equal ["_law_actual", "_law_due"] (defScope s__law_is_equal) := ⟨rfl, rfl, rfl, by decide +kernel, rfl, by decide +kernel, by decide +kernel⟩
abbrev s__law_first_right : Stmt := topS 45
abbrev N__law_first_right : List Str := ["_law_turn", "_law_scheme", "_law_stored", "_law_wanted", "_law_told"]
theorem sc__law_first_right : FnScope N__law_first_right ["_law_turn"] (defScope s__law_first_right) := ⟨rfl, rfl, rfl, by decide +kernel, rfl, by decide +kernel, by decide +kernel⟩
abbrev s__law_small_right : Stmt := topS 46
abbrev N__law_small_right : List Str := ["_law_one", "_law_two", "_law_told"]
theorem sc__law_small_right : FnScope N__law_small_right [] (defScope s__law_small_right) := ⟨rfl, rfl, rfl, by decide +kernel, rfl, by decide +kernel, by decide +kernel⟩
abbrev s_law : Stmt := topS 47
abbrev N_law : List Str := ["_law_script", "_law_k"]
theorem sc_law : FnScope N_law ["_law_script"] (defScope s_law) := ⟨rfl, rfl, rfl, by decide +kernel, rfl, by decide +kernel, by decide +kernel⟩
section
variable {P : Program} {w : World} {K : PySem.W.Frag} {mg : Str → Option Value} {base : Heap}
theorem pd_is_integer (D : Df K mg "is_integer" s_is_integer) (Z : Zs mg) : C8.Cal P w K mg base 1 "is_integer" (spF K 1 F_is_integer) [] :=
  mk_cal (W := fun _ _ => True) (N := N_is_integer) (ps := ["thing"]) (n := 1) (p := 0) (q := 0) D sc_is_integer rfl (fun _ _ _ _ _ _ us hl => match us, hl with | [_], _ => rfl) fun f0 cdv A outer s H E hr => (pdss_one (pds_ret (pd_and (pd_isi (by rfl) Z.z_isinstance (by rfl) Z.z_int (by decide +kernel) (pdv 0)) (pd_and (pd_cmp op_isNotU od_isNot (pdv 0) pd_bl (nomark _)) (pd_one (pd_cmp op_isNotU od_isNot (pdv 0) pd_bl (nomark _)))))))
theorem pd_is_number_from (D : Df K mg "is_number_from" s_is_number_from) (Z : Zs mg) (C_is_integer : C8.Cal P w K mg base 1 "is_integer" (spF K 1 F_is_integer) []) : C8.Cal P w K mg base 2 "is_number_from" (spF K 3 F_is_number_from) [] :=
  mk_cal (W := fun _ _ => True) (N := N_is_number_from) (ps := ["thing", "least", "most"]) (n := 3) (p := 0) (q := 0) D sc_is_number_from rfl (fun _ _ _ _ _ _ us hl => match us, hl with | [_, _, _], _ => rfl) fun f0 cdv A outer s H E hr => (pdss_one (pds_ret (pd_and (pd_call0 C_is_integer hr (by decide) (by rfl) (pda_cons (pdv 0) pda_nil) (aCons_len (fun _ _ _ h => aNil_len h))) (pd_one (pd_chain op_le od_le op_le od_le (pdv 1) (pdv 0) (pdv 2))))))
theorem pd_groups_of_step (D : Df K mg "groups_of_step" s_groups_of_step) (Z : Zs mg) : C8.Cal P w K mg base 1 "groups_of_step" (spF K 2 F_groups_of_step) [] :=
  mk_cal (W := fun _ _ => True) (N := N_groups_of_step) (ps := ["thing", "below"]) (n := 2) (p := 0) (q := 0) D sc_groups_of_step rfl (fun _ _ _ _ _ _ us hl => match us, hl with | [_, _], _ => rfl) fun f0 cdv A outer s H E hr => (pdss_cons (pds_if (pdb_w (pdw_or (pdb_not (pdb_val (pd_isi (by rfl) Z.z_isinstance (by rfl) Z.z_tuple (by decide +kernel) (pdv 0)))) (pdw_or1 (pdb_cmp (op_neU hr.units) od_ne (pd_callB cr_lenU cd_len (by rfl) Z.z_len PySem.boot_len (pda_cons (pdv 0) pda_nil)) (pdv 1) (nomark _))))) (pdss_one (pds_ret pd_int)) pdss_nil)
      (pdss_cons (pds_set (i := 2) sc_groups_of_step.nd rfl (.inl rfl) pd_int)
      (pdss_cons (pds_for PassesOwn.never rfl (pdi_seq (pdv 0)) (pdg_nm (i := 3) sc_groups_of_step.nd rfl (.inl rfl))
      (pdss_cons (pds_if (pdb_w (pdw_or (pdb_not (pdb_val (pd_isi (by rfl) Z.z_isinstance (by rfl) Z.z_int (by decide +kernel) (pdv 3)))) (pdw_or (pdb_cmp op_isU od_is (pdv 3) pd_bl (nomark _)) (pdw_or (pdb_cmp op_isU od_is (pdv 3) pd_bl (nomark _)) (pdw_or1 (pdb_not (pdb_chain op_le od_le op_lt od_lt pd_int (pdv 3) (pdv 1)))))))) (pdss_one (pds_ret pd_int)) pdss_nil)
      (pdss_one (pds_set (i := 2) sc_groups_of_step.nd rfl (.inl rfl) (pd_op op_or od_bor (pdv 2) (pd_op op_shl od_shl pd_int (pdv 3)))))))
      (pdss_cons (pds_set (i := 4) sc_groups_of_step.nd rfl (.inl rfl) (pd_bits (pdv 2)))
      (pdss_one (pds_ret (pd_if (pdb_w (pdw_and (pdb_cmp op_lt od_lt (pdv 4) (pdv 1) (nomark _)) (pdw_and1 (pdb_cmp (op_eqU hr.units) od_eq (pd_op op_addU od_add (pdv 2) pd_int) (pd_op op_shl od_shl pd_int (pdv 4)) (nomark _))))) (pdv 4) pd_int)))))))
theorem pd_is_attribute (D : Df K mg "is_attribute" s_is_attribute) (Z : Zs mg) {t_MOST_VALUES : Tok} (m_MOST_VALUES : mg "MOST_VALUES" = some (.int 6 t_MOST_VALUES)) {t_MOST_STEPS : Tok} (m_MOST_STEPS : mg "MOST_STEPS" = some (.int 3 t_MOST_STEPS)) (C_is_number_from : C8.Cal P w K mg base 2 "is_number_from" (spF K 3 F_is_number_from) []) (C_groups_of_step : C8.Cal P w K mg base 1 "groups_of_step" (spF K 2 F_groups_of_step) []) : C8.Cal P w K mg base 3 "is_attribute" (spF K 1 F_is_attribute) [] :=
  mk_cal (W := fun _ _ => True) (N := N_is_attribute) (ps := ["thing"]) (n := 1) (p := 0) (q := 0) D sc_is_attribute rfl (fun _ _ _ _ _ _ us hl => match us, hl with | [_], _ => rfl) fun f0 cdv A outer s H E hr => (pdss_cons (pds_if (pdb_w (pdw_or (pdb_not (pdb_val (pd_isi (by rfl) Z.z_isinstance (by rfl) Z.z_tuple (by decide +kernel) (pdv 0)))) (pdw_or1 (pdb_cmp (op_neU hr.units) od_ne (pd_callB cr_lenU cd_len (by rfl) Z.z_len PySem.boot_len (pda_cons (pdv 0) pda_nil)) pd_int (nomark _))))) (pdss_one (pds_ret pd_bl)) pdss_nil)
      (pdss_cons (pds_asg (pdv 0) (pdg_tp (n := 2) rfl (pdgs_cons (pdg_nm (i := 1) sc_is_attribute.nd rfl (.inl rfl)) (pdgs_cons (pdg_nm (i := 2) sc_is_attribute.nd rfl (.inl rfl)) pdgs_nil))))
      (pdss_cons (pds_if (pdb_w (pdw_or (pdb_not (pdb_val (pd_call0 C_is_number_from hr (by decide) (by rfl) (pda_cons (pdv 1) (pda_cons pd_int (pda_cons (pd_globI (by rfl) m_MOST_VALUES) pda_nil))) (aCons_len (aCons_len (aCons_len (fun _ _ _ h => aNil_len h))))))) (pdw_or (pdb_not (pdb_val (pd_isi (by rfl) Z.z_isinstance (by rfl) Z.z_tuple (by decide +kernel) (pdv 2)))) (pdw_or1 (pdb_cmp op_gt od_gt (pd_callB cr_lenU cd_len (by rfl) Z.z_len PySem.boot_len (pda_cons (pdv 2) pda_nil)) (pd_globI (by rfl) m_MOST_STEPS) (nomark _)))))) (pdss_one (pds_ret pd_bl)) pdss_nil)
      (pdss_cons (pds_set (i := 3) sc_is_attribute.nd rfl (.inl rfl) (pdv 1))
      (pdss_cons (pds_for PassesOwn.never rfl (pdi_seq (pdv 2)) (pdg_nm (i := 4) sc_is_attribute.nd rfl (.inl rfl))
      (pdss_cons (pds_set (i := 3) sc_is_attribute.nd rfl (.inl rfl) (pd_call0 C_groups_of_step hr (by decide) (by rfl) (pda_cons (pdv 4) (pda_cons (pdv 3) pda_nil)) (aCons_len (aCons_len (fun _ _ _ h => aNil_len h)))))
      (pdss_one (pds_if (pdb_cmp (op_eqU hr.units) od_eq (pdv 3) pd_int (nomark _)) (pdss_one (pds_ret pd_bl)) pdss_nil))))
      (pdss_one (pds_ret pd_bl)))))))
theorem pd_choices (D : Df K mg "choices" s_choices) (Z : Zs mg) : C8.Cal P w K mg base 1 "choices" (spF K 1 F_choices) [] :=
  mk_cal (W := fun _ _ => True) (N := N_choices) (ps := ["counts"]) (n := 1) (p := 0) (q := 0) D sc_choices rfl (fun _ _ _ _ _ _ us hl => match us, hl with | [_], _ => rfl) fun f0 cdv A outer s H E hr => (pdss_cons (pds_set (i := 1) sc_choices.nd rfl (.inl rfl) (pd_ofN (pdn_lst (pda_cons (pd_tup pda_nil) pda_nil))))
      (pdss_cons (pds_for PassesOwn.never rfl (pdi_seq (pdv 0)) (pdg_nm (i := 2) sc_choices.nd rfl (.inr rfl))
      (pdss_one (pds_setLc2 (i := 1) (own := [("row", 3), ("number", 4)]) (t := (.nm 3)) (t1 := (.nm 4)) (vs1 := [4]) rfl sc_choices.nd rfl rfl (sw_true rfl rfl rfl (by decide +kernel)) (pdi_seq (pdv 1)) (blkOk_by (own := [("row", 3), ("number", 4)]) (N := N_choices) (sc := defScope s_choices) (by decide +kernel)) (by decide) (by decide) (by decide) (fun _ _ _ _ _ => (pdg_nm (i := 3) sc_choices.nd rfl (by first | exact Or.inl rfl | exact Or.inr rfl))) (fun _ _ _ _ _ => pdts_nil) (fun _ _ _ _ _ => (pdi_range1 (by rfl) Z.z_range (pda_cons (pdv 2) pda_nil))) (fun _ _ _ _ _ => (pdg_nm (i := 4) sc_choices.nd rfl (by first | exact Or.inl rfl | exact Or.inr rfl))) (fun _ _ _ _ _ => pdts_nil) (fun _ _ _ _ _ => (pd_tup (pda_star (pdv 3) (pda_cons (pdv 4) pda_nil)))))))
      (pdss_one (pds_ret (pdv 1)))))
theorem pd_count_of_cells (D : Df K mg "count_of_cells" s_count_of_cells) (Z : Zs mg) : C8.Cal P w K mg base 1 "count_of_cells" (spF K 1 F_count_of_cells) [] :=
  mk_cal (W := fun _ _ => True) (N := N_count_of_cells) (ps := ["scheme"]) (n := 1) (p := 0) (q := 0) D sc_count_of_cells rfl (fun _ _ _ _ _ _ us hl => match us, hl with | [_], _ => rfl) fun f0 cdv A outer s H E hr => (pdss_cons (pds_set (i := 1) sc_count_of_cells.nd rfl (.inl rfl) pd_int)
      (pdss_cons (pds_for PassesOwn.never rfl (pdi_seq (pdv 0)) (pdg_tp (n := 2) rfl (pdgs_cons (pdg_nm (i := 2) sc_count_of_cells.nd rfl (.inl rfl)) (pdgs_cons (pdg_nm (i := 3) sc_count_of_cells.nd rfl (.inl rfl)) pdgs_nil)))
      (pdss_one (pds_set (i := 1) sc_count_of_cells.nd rfl (.inl rfl) (pd_op op_mulU od_mul (pdv 1) (pdv 2)))))
      (pdss_one (pds_ret (pdv 1)))))
theorem pd_group_count (D : Df K mg "group_count" s_group_count) (Z : Zs mg) : C8.Cal P w K mg base 1 "group_count" (spF K 2 F_group_count) [] :=
  mk_cal (W := fun _ _ => True) (N := N_group_count) (ps := ["attribute", "level"]) (n := 2) (p := 0) (q := 0) D sc_group_count rfl (fun _ _ _ _ _ _ us hl => match us, hl with | [_, _], _ => rfl) fun f0 cdv A outer s H E hr => (pdss_cons (pds_asg (pdv 0) (pdg_tp (n := 2) rfl (pdgs_cons (pdg_nm (i := 2) sc_group_count.nd rfl (.inl rfl)) (pdgs_cons (pdg_nm (i := 3) sc_group_count.nd rfl (.inl rfl)) pdgs_nil))))
      (pdss_one (pds_ret (pd_if (pdb_cmp (op_eqU hr.units) od_eq (pdv 1) pd_int (nomark _)) (pdv 2) (pd_op op_addU od_add (pd_callB (cr_maxU rfl hr.units) cd_max (by rfl) Z.z_max (by decide +kernel) (pda_cons (pd_ix (pdv 3) (pd_op op_sub od_sub (pdv 1) pd_int) (fun _ _ => rfl)) pda_nil)) pd_int)))))
theorem pd_has_levels_up_to (D : Df K mg "has_levels_up_to" s_has_levels_up_to) (Z : Zs mg) : C8.Cal P w K mg base 1 "has_levels_up_to" (spF K 2 F_has_levels_up_to) [] :=
  mk_cal (W := fun _ _ => True) (N := N_has_levels_up_to) (ps := ["one", "other"]) (n := 2) (p := 0) (q := 0) D sc_has_levels_up_to rfl (fun _ _ _ _ _ _ us hl => match us, hl with | [_, _], _ => rfl) fun f0 cdv A outer s H E hr => (pdss_cons (pds_for PassesOwn.never rfl (pdi_zip2 (by rfl) Z.z_zip (pda_cons (pdv 0) (pda_cons (pdv 1) pda_nil))) (pdg_tp (n := 2) rfl (pdgs_cons (pdg_nm (i := 2) sc_has_levels_up_to.nd rfl (.inl rfl)) (pdgs_cons (pdg_nm (i := 3) sc_has_levels_up_to.nd rfl (.inl rfl)) pdgs_nil)))
      (pdss_one (pds_if (pdb_cmp op_gt od_gt (pdv 2) (pdv 3) (nomark _)) (pdss_one (pds_ret pd_bl)) pdss_nil)))
      (pdss_one (pds_ret pd_bl)))
theorem pd_rollups_of (D : Df K mg "rollups_of" s_rollups_of) (Z : Zs mg) (C_choices : C8.Cal P w K mg base 1 "choices" (spF K 1 F_choices) []) : C8.Cal P w K mg base 2 "rollups_of" (spF K 1 F_rollups_of) [] :=
  mk_cal (W := fun _ _ => True) (N := N_rollups_of) (ps := ["scheme"]) (n := 1) (p := 0) (q := 0) D sc_rollups_of rfl (fun _ _ _ _ _ _ us hl => match us, hl with | [_], _ => rfl) fun f0 cdv A outer s H E hr => (pdss_one (pds_ret (pd_call0 C_choices hr (by decide) (by rfl) (pda_cons (pd_ofN (pdn_lc (own := [("many", 1), ("steps", 2)]) (t := (.tp 2 (.cons (.nm 1) (.cons (.nm 2) .nil)))) rfl sc_rollups_of.nd (pdi_seq (pdv 0)) (blkOk_by (own := [("many", 1), ("steps", 2)]) (N := N_rollups_of) (sc := defScope s_rollups_of) (by decide +kernel)) (by decide) (fun _ _ _ _ _ => (pdg_tp (n := 2) rfl (pdgs_cons (pdg_nm (i := 1) sc_rollups_of.nd rfl (by first | exact Or.inl rfl | exact Or.inr rfl)) (pdgs_cons (pdg_nm (i := 2) sc_rollups_of.nd rfl (by first | exact Or.inl rfl | exact Or.inr rfl)) pdgs_nil)))) (fun _ _ _ _ _ => pdts_nil) (fun _ _ _ _ _ => (pd_op op_addU od_add (pd_callB cr_lenU cd_len (by rfl) Z.z_len PySem.boot_len (pda_cons (pdv 2) pda_nil)) pd_int)))) pda_nil) (aCons_len (fun _ _ _ h => aNil_len h)))))
theorem pd_size_of (D : Df K mg "size_of" s_size_of) (Z : Zs mg) (C_group_count : C8.Cal P w K mg base 1 "group_count" (spF K 2 F_group_count) []) : C8.Cal P w K mg base 2 "size_of" (spF K 2 F_size_of) [] :=
  mk_cal (W := fun _ _ => True) (N := N_size_of) (ps := ["scheme", "rollup"]) (n := 2) (p := 0) (q := 0) D sc_size_of rfl (fun _ _ _ _ _ _ us hl => match us, hl with | [_, _], _ => rfl) fun f0 cdv A outer s H E hr => (pdss_cons (pds_set (i := 2) sc_size_of.nd rfl (.inl rfl) pd_int)
      (pdss_cons (pds_for PassesOwn.never rfl (pdi_zip2 (by rfl) Z.z_zip (pda_cons (pdv 0) (pda_cons (pdv 1) pda_nil))) (pdg_tp (n := 2) rfl (pdgs_cons (pdg_nm (i := 3) sc_size_of.nd rfl (.inl rfl)) (pdgs_cons (pdg_nm (i := 4) sc_size_of.nd rfl (.inl rfl)) pdgs_nil)))
      (pdss_one (pds_set (i := 2) sc_size_of.nd rfl (.inl rfl) (pd_op op_mulU od_mul (pdv 2) (pd_call0 C_group_count hr (by decide) (by rfl) (pda_cons (pdv 3) (pda_cons (pdv 4) pda_nil)) (aCons_len (aCons_len (fun _ _ _ h => aNil_len h))))))))
      (pdss_one (pds_ret (pdv 2)))))
theorem pd_is_rollup (D : Df K mg "is_rollup" s_is_rollup) (Z : Zs mg) : C8.Cal P w K mg base 1 "is_rollup" (spF K 2 F_is_rollup) [] :=
  mk_cal (W := fun _ _ => True) (N := N_is_rollup) (ps := ["scheme", "thing"]) (n := 2) (p := 0) (q := 0) D sc_is_rollup rfl (fun _ _ _ _ _ _ us hl => match us, hl with | [_, _], _ => rfl) fun f0 cdv A outer s H E hr => (pdss_cons (pds_if (pdb_w (pdw_or (pdb_not (pdb_val (pd_isi (by rfl) Z.z_isinstance (by rfl) Z.z_tuple (by decide +kernel) (pdv 1)))) (pdw_or1 (pdb_cmp (op_neU hr.units) od_ne (pd_callB cr_lenU cd_len (by rfl) Z.z_len PySem.boot_len (pda_cons (pdv 1) pda_nil)) (pd_callB cr_lenU cd_len (by rfl) Z.z_len PySem.boot_len (pda_cons (pdv 0) pda_nil)) (nomark _))))) (pdss_one (pds_ret pd_bl)) pdss_nil)
      (pdss_cons (pds_for PassesOwn.never rfl (pdi_zip2 (by rfl) Z.z_zip (pda_cons (pdv 1) (pda_cons (pdv 0) pda_nil))) (pdg_tp (n := 2) rfl (pdgs_cons (pdg_nm (i := 2) sc_is_rollup.nd rfl (.inl rfl)) (pdgs_cons (pdg_tp (n := 2) rfl (pdgs_cons (pdg_nm (i := 3) sc_is_rollup.nd rfl (.inl rfl)) (pdgs_cons (pdg_nm (i := 4) sc_is_rollup.nd rfl (.inl rfl)) pdgs_nil))) pdgs_nil)))
      (pdss_one (pds_if (pdb_w (pdw_or (pdb_not (pdb_val (pd_isi (by rfl) Z.z_isinstance (by rfl) Z.z_int (by decide +kernel) (pdv 2)))) (pdw_or (pdb_cmp op_isU od_is (pdv 2) pd_bl (nomark _)) (pdw_or (pdb_cmp op_isU od_is (pdv 2) pd_bl (nomark _)) (pdw_or1 (pdb_not (pdb_chain op_le od_le op_le od_le pd_int (pdv 2) (pd_callB cr_lenU cd_len (by rfl) Z.z_len PySem.boot_len (pda_cons (pdv 4) pda_nil))))))))) (pdss_one (pds_ret pd_bl)) pdss_nil)))
      (pdss_one (pds_ret pd_bl))))
theorem pd_are_rollups (D : Df K mg "are_rollups" s_are_rollups) (Z : Zs mg) {t_MOST_STORED : Tok} (m_MOST_STORED : mg "MOST_STORED" = some (.int 8 t_MOST_STORED)) (C_is_rollup : C8.Cal P w K mg base 1 "is_rollup" (spF K 2 F_is_rollup) []) : C8.Cal P w K mg base 2 "are_rollups" (spF K 2 F_are_rollups) [] :=
  mk_cal (W := fun _ _ => True) (N := N_are_rollups) (ps := ["scheme", "thing"]) (n := 2) (p := 0) (q := 0) D sc_are_rollups rfl (fun _ _ _ _ _ _ us hl => match us, hl with | [_, _], _ => rfl) fun f0 cdv A outer s H E hr => (pdss_cons (pds_if (pdb_w (pdw_or (pdb_not (pdb_val (pd_isi (by rfl) Z.z_isinstance (by rfl) Z.z_tuple (by decide +kernel) (pdv 1)))) (pdw_or1 (pdb_cmp op_gt od_gt (pd_callB cr_lenU cd_len (by rfl) Z.z_len PySem.boot_len (pda_cons (pdv 1) pda_nil)) (pd_globI (by rfl) m_MOST_STORED) (nomark _))))) (pdss_one (pds_ret pd_bl)) pdss_nil)
      (pdss_cons (pds_for PassesOwn.never rfl (pdi_seq (pdv 1)) (pdg_nm (i := 2) sc_are_rollups.nd rfl (.inl rfl))
      (pdss_one (pds_if (pdb_not (pdb_val (pd_call0 C_is_rollup hr (by decide) (by rfl) (pda_cons (pdv 0) (pda_cons (pdv 2) pda_nil)) (aCons_len (aCons_len (fun _ _ _ h => aNil_len h)))))) (pdss_one (pds_ret pd_bl)) pdss_nil)))
      (pdss_one (pds_ret pd_bl))))
theorem pd_is_scheme (D : Df K mg "is_scheme" s_is_scheme) (Z : Zs mg) {t_MOST_ATTRIBUTES : Tok} (m_MOST_ATTRIBUTES : mg "MOST_ATTRIBUTES" = some (.int 3 t_MOST_ATTRIBUTES)) {t_MOST_CELLS : Tok} (m_MOST_CELLS : mg "MOST_CELLS" = some (.int 60 t_MOST_CELLS)) (C_is_attribute : C8.Cal P w K mg base 3 "is_attribute" (spF K 1 F_is_attribute) []) (C_count_of_cells : C8.Cal P w K mg base 1 "count_of_cells" (spF K 1 F_count_of_cells) []) : C8.Cal P w K mg base 4 "is_scheme" (spF K 1 F_is_scheme) [] :=
  mk_cal (W := fun _ _ => True) (N := N_is_scheme) (ps := ["thing"]) (n := 1) (p := 0) (q := 0) D sc_is_scheme rfl (fun _ _ _ _ _ _ us hl => match us, hl with | [_], _ => rfl) fun f0 cdv A outer s H E hr => (pdss_cons (pds_if (pdb_w (pdw_or (pdb_not (pdb_val (pd_isi (by rfl) Z.z_isinstance (by rfl) Z.z_tuple (by decide +kernel) (pdv 0)))) (pdw_or1 (pdb_not (pdb_chain op_le od_le op_le od_le pd_int (pd_callB cr_lenU cd_len (by rfl) Z.z_len PySem.boot_len (pda_cons (pdv 0) pda_nil)) (pd_globI (by rfl) m_MOST_ATTRIBUTES)))))) (pdss_one (pds_ret pd_bl)) pdss_nil)
      (pdss_cons (pds_for PassesOwn.never rfl (pdi_seq (pdv 0)) (pdg_nm (i := 1) sc_is_scheme.nd rfl (.inl rfl))
      (pdss_one (pds_if (pdb_not (pdb_val (pd_call0 C_is_attribute hr (by decide) (by rfl) (pda_cons (pdv 1) pda_nil) (aCons_len (fun _ _ _ h => aNil_len h))))) (pdss_one (pds_ret pd_bl)) pdss_nil)))
      (pdss_one (pds_ret (pd_cmp op_le od_le (pd_call0 C_count_of_cells hr (by decide) (by rfl) (pda_cons (pdv 0) pda_nil) (aCons_len (fun _ _ _ h => aNil_len h))) (pd_globI (by rfl) m_MOST_CELLS) (nomark _))))))
theorem pd_check_scheme (D : Df K mg "check_scheme" s_check_scheme) (Z : Zs mg) (C_is_scheme : C8.Cal P w K mg base 4 "is_scheme" (spF K 1 F_is_scheme) []) : C8.Cal P w K mg base 5 "check_scheme" (spF K 1 F_check_scheme) [] :=
  mk_cal (W := fun _ _ => True) (N := N_check_scheme) (ps := ["scheme"]) (n := 1) (p := 0) (q := 0) D sc_check_scheme rfl (fun _ _ _ _ _ _ us hl => match us, hl with | [_], _ => rfl) fun f0 cdv A outer s H E hr => (pdss_one (pds_if (pdb_not (pdb_val (pd_call0 C_is_scheme hr (by decide) (by rfl) (pda_cons (pdv 0) pda_nil) (aCons_len (fun _ _ _ h => aNil_len h))))) (pdss_one pds_never) pdss_nil))
theorem pd_check_stored (D : Df K mg "check_stored" s_check_stored) (Z : Zs mg) (C_are_rollups : C8.Cal P w K mg base 2 "are_rollups" (spF K 2 F_are_rollups) []) : C8.Cal P w K mg base 3 "check_stored" (spF K 2 F_check_stored) [] :=
  mk_cal (W := fun _ _ => True) (N := N_check_stored) (ps := ["scheme", "stored"]) (n := 2) (p := 0) (q := 0) D sc_check_stored rfl (fun _ _ _ _ _ _ us hl => match us, hl with | [_, _], _ => rfl) fun f0 cdv A outer s H E hr => (pdss_one (pds_if (pdb_not (pdb_val (pd_call0 C_are_rollups hr (by decide) (by rfl) (pda_cons (pdv 0) (pda_cons (pdv 1) pda_nil)) (aCons_len (aCons_len (fun _ _ _ h => aNil_len h)))))) (pdss_one pds_never) pdss_nil))
theorem pd_sizes_for (D : Df K mg "sizes_for" s_sizes_for) (Z : Zs mg) (C_has_levels_up_to : C8.Cal P w K mg base 1 "has_levels_up_to" (spF K 2 F_has_levels_up_to) []) (C_size_of : C8.Cal P w K mg base 2 "size_of" (spF K 2 F_size_of) []) : C8.Cal P w K mg base 3 "sizes_for" (spF K 3 F_sizes_for) [] :=
  mk_cal (W := fun _ _ => True) (N := N_sizes_for) (ps := ["scheme", "rollup", "wanted"]) (n := 3) (p := 0) (q := 0) D sc_sizes_for rfl (fun _ _ _ _ _ _ us hl => match us, hl with | [_, _, _], _ => rfl) fun f0 cdv A outer s H E hr => (pdss_cons (pds_set (i := 3) sc_sizes_for.nd rfl (.inr rfl) (pd_call0 C_size_of hr (by decide) (by rfl) (pda_cons (pdv 0) (pda_cons (pdv 1) pda_nil)) (aCons_len (aCons_len (fun _ _ _ h => aNil_len h)))))
      (pdss_one (pds_ret (pd_ofN (pdn_lc (own := [("other", 4)]) (t := (.nm 4)) rfl sc_sizes_for.nd (pdi_seq (pdv 2)) (blkOk_by (own := [("other", 4)]) (N := N_sizes_for) (sc := defScope s_sizes_for) (by decide +kernel)) (by decide) (fun _ _ _ _ _ => (pdg_nm (i := 4) sc_sizes_for.nd rfl (by first | exact Or.inl rfl | exact Or.inr rfl))) (fun _ _ _ _ _ => pdts_nil) (fun _ _ _ _ _ => (pd_if (pdb_val (pd_call0 C_has_levels_up_to hr (by decide) (by rfl) (pda_cons (pdv 1) (pda_cons (pdv 4) pda_nil)) (aCons_len (aCons_len (fun _ _ _ h => aNil_len h))))) (pdv 3) pd_non)))))))
theorem pd_least_of (D : Df K mg "least_of" s_least_of) (Z : Zs mg) : C8.Cal P w K mg base 1 "least_of" (spF K 1 F_least_of) [] :=
  mk_cal (W := fun _ _ => True) (N := N_least_of) (ps := ["numbers"]) (n := 1) (p := 0) (q := 0) D sc_least_of rfl (fun _ _ _ _ _ _ us hl => match us, hl with | [_], _ => rfl) fun f0 cdv A outer s H E hr => (pdss_one (pds_ret (pd_minD rfl hr.units (by rfl) Z.z_min (pd_ofN (pdn_lc (own := [("number", 1)]) (t := (.nm 1)) rfl sc_least_of.nd (pdi_seq (pdv 0)) (blkOk_by (own := [("number", 1)]) (N := N_least_of) (sc := defScope s_least_of) (by decide +kernel)) (by decide) (fun _ _ _ _ _ => (pdg_nm (i := 1) sc_least_of.nd rfl (by first | exact Or.inl rfl | exact Or.inr rfl))) (fun _ _ _ _ _ => (pdts_one (pdb_cmp op_isNotU od_isNot (pdv 1) pd_non (nomark _)))) (fun _ _ _ _ _ => (pdv 1)))) pd_non)))
theorem pd_least_sizes (D : Df K mg "least_sizes" s_least_sizes) (Z : Zs mg) (C_least_of : C8.Cal P w K mg base 1 "least_of" (spF K 1 F_least_of) []) : C8.Cal P w K mg base 2 "least_sizes" (spF K 2 F_least_sizes) [] :=
  mk_cal (W := fun _ _ => True) (N := N_least_sizes) (ps := ["rows", "wanted"]) (n := 2) (p := 0) (q := 0) D sc_least_sizes rfl (fun _ _ _ _ _ _ us hl => match us, hl with | [_, _], _ => rfl) fun f0 cdv A outer s H E hr => (pdss_one (pds_ret (pd_ofN (pdn_lc (own := [("at", 2)]) (t := (.nm 2)) rfl sc_least_sizes.nd (pdi_range1 (by rfl) Z.z_range (pda_cons (pd_callB cr_lenU cd_len (by rfl) Z.z_len PySem.boot_len (pda_cons (pdv 1) pda_nil)) pda_nil)) (blkOk_by (own := [("at", 2)]) (N := N_least_sizes) (sc := defScope s_least_sizes) (by decide +kernel)) (by decide) (fun _ _ _ _ _ => (pdg_nm (i := 2) sc_least_sizes.nd rfl (by first | exact Or.inl rfl | exact Or.inr rfl))) (fun _ _ _ _ _ => pdts_nil) (fun _ _ _ _ _ => (pd_call0 C_least_of hr (by decide) (by rfl) (pda_cons (pd_ofN (pdn_lc (own := [("row", 3)]) (t := (.nm 3)) rfl sc_least_sizes.nd (pdi_seq (pdv 0)) (by show BlkOk _ (relS _ (defScope s_least_sizes)) _ _; exact blkOk_by (own := [("row", 3)]) (N := N_least_sizes) (by decide +kernel)) (by decide) (fun _ _ _ _ _ => (pdg_nm (i := 3) sc_least_sizes.nd rfl (by first | exact Or.inl rfl | exact Or.inr rfl))) (fun _ _ _ _ _ => pdts_nil) (fun _ _ _ _ _ => (pd_ix (pdv 3) (pdv 2) (fun _ _ => rfl))))) pda_nil) (aCons_len (fun _ _ _ h => aNil_len h))))))))
theorem pd_stored_sizes (D : Df K mg "stored_sizes" s_stored_sizes) (Z : Zs mg) (C_sizes_for : C8.Cal P w K mg base 3 "sizes_for" (spF K 3 F_sizes_for) []) (C_least_sizes : C8.Cal P w K mg base 2 "least_sizes" (spF K 2 F_least_sizes) []) : C8.Cal P w K mg base 4 "stored_sizes" (spF K 3 F_stored_sizes) [] :=
  mk_cal (W := fun _ _ => True) (N := N_stored_sizes) (ps := ["scheme", "stored", "wanted"]) (n := 3) (p := 0) (q := 0) D sc_stored_sizes rfl (fun _ _ _ _ _ _ us hl => match us, hl with | [_, _, _], _ => rfl) fun f0 cdv A outer s H E hr => (pdss_one (pds_ret (pd_call0 C_least_sizes hr (by decide) (by rfl) (pda_cons (pd_ofN (pdn_lc (own := [("rollup", 3)]) (t := (.nm 3)) rfl sc_stored_sizes.nd (pdi_seq (pdv 1)) (blkOk_by (own := [("rollup", 3)]) (N := N_stored_sizes) (sc := defScope s_stored_sizes) (by decide +kernel)) (by decide) (fun _ _ _ _ _ => (pdg_nm (i := 3) sc_stored_sizes.nd rfl (by first | exact Or.inl rfl | exact Or.inr rfl))) (fun _ _ _ _ _ => pdts_nil) (fun _ _ _ _ _ => (pd_call0 C_sizes_for hr (by decide) (by rfl) (pda_cons (pdv 0) (pda_cons (pdv 3) (pda_cons (pdv 2) pda_nil))) (aCons_len (aCons_len (aCons_len (fun _ _ _ h => aNil_len h)))))))) (pda_cons (pdv 2) pda_nil)) (aCons_len (aCons_len (fun _ _ _ h => aNil_len h))))))
theorem pd_total_of (D : Df K mg "total_of" s_total_of) (Z : Zs mg) : C8.Cal P w K mg base 1 "total_of" (spF K 1 F_total_of) [] :=
  mk_cal (W := fun _ _ => True) (N := N_total_of) (ps := ["sizes"]) (n := 1) (p := 0) (q := 0) D sc_total_of rfl (fun _ _ _ _ _ _ us hl => match us, hl with | [_], _ => rfl) fun f0 cdv A outer s H E hr => (pdss_one (pds_ret (pd_if (pdb_cmp (op_inU hr.units) od_in pd_non (pdv 0) (by with_unfolding_all rfl)) pd_non (pd_callB (cr_sumU rfl) cd_sum (by rfl) Z.z_sum (by decide +kernel) (pda_cons (pdv 0) pda_nil)))))
theorem pd_selections (D : Df K mg "selections" s_selections) (Z : Zs mg) : C8.Cal P w K mg base 1 "selections" (spF K 2 F_selections) [] :=
  mk_cal (W := fun _ _ => True) (N := N_selections) (ps := ["ascending", "many"]) (n := 2) (p := 0) (q := 0) D sc_selections rfl (fun _ _ _ _ _ _ us hl => match us, hl with | [_, _], _ => rfl) fun f0 cdv A outer s H E hr => (pdss_cons (pds_if (pdb_cmp (op_eqU hr.units) od_eq (pdv 1) pd_int (nomark _)) (pdss_one (pds_ret (pd_ofN (pdn_lc (own := [("rollup", 2)]) (t := (.nm 2)) rfl sc_selections.nd (pdi_seq (pdv 0)) (blkOk_by (own := [("rollup", 2)]) (N := N_selections) (sc := defScope s_selections) (by decide +kernel)) (by decide) (fun _ _ _ _ _ => (pdg_nm (i := 2) sc_selections.nd rfl (by first | exact Or.inl rfl | exact Or.inr rfl))) (fun _ _ _ _ _ => pdts_nil) (fun _ _ _ _ _ => (pd_tup (pda_cons (pdv 2) pda_nil))))))) pdss_nil)
      (pdss_one (pds_ret (pd_ofN (pdn_lc2 (own := [("one", 3), ("other", 4)]) (t := (.nm 3)) (t1 := (.nm 4)) (vs1 := [4]) rfl sc_selections.nd (pdi_seq (pdv 0)) (blkOk_by (own := [("one", 3), ("other", 4)]) (N := N_selections) (sc := defScope s_selections) (by decide +kernel)) (by decide) (by decide) (by decide) (fun _ _ _ _ _ => (pdg_nm (i := 3) sc_selections.nd rfl (by first | exact Or.inl rfl | exact Or.inr rfl))) (fun _ _ _ _ _ => pdts_nil) (fun _ _ _ _ _ => (pdi_seq (pdv 0))) (fun _ _ _ _ _ => (pdg_nm (i := 4) sc_selections.nd rfl (by first | exact Or.inl rfl | exact Or.inr rfl))) (fun _ _ _ _ _ => (pdts_one (pdb_cmp (op_ltU hr.units) od_ltU (pdv 3) (pdv 4) (nomark _)))) (fun _ _ _ _ _ => (pd_tup (pda_cons (pdv 3) (pda_cons (pdv 4) pda_nil)))))))))
theorem pd_check_many (D : Df K mg "check_many" s_check_many) (Z : Zs mg) {t_MOST_MORE : Tok} (m_MOST_MORE : mg "MOST_MORE" = some (.int 2 t_MOST_MORE)) (C_is_integer : C8.Cal P w K mg base 1 "is_integer" (spF K 1 F_is_integer) []) : C8.Cal P w K mg base 2 "check_many" (spF K 1 F_check_many) [] :=
  mk_cal (W := fun _ _ => True) (N := N_check_many) (ps := ["many"]) (n := 1) (p := 0) (q := 0) D sc_check_many rfl (fun _ _ _ _ _ _ us hl => match us, hl with | [_], _ => rfl) fun f0 cdv A outer s H E hr => (pdss_one (pds_if (pdb_w (pdw_or (pdb_not (pdb_val (pd_call0 C_is_integer hr (by decide) (by rfl) (pda_cons (pdv 0) pda_nil) (aCons_len (fun _ _ _ h => aNil_len h))))) (pdw_or1 (pdb_not (pdb_chain op_le od_le op_le od_le pd_int (pdv 0) (pd_globI (by rfl) m_MOST_MORE)))))) (pdss_one pds_never) pdss_nil))
theorem pd_check_stored_and_all_wanted (D : Df K mg "check_stored_and_all_wanted" s_check_stored_and_all_wanted) (Z : Zs mg) (C_check_scheme : C8.Cal P w K mg base 5 "check_scheme" (spF K 1 F_check_scheme) []) (C_check_stored : C8.Cal P w K mg base 3 "check_stored" (spF K 2 F_check_stored) []) : C8.Cal P w K mg base 6 "check_stored_and_all_wanted" (spF K 3 F_check_stored_and_all_wanted) [] :=
  mk_cal (W := fun _ _ => True) (N := N_check_stored_and_all_wanted) (ps := ["scheme", "stored", "wanted"]) (n := 3) (p := 0) (q := 0) D sc_check_stored_and_all_wanted rfl (fun _ _ _ _ _ _ us hl => match us, hl with | [_, _, _], _ => rfl) fun f0 cdv A outer s H E hr => (pdss_cons (pds_expr (pd_call0 C_check_scheme hr (by decide) (by rfl) (pda_cons (pdv 0) pda_nil) (aCons_len (fun _ _ _ h => aNil_len h))))
      (pdss_cons (pds_expr (pd_call0 C_check_stored hr (by decide) (by rfl) (pda_cons (pdv 0) (pda_cons (pdv 1) pda_nil)) (aCons_len (aCons_len (fun _ _ _ h => aNil_len h)))))
      (pdss_one (pds_expr (pd_call0 C_check_stored hr (by decide) (by rfl) (pda_cons (pdv 0) (pda_cons (pdv 2) pda_nil)) (aCons_len (aCons_len (fun _ _ _ h => aNil_len h))))))))
theorem pd_needed (D : Df K mg "needed" s_needed) (Z : Zs mg) (C_has_levels_up_to : C8.Cal P w K mg base 1 "has_levels_up_to" (spF K 2 F_has_levels_up_to) []) (C_check_scheme : C8.Cal P w K mg base 5 "check_scheme" (spF K 1 F_check_scheme) []) (C_check_stored : C8.Cal P w K mg base 3 "check_stored" (spF K 2 F_check_stored) []) : C8.Cal P w K mg base 6 "needed" (spF K 2 F_needed) [] :=
  mk_cal (W := fun _ _ => True) (N := N_needed) (ps := ["scheme", "wanted"]) (n := 2) (p := 0) (q := 0) D sc_needed rfl (fun _ _ _ _ _ _ us hl => match us, hl with | [_, _], _ => rfl) fun f0 cdv A outer s H E hr => (pdss_cons (pds_expr (pd_call0 C_check_scheme hr (by decide) (by rfl) (pda_cons (pdv 0) pda_nil) (aCons_len (fun _ _ _ h => aNil_len h))))
      (pdss_cons (pds_expr (pd_call0 C_check_stored hr (by decide) (by rfl) (pda_cons (pdv 0) (pda_cons (pdv 1) pda_nil)) (aCons_len (aCons_len (fun _ _ _ h => aNil_len h)))))
      (pdss_one (pds_ret (pd_callTy call_tupleP cd_tuple (by rfl) Z.z_tuple (by decide +kernel) (pda_cons (pd_ofN (pdn_lc (own := [("rollup", 2)]) (t := (.nm 2)) rfl sc_needed.nd (pdi_seq (pd_ofN (pdn_st rfl hr.units (by rfl) Z.z_sorted (by rfl) Z.z_set (pdv 1)))) (blkOk_by (own := [("rollup", 2)]) (N := N_needed) (sc := defScope s_needed) (by decide +kernel)) (by decide) (fun _ _ _ _ _ => (pdg_nm (i := 2) sc_needed.nd rfl (by first | exact Or.inl rfl | exact Or.inr rfl))) (fun _ _ _ _ _ => (pdts_one (pdb_not (pdb_val (pd_callB (cr_anyD rfl) cd_any (by rfl) Z.z_any (by decide +kernel) (pda_cons (pd_ofN (pdn_lc (own := [("other", 3)]) (t := (.nm 3)) rfl sc_needed.nd (pdi_seq (pdv 1)) (by show BlkOk _ (relS _ (defScope s_needed)) _ _; exact blkOk_by (own := [("other", 3)]) (N := N_needed) (by decide +kernel)) (by decide) (fun _ _ _ _ _ => (pdg_nm (i := 3) sc_needed.nd rfl (by first | exact Or.inl rfl | exact Or.inr rfl))) (fun _ _ _ _ _ => pdts_nil) (fun _ _ _ _ _ => (pd_and (pd_cmp (op_neU hr.units) od_ne (pdv 3) (pdv 2) (nomark _)) (pd_one (pd_call0 C_has_levels_up_to hr (by decide) (by rfl) (pda_cons (pdv 3) (pda_cons (pdv 2) pda_nil)) (aCons_len (aCons_len (fun _ _ _ h => aNil_len h))))))))) pda_nil)))))) (fun _ _ _ _ _ => (pdv 2)))) pda_nil))))))
theorem pd_cost (D : Df K mg "cost" s_cost) (Z : Zs mg) (C_stored_sizes : C8.Cal P w K mg base 4 "stored_sizes" (spF K 3 F_stored_sizes) []) (C_total_of : C8.Cal P w K mg base 1 "total_of" (spF K 1 F_total_of) []) (C_check_stored_and_all_wanted : C8.Cal P w K mg base 6 "check_stored_and_all_wanted" (spF K 3 F_check_stored_and_all_wanted) []) : C8.Cal P w K mg base 7 "cost" (spF K 3 F_cost) [] :=
  mk_cal (W := fun _ _ => True) (N := N_cost) (ps := ["scheme", "stored", "wanted"]) (n := 3) (p := 0) (q := 0) D sc_cost rfl (fun _ _ _ _ _ _ us hl => match us, hl with | [_, _, _], _ => rfl) fun f0 cdv A outer s H E hr => (pdss_cons (pds_expr (pd_call0 C_check_stored_and_all_wanted hr (by decide) (by rfl) (pda_cons (pdv 0) (pda_cons (pdv 1) (pda_cons (pdv 2) pda_nil))) (aCons_len (aCons_len (aCons_len (fun _ _ _ h => aNil_len h))))))
      (pdss_one (pds_ret (pd_call0 C_total_of hr (by decide) (by rfl) (pda_cons (pd_call0 C_stored_sizes hr (by decide) (by rfl) (pda_cons (pdv 0) (pda_cons (pdv 1) (pda_cons (pdv 2) pda_nil))) (aCons_len (aCons_len (aCons_len (fun _ _ _ h => aNil_len h))))) pda_nil) (aCons_len (fun _ _ _ h => aNil_len h))))))
theorem pd_best (D : Df K mg "best" s_best) (Z : Zs mg) (C_rollups_of : C8.Cal P w K mg base 2 "rollups_of" (spF K 1 F_rollups_of) []) (C_sizes_for : C8.Cal P w K mg base 3 "sizes_for" (spF K 3 F_sizes_for) []) (C_least_sizes : C8.Cal P w K mg base 2 "least_sizes" (spF K 2 F_least_sizes) []) (C_stored_sizes : C8.Cal P w K mg base 4 "stored_sizes" (spF K 3 F_stored_sizes) []) (C_total_of : C8.Cal P w K mg base 1 "total_of" (spF K 1 F_total_of) []) (C_selections : C8.Cal P w K mg base 1 "selections" (spF K 2 F_selections) []) (C_check_many : C8.Cal P w K mg base 2 "check_many" (spF K 1 F_check_many) []) (C_check_stored_and_all_wanted : C8.Cal P w K mg base 6 "check_stored_and_all_wanted" (spF K 3 F_check_stored_and_all_wanted) []) : C8.Cal P w K mg base 7 "best" (spF K 4 F_best) [] :=
  mk_cal (W := fun _ _ => True) (N := N_best) (ps := ["scheme", "stored", "wanted", "many"]) (n := 4) (p := 0) (q := 1) D sc_best rfl (fun _ _ _ _ _ _ us hl => match us, hl with | [_, _, _, _], _ => rfl) fun f0 cdv A outer s H E hr => (pdss_cons (pds_expr (pd_call0 C_check_stored_and_all_wanted hr (by decide) (by rfl) (pda_cons (pdv 0) (pda_cons (pdv 1) (pda_cons (pdv 2) pda_nil))) (aCons_len (aCons_len (aCons_len (fun _ _ _ h => aNil_len h))))))
      (pdss_cons (pds_expr (pd_call0 C_check_many hr (by decide) (by rfl) (pda_cons (pdv 3) pda_nil) (aCons_len (fun _ _ _ h => aNil_len h))))
      (pdss_cons (pds_set (i := 4) sc_best.nd rfl (.inr rfl) (pd_call0 C_stored_sizes hr (by decide) (by rfl) (pda_cons (pdv 0) (pda_cons (pdv 1) (pda_cons (pdv 2) pda_nil))) (aCons_len (aCons_len (aCons_len (fun _ _ _ h => aNil_len h))))))
      (pdss_cons (pds_newW (i := 5) (k := 0) (by decide) sc_best.nd rfl (.inr rfl) (pdnw_dc (own := [("rollup", 7)]) (t := (.nm 7)) (un9 hr) rfl sc_best.nd (pdi_seq (pd_call0 C_rollups_of hr (by decide) (by rfl) (pda_cons (pdv 0) pda_nil) (aCons_len (fun _ _ _ h => aNil_len h)))) (blkOk_by (own := [("rollup", 7)]) (N := N_best) (sc := defScope s_best) (by decide +kernel)) (by decide) (fun _ _ _ _ _ => (pdg_nm (i := 7) sc_best.nd rfl (by first | exact Or.inl rfl | exact Or.inr rfl))) (fun _ _ _ _ _ => pdts_nil) (fun _ _ _ _ _ => (pdv 7)) (fun _ _ _ _ _ => (pd_call0 C_sizes_for hr (by decide) (by rfl) (pda_cons (pdv 0) (pda_cons (pdv 7) (pda_cons (pdv 2) pda_nil))) (aCons_len (aCons_len (aCons_len (fun _ _ _ h => aNil_len h))))))))
      (pdss_cons (pds_setLc (i := 6) (own := [("more", 8)]) (t := (.nm 8)) rfl sc_best.nd rfl rfl (sw_true rfl rfl rfl (by decide +kernel)) (pdi_seq (pd_call0 C_selections hr (by decide) (by rfl) (pda_cons (pd_ofN (pdn_keys (i := 5) rfl (by rfl) Z.z_list rfl (by first | exact Or.inl rfl | exact Or.inr (Or.inl rfl) | exact Or.inr (Or.inr rfl)))) (pda_cons (pdv 3) pda_nil)) (aCons_len (aCons_len (fun _ _ _ h => aNil_len h))))) (blkOk_by (own := [("more", 8)]) (N := N_best) (sc := defScope s_best) (by decide +kernel)) (by decide) (fun _ _ _ _ _ => (pdg_nm (i := 8) sc_best.nd rfl (by first | exact Or.inl rfl | exact Or.inr rfl))) (fun _ _ _ _ _ => pdts_nil) (fun _ _ _ _ _ => (pd_tup (pda_cons (pd_call0 C_total_of hr (by decide) (by rfl) (pda_cons (pd_call0 C_least_sizes hr (by decide) (by rfl) (pda_cons (pd_op op_addU od_add (pd_ofN (pdn_lst (pda_cons (pdv 4) pda_nil))) (pd_ofN (pdn_lc (own := [("rollup", 7)]) (t := (.nm 7)) rfl sc_best.nd (pdi_seq (pdv 8)) (by show BlkOk _ (relS _ (defScope s_best)) _ _; exact blkOk_by (own := [("rollup", 7)]) (N := N_best) (by decide +kernel)) (by decide) (fun _ _ _ _ _ => (pdg_nm (i := 7) sc_best.nd rfl (by first | exact Or.inl rfl | exact Or.inr rfl))) (fun _ _ _ _ _ => pdts_nil) (fun _ _ _ _ _ => (pd_dIx (i := 5) (un9 hr) rfl (by first | exact Or.inl rfl | exact Or.inr (Or.inl rfl) | exact Or.inr (Or.inr rfl)) (pdv 7) (fun _ _ => rfl)))))) (pda_cons (pdv 2) pda_nil)) (aCons_len (aCons_len (fun _ _ _ h => aNil_len h)))) pda_nil) (aCons_len (fun _ _ _ h => aNil_len h))) (pda_cons (pdv 8) pda_nil)))))
      (pdss_one (pds_ret (pd_minX rfl hr.units (by rfl) Z.z_min (pd_ofN (pdn_lc (own := [("pair", 9)]) (t := (.nm 9)) rfl sc_best.nd (pdi_seq (pdv 6)) (blkOk_by (own := [("pair", 9)]) (N := N_best) (sc := defScope s_best) (by decide +kernel)) (by decide) (fun _ _ _ _ _ => (pdg_nm (i := 9) sc_best.nd rfl (by first | exact Or.inl rfl | exact Or.inr rfl))) (fun _ _ _ _ _ => (pdts_one (pdb_cmp op_isNotU od_isNot (pd_ix (pdv 9) pd_int (fun _ _ => rfl)) pd_non (nomark _)))) (fun _ _ _ _ _ => (pdv 9)))) pd_non))))))))
theorem pd__law_cell (D : Df K mg "_law_cell" s__law_cell) (Z : Zs mg) : C8.Cal P w K mg base 1 "_law_cell" (spF K 2 F__law_cell) [] :=
  mk_cal (W := fun _ _ => True) (N := N__law_cell) (ps := ["_law_script", "_law_index"]) (n := 2) (p := 0) (q := 0) D sc__law_cell rfl (fun _ _ _ _ _ _ us hl => match us, hl with | [_, _], _ => rfl) fun f0 cdv A outer s H E hr => (pdss_cons (pds_if (pdb_cmp op_lt od_lt (pdv 1) (pd_scLen (i := 0) (by rfl) Z.z_len rfl (by first | exact Or.inl rfl | exact Or.inr (Or.inl rfl) | exact Or.inr (Or.inr rfl))) (nomark _)) (pdss_one (pds_ret (pd_scIx (i := 0) rfl (by first | exact Or.inl rfl | exact Or.inr (Or.inl rfl) | exact Or.inr (Or.inr rfl)) (pdv 1) (fun _ _ => rfl)))) pdss_nil)
      (pdss_one (pds_ret pd_int)))
theorem pd__law_source (D : Df K mg "_law_source" s__law_source) (Z : Zs mg) : C8.Cal P w K mg base 1 "_law_source" (spFN K 1 F__law_source) [] :=
  mk_calN D sc__law_source rfl (fun _ _ _ _ _ _ us hl => match us, hl with | [_], _ => rfl) rfl fun f0 cdv A outer s H E hr => (pdn_lst (pda_cons (pd_callB (cr_maxU rfl hr.units) cd_max (by rfl) Z.z_max (by decide +kernel) (pda_cons pd_int (pda_cons (pd_op op_sub od_sub (pdv 0) (pd_op op_pow od_pow pd_int pd_int)) pda_nil))) (pda_cons (pd_op op_addU od_add (pd_op op_mod od_mod (pdv 0) pd_int) pd_int) (pda_cons pd_int pda_nil))))
theorem pd__law_draw (D : Df K mg "_law_draw" s__law_draw) (Z : Zs mg) : C8.Cal P w K mg base 1 "_law_draw" (spF K 2 F__law_draw) [] :=
  mk_cal (W := fun _ _ => True) (N := N__law_draw) (ps := ["_law_supply", "_law_many"]) (n := 2) (p := 1) (q := 0) D sc__law_draw rfl (fun _ _ _ _ _ _ us hl => match us, hl with | [_, _], _ => rfl) fun f0 cdv A outer s H E hr => (pdss_cons (pds_if (pdb_cmp op_gt od_gt (pd_oIx (i := 0) rfl (by first | exact Or.inl rfl | exact Or.inr (Or.inl rfl) | exact Or.inr (Or.inr rfl)) pd_int (fun _ _ => rfl)) pd_int (nomark _)) (pdss_cons (pds_set (i := 2) sc__law_draw.nd rfl (.inl rfl) (pd_op op_mod od_mod (pd_oIx (i := 0) rfl (by first | exact Or.inl rfl | exact Or.inr (Or.inl rfl) | exact Or.inr (Or.inr rfl)) pd_int (fun _ _ => rfl)) (pdv 1)))
      (pdss_cons (pds_own (i := 0) rfl (by first | exact Or.inl rfl | exact Or.inr (Or.inl rfl) | exact Or.inr (Or.inr rfl)) pd_int (pd_op op_fdiv od_div (pd_oIx (i := 0) rfl (by first | exact Or.inl rfl | exact Or.inr (Or.inl rfl) | exact Or.inr (Or.inr rfl)) pd_int (fun _ _ => rfl)) (pdv 1)))
      (pdss_one (pds_ret (pdv 2))))) pdss_nil)
      (pdss_cons (pds_own (i := 0) rfl (by first | exact Or.inl rfl | exact Or.inr (Or.inl rfl) | exact Or.inr (Or.inr rfl)) pd_int (pd_op op_addU od_add (pd_oIx (i := 0) rfl (by first | exact Or.inl rfl | exact Or.inr (Or.inl rfl) | exact Or.inr (Or.inr rfl)) pd_int (fun _ _ => rfl)) pd_int))
      (pdss_cons (pds_own (i := 0) rfl (by first | exact Or.inl rfl | exact Or.inr (Or.inl rfl) | exact Or.inr (Or.inr rfl)) pd_int (pd_op op_mod od_mod (pd_op op_addU od_add (pd_op op_addU od_add (pd_op op_mulU od_mul (pd_oIx (i := 0) rfl (by first | exact Or.inl rfl | exact Or.inr (Or.inl rfl) | exact Or.inr (Or.inr rfl)) pd_int (fun _ _ => rfl)) pd_int) (pd_op op_mulU od_mul pd_int (pd_oIx (i := 0) rfl (by first | exact Or.inl rfl | exact Or.inr (Or.inl rfl) | exact Or.inr (Or.inr rfl)) pd_int (fun _ _ => rfl)))) pd_int) pd_int))
      (pdss_cons (pds_set (i := 3) sc__law_draw.nd rfl (.inl rfl) (pd_op op_mod od_mod (pd_op op_addU od_add (pd_op op_addU od_add (pd_op op_mulU od_mul (pd_oIx (i := 0) rfl (by first | exact Or.inl rfl | exact Or.inr (Or.inl rfl) | exact Or.inr (Or.inr rfl)) pd_int (fun _ _ => rfl)) (pd_oIx (i := 0) rfl (by first | exact Or.inl rfl | exact Or.inr (Or.inl rfl) | exact Or.inr (Or.inr rfl)) pd_int (fun _ _ => rfl))) (pd_op op_mulU od_mul pd_int (pd_oIx (i := 0) rfl (by first | exact Or.inl rfl | exact Or.inr (Or.inl rfl) | exact Or.inr (Or.inr rfl)) pd_int (fun _ _ => rfl)))) pd_int) pd_int))
      (pdss_cons (pds_set (i := 3) sc__law_draw.nd rfl (.inl rfl) (pd_op op_mod od_mod (pd_op op_addU od_add (pd_op op_mulU od_mul (pdv 3) (pdv 3)) (pd_op op_mulU od_mul pd_int (pdv 3))) pd_int))
      (pdss_one (pds_ret (pd_op op_mod od_mod (pd_op op_fdiv od_div (pdv 3) pd_int) (pdv 1)))))))))
theorem pd__law_is_equal (D : Df K mg "_law_is_equal" s__law_is_equal) (Z : Zs mg) : CalG P w K mg base 1 "_law_is_equal" (spF K 2 F__law_is_equal) :=
  mk_calG (W := fun _ _ => True) (N := N__law_is_equal) (ps := ["_law_actual", "_law_due"]) (n := 2) (p := 0) (q := 0) D sc__law_is_equal rfl (fun _ _ _ _ _ _ us hl => match us, hl with | [_, _], _ => rfl) fun f0 cdv A outer s H E gd hr => (pdss_one (pds_ret (pd_cmp (op_eqU hr.units) od_eq (pd_callB (call_reprX (guards_deeper gd) hr.units) cd_repr (by rfl) Z.z_repr (by decide +kernel) (pda_cons (pdv 0) pda_nil)) (pd_callB (call_reprX (guards_deeper gd) hr.units) cd_repr (by rfl) Z.z_repr (by decide +kernel) (pda_cons (pdv 1) pda_nil)) (nomark _))))
theorem pd__law_first_right (D : Df K mg "_law_first_right" s__law_first_right) (Z : Zs mg) (C_needed : C8.Cal P w K mg base 6 "needed" (spF K 2 F_needed) []) (C_cost : C8.Cal P w K mg base 7 "cost" (spF K 3 F_cost) []) (C_best : C8.Cal P w K mg base 7 "best" (spF K 4 F_best) []) (C__law_is_equal : CalG P w K mg base 1 "_law_is_equal" (spF K 2 F__law_is_equal)) : CalG P w K mg base 8 "_law_first_right" (spF K 1 F__law_first_right) :=
  mk_calG (W := fun _ _ => True) (N := N__law_first_right) (ps := ["_law_turn"]) (n := 1) (p := 0) (q := 0) D sc__law_first_right rfl (fun _ _ _ _ _ _ us hl => match us, hl with | [_], _ => rfl) fun f0 cdv A outer s H E gd hr => (pdss_cons (pds_asg (pd_tup (pda_cons (pd_tup (pda_cons (pd_tup (pda_cons pd_int (pda_cons (pd_tup (pda_cons (pd_tup (pda_cons pd_int (pda_cons pd_int (pda_cons pd_int (pda_cons pd_int pda_nil))))) (pda_cons (pd_tup (pda_cons pd_int (pda_cons pd_int pda_nil))) pda_nil))) pda_nil))) (pda_cons (pd_tup (pda_cons pd_int (pda_cons (pd_tup (pda_cons (pd_tup (pda_cons pd_int (pda_cons pd_int (pda_cons pd_int pda_nil)))) pda_nil)) pda_nil))) pda_nil))) (pda_cons (pd_tup (pda_cons (pd_tup (pda_cons pd_int (pda_cons pd_int pda_nil))) (pda_cons (pd_tup (pda_cons pd_int (pda_cons pd_int pda_nil))) pda_nil))) pda_nil))) (pdg_tp (n := 2) rfl (pdgs_cons (pdg_nm (i := 1) sc__law_first_right.nd rfl (.inl rfl)) (pdgs_cons (pdg_nm (i := 2) sc__law_first_right.nd rfl (.inl rfl)) pdgs_nil))))
      (pdss_cons (pds_parDD (i := 2) (j := 3) rfl sc__law_first_right.nd rfl rfl (by decide) rfl rfl (pd_stpU (pdv 2) pdo_none pdo_none (pdo_some (pd_ix (pd_tup (pda_cons pd_int (pda_cons (pd_un un_neg ud_neg pd_int) pda_nil))) (pdv 0) (fun _ _ => rfl)))) (pd_tup (pda_cons (pd_tup (pda_cons pd_int (pda_cons pd_int pda_nil))) (pda_cons (pd_tup (pda_cons pd_int (pda_cons pd_int pda_nil))) (pda_cons (pd_tup (pda_cons pd_int (pda_cons pd_int pda_nil))) pda_nil)))) (by rfl))
      (pdss_cons (pds_set (i := 4) sc__law_first_right.nd rfl (.inl rfl) (pd_ofN (pdn_lst (pda_cons (pd_call0 C_needed hr (by decide) (by rfl) (pda_cons (pdv 1) (pda_cons (pdv 3) pda_nil)) (aCons_len (aCons_len (fun _ _ _ h => aNil_len h)))) (pda_cons (pd_call0 C_needed hr (by decide) (by rfl) (pda_cons (pdv 1) (pda_cons (pd_tup (pda_cons (pd_tup (pda_cons pd_int (pda_cons pd_int pda_nil))) (pda_cons (pd_tup (pda_cons pd_int (pda_cons pd_int pda_nil))) (pda_cons (pd_tup (pda_cons pd_int (pda_cons pd_int pda_nil))) (pda_cons (pd_tup (pda_cons pd_int (pda_cons pd_int pda_nil))) pda_nil))))) pda_nil)) (aCons_len (aCons_len (fun _ _ _ h => aNil_len h)))) (pda_cons (pd_call0 C_cost hr (by decide) (by rfl) (pda_cons (pdv 1) (pda_cons (pdv 2) (pda_cons (pdv 3) pda_nil))) (aCons_len (aCons_len (aCons_len (fun _ _ _ h => aNil_len h))))) pda_nil))))))
      (pdss_cons (pds_if (pdb_not (pdb_val (pd_callG0 C__law_is_equal (guards_deeper gd) hr (by decide) (by rfl) (pda_cons (pdv 4) (pda_cons (pd_ofN (pdn_lst (pda_cons (pd_tup (pda_cons (pd_tup (pda_cons pd_int (pda_cons pd_int pda_nil))) (pda_cons (pd_tup (pda_cons pd_int (pda_cons pd_int pda_nil))) pda_nil))) (pda_cons (pd_tup (pda_cons (pd_tup (pda_cons pd_int (pda_cons pd_int pda_nil))) (pda_cons (pd_tup (pda_cons pd_int (pda_cons pd_int pda_nil))) pda_nil))) (pda_cons pd_int pda_nil))))) pda_nil)) (aCons_len (aCons_len (fun _ _ _ h => aNil_len h)))))) (pdss_one (pds_ret pd_bl)) pdss_nil)
      (pdss_cons (pds_set (i := 4) sc__law_first_right.nd rfl (.inl rfl) (pd_ofN (pdn_lst (pda_cons (pd_call0 C_best hr (by decide) (by rfl) (pda_cons (pdv 1) (pda_cons (pdv 2) (pda_cons (pdv 3) (pda_cons pd_int pda_nil)))) (aCons_len (aCons_len (aCons_len (aCons_len (fun _ _ _ h => aNil_len h)))))) (pda_cons (pd_call0 C_best hr (by decide) (by rfl) (pda_cons (pdv 1) (pda_cons (pdv 2) (pda_cons (pdv 3) (pda_cons pd_int pda_nil)))) (aCons_len (aCons_len (aCons_len (aCons_len (fun _ _ _ h => aNil_len h)))))) (pda_cons (pd_call0 C_cost hr (by decide) (by rfl) (pda_cons (pdv 1) (pda_cons (pd_tup (pda_cons (pd_tup (pda_cons pd_int (pda_cons pd_int pda_nil))) pda_nil)) (pda_cons (pdv 3) pda_nil))) (aCons_len (aCons_len (aCons_len (fun _ _ _ h => aNil_len h))))) pda_nil))))))
      (pdss_cons (pds_if (pdb_not (pdb_val (pd_callG0 C__law_is_equal (guards_deeper gd) hr (by decide) (by rfl) (pda_cons (pdv 4) (pda_cons (pd_ofN (pdn_lst (pda_cons (pd_tup (pda_cons pd_int (pda_cons (pd_tup (pda_cons (pd_tup (pda_cons pd_int (pda_cons pd_int pda_nil))) pda_nil)) pda_nil))) (pda_cons (pd_tup (pda_cons pd_int (pda_cons (pd_tup (pda_cons (pd_tup (pda_cons pd_int (pda_cons pd_int pda_nil))) (pda_cons (pd_tup (pda_cons pd_int (pda_cons pd_int pda_nil))) pda_nil))) pda_nil))) (pda_cons pd_non pda_nil))))) pda_nil)) (aCons_len (aCons_len (fun _ _ _ h => aNil_len h)))))) (pdss_one (pds_ret pd_bl)) pdss_nil)
      (pdss_cons (pds_set (i := 4) sc__law_first_right.nd rfl (.inl rfl) (pd_ofN (pdn_lst (pda_cons (pd_call0 C_cost hr (by decide) (by rfl) (pda_cons (pdv 1) (pda_cons (pd_tup pda_nil) (pda_cons (pd_tup pda_nil) pda_nil))) (aCons_len (aCons_len (aCons_len (fun _ _ _ h => aNil_len h))))) (pda_cons (pd_call0 C_cost hr (by decide) (by rfl) (pda_cons (pdv 1) (pda_cons (pd_tup pda_nil) (pda_cons (pdv 3) pda_nil))) (aCons_len (aCons_len (aCons_len (fun _ _ _ h => aNil_len h))))) (pda_cons (pd_call0 C_best hr (by decide) (by rfl) (pda_cons (pdv 1) (pda_cons (pd_tup pda_nil) (pda_cons (pdv 3) (pda_cons pd_int pda_nil)))) (aCons_len (aCons_len (aCons_len (aCons_len (fun _ _ _ h => aNil_len h)))))) (pda_cons (pd_call0 C_best hr (by decide) (by rfl) (pda_cons (pdv 1) (pda_cons (pd_tup pda_nil) (pda_cons (pd_tup pda_nil) (pda_cons pd_int pda_nil)))) (aCons_len (aCons_len (aCons_len (aCons_len (fun _ _ _ h => aNil_len h)))))) pda_nil)))))))
      (pdss_one (pds_ret (pd_callG0 C__law_is_equal (guards_deeper gd) hr (by decide) (by rfl) (pda_cons (pdv 4) (pda_cons (pd_ofN (pdn_lst (pda_cons pd_int (pda_cons pd_non (pda_cons (pd_tup (pda_cons pd_int (pda_cons (pd_tup (pda_cons (pd_tup (pda_cons pd_int (pda_cons pd_int pda_nil))) pda_nil)) pda_nil))) (pda_cons (pd_tup (pda_cons pd_int (pda_cons (pd_tup (pda_cons (pd_tup (pda_cons pd_int (pda_cons pd_int pda_nil))) (pda_cons (pd_tup (pda_cons pd_int (pda_cons pd_int pda_nil))) pda_nil))) pda_nil))) pda_nil)))))) pda_nil)) (aCons_len (aCons_len (fun _ _ _ h => aNil_len h)))))))))))))
theorem pd__law_small_right (D : Df K mg "_law_small_right" s__law_small_right) (Z : Zs mg) (C_needed : C8.Cal P w K mg base 6 "needed" (spF K 2 F_needed) []) (C_cost : C8.Cal P w K mg base 7 "cost" (spF K 3 F_cost) []) (C_best : C8.Cal P w K mg base 7 "best" (spF K 4 F_best) []) (C__law_is_equal : CalG P w K mg base 1 "_law_is_equal" (spF K 2 F__law_is_equal)) : CalG P w K mg base 8 "_law_small_right" (spF K 0 F__law_small_right) :=
  mk_calG (W := fun _ _ => True) (N := N__law_small_right) (ps := []) (n := 0) (p := 0) (q := 0) D sc__law_small_right rfl (fun _ _ _ _ _ _ us hl => match us, hl with | [], _ => rfl) fun f0 cdv A outer s H E gd hr => (pdss_cons (pds_asg (pd_tup (pda_cons (pd_tup (pda_cons (pd_tup (pda_cons pd_int (pda_cons (pd_tup pda_nil) pda_nil))) pda_nil)) (pda_cons (pd_tup (pda_cons (pd_tup (pda_cons pd_int (pda_cons (pd_tup (pda_cons (pd_tup (pda_cons pd_int (pda_cons pd_int pda_nil))) pda_nil)) pda_nil))) pda_nil)) pda_nil))) (pdg_tp (n := 2) rfl (pdgs_cons (pdg_nm (i := 0) sc__law_small_right.nd rfl (.inl rfl)) (pdgs_cons (pdg_nm (i := 1) sc__law_small_right.nd rfl (.inl rfl)) pdgs_nil))))
      (pdss_cons (pds_set (i := 2) sc__law_small_right.nd rfl (.inl rfl) (pd_ofN (pdn_lst (pda_cons (pd_call0 C_needed hr (by decide) (by rfl) (pda_cons (pdv 0) (pda_cons (pd_tup (pda_cons (pd_tup (pda_cons pd_int pda_nil)) (pda_cons (pd_tup (pda_cons pd_int pda_nil)) pda_nil))) pda_nil)) (aCons_len (aCons_len (fun _ _ _ h => aNil_len h)))) (pda_cons (pd_call0 C_cost hr (by decide) (by rfl) (pda_cons (pdv 0) (pda_cons (pd_tup (pda_cons (pd_tup (pda_cons pd_int pda_nil)) pda_nil)) (pda_cons (pd_tup (pda_cons (pd_tup (pda_cons pd_int pda_nil)) (pda_cons (pd_tup (pda_cons pd_int pda_nil)) pda_nil))) pda_nil))) (aCons_len (aCons_len (aCons_len (fun _ _ _ h => aNil_len h))))) pda_nil)))))
      (pdss_cons (pds_set (i := 2) sc__law_small_right.nd rfl (.inl rfl) (pd_op op_addU od_add (pdv 2) (pd_ofN (pdn_lst (pda_cons (pd_call0 C_best hr (by decide) (by rfl) (pda_cons (pdv 0) (pda_cons (pd_tup pda_nil) (pda_cons (pd_tup (pda_cons (pd_tup (pda_cons pd_int pda_nil)) pda_nil)) (pda_cons pd_int pda_nil)))) (aCons_len (aCons_len (aCons_len (aCons_len (fun _ _ _ h => aNil_len h)))))) (pda_cons (pd_call0 C_best hr (by decide) (by rfl) (pda_cons (pdv 0) (pda_cons (pd_tup pda_nil) (pda_cons (pd_tup pda_nil) (pda_cons pd_int pda_nil)))) (aCons_len (aCons_len (aCons_len (aCons_len (fun _ _ _ h => aNil_len h)))))) pda_nil))))))
      (pdss_cons (pds_if (pdb_not (pdb_val (pd_callG0 C__law_is_equal (guards_deeper gd) hr (by decide) (by rfl) (pda_cons (pdv 2) (pda_cons (pd_ofN (pdn_lst (pda_cons (pd_tup (pda_cons (pd_tup (pda_cons pd_int pda_nil)) pda_nil)) (pda_cons pd_int (pda_cons (pd_tup (pda_cons pd_int (pda_cons (pd_tup (pda_cons (pd_tup (pda_cons pd_int pda_nil)) pda_nil)) pda_nil))) (pda_cons pd_non pda_nil)))))) pda_nil)) (aCons_len (aCons_len (fun _ _ _ h => aNil_len h)))))) (pdss_one (pds_ret pd_bl)) pdss_nil)
      (pdss_cons (pds_set (i := 2) sc__law_small_right.nd rfl (.inl rfl) (pd_ofN (pdn_lst (pda_cons (pd_call0 C_best hr (by decide) (by rfl) (pda_cons (pdv 1) (pda_cons (pd_tup pda_nil) (pda_cons (pd_tup (pda_cons (pd_tup (pda_cons pd_int pda_nil)) pda_nil)) (pda_cons pd_int pda_nil)))) (aCons_len (aCons_len (aCons_len (aCons_len (fun _ _ _ h => aNil_len h)))))) (pda_cons (pd_call0 C_best hr (by decide) (by rfl) (pda_cons (pdv 1) (pda_cons (pd_tup (pda_cons (pd_tup (pda_cons pd_int pda_nil)) pda_nil)) (pda_cons (pd_tup (pda_cons (pd_tup (pda_cons pd_int pda_nil)) pda_nil)) (pda_cons pd_int pda_nil)))) (aCons_len (aCons_len (aCons_len (aCons_len (fun _ _ _ h => aNil_len h)))))) (pda_cons (pd_call0 C_best hr (by decide) (by rfl) (pda_cons (pdv 1) (pda_cons (pd_tup pda_nil) (pda_cons (pd_tup (pda_cons (pd_tup (pda_cons pd_int pda_nil)) (pda_cons (pd_tup (pda_cons pd_int pda_nil)) pda_nil))) (pda_cons pd_int pda_nil)))) (aCons_len (aCons_len (aCons_len (aCons_len (fun _ _ _ h => aNil_len h)))))) (pda_cons (pd_call0 C_needed hr (by decide) (by rfl) (pda_cons (pdv 1) (pda_cons (pd_tup pda_nil) pda_nil)) (aCons_len (aCons_len (fun _ _ _ h => aNil_len h)))) pda_nil)))))))
      (pdss_one (pds_ret (pd_callG0 C__law_is_equal (guards_deeper gd) hr (by decide) (by rfl) (pda_cons (pdv 2) (pda_cons (pd_ofN (pdn_lst (pda_cons (pd_tup (pda_cons pd_int (pda_cons (pd_tup (pda_cons (pd_tup (pda_cons pd_int pda_nil)) pda_nil)) pda_nil))) (pda_cons (pd_tup (pda_cons pd_int (pda_cons (pd_tup (pda_cons (pd_tup (pda_cons pd_int pda_nil)) pda_nil)) pda_nil))) (pda_cons (pd_tup (pda_cons pd_int (pda_cons (pd_tup (pda_cons (pd_tup (pda_cons pd_int pda_nil)) (pda_cons (pd_tup (pda_cons pd_int pda_nil)) pda_nil))) pda_nil))) (pda_cons (pd_tup pda_nil) pda_nil)))))) pda_nil)) (aCons_len (aCons_len (fun _ _ _ h => aNil_len h)))))))))))
theorem pd_law {fa : Addr} {fd : FuncData} (D : Fun K "law" "law" s_law fa fd) (Z : Zs mg) (C__law_cell : C8.Cal P w K mg base 1 "_law_cell" (spF K 2 F__law_cell) []) (C__law_source : C8.Cal P w K mg base 1 "_law_source" (spFN K 1 F__law_source) []) (C__law_draw : C8.Cal P w K mg base 1 "_law_draw" (spF K 2 F__law_draw) []) (C__law_first_right : CalG P w K mg base 8 "_law_first_right" (spF K 1 F__law_first_right)) (C__law_small_right : CalG P w K mg base 8 "_law_small_right" (spF K 0 F__law_small_right)) : FnG P w K mg base 9 fa fd ["_law_script"] (spF K 1 F_law) :=
  mk_law (W := fun _ _ => True) D sc_law rfl fun f0 cdv A outer s H E gd hr => (pdss_cons (pds_for PassesOwn.never rfl (pdi_range1 (by rfl) Z.z_range (pda_cons (pd_callB (cr_maxU rfl hr.units) cd_max (by rfl) Z.z_max (by decide +kernel) (pda_cons pd_int (pda_cons (pd_callB (cr_minU rfl hr.units) cd_min (by rfl) Z.z_min (by decide +kernel) (pda_cons (pd_scLen (i := 0) (by rfl) Z.z_len rfl (by first | exact Or.inl rfl | exact Or.inr (Or.inl rfl) | exact Or.inr (Or.inr rfl))) (pda_cons pd_int pda_nil))) pda_nil))) pda_nil)) (pdg_nm (i := 1) sc_law.nd rfl (.inl rfl))
      (pdss_one (pds_if (pdb_not (pdb_val (pd_callG0 C__law_first_right (guards_deeper gd) hr (by decide) (by rfl) (pda_cons (pd_callN C__law_draw hr (by decide) (by rfl) (pdn_call C__law_source hr (by decide) (by rfl) (pda_cons (pd_callS (i := 0) C__law_cell hr (by decide) (by rfl) rfl (by first | exact Or.inl rfl | exact Or.inr (Or.inl rfl) | exact Or.inr (Or.inr rfl)) (pda_cons (pdv 1) pda_nil) (fun ρ so p h => congrArg (· + 1) ((aCons_len (fun _ _ _ h => aNil_len h)) ρ so p h))) pda_nil) (aCons_len (fun _ _ _ h => aNil_len h))) (pda_cons pd_int pda_nil) (fun ρ so p h => congrArg (· + 1) ((aCons_len (fun _ _ _ h => aNil_len h)) ρ so p h))) pda_nil) (aCons_len (fun _ _ _ h => aNil_len h))))) (pdss_one (pds_ret pd_bl)) pdss_nil)))
      (pdss_one (pds_ret (pd_callGZ C__law_small_right (guards_deeper gd) hr (by decide) (by rfl)))))
end
end MP
namespace MP
open PySem L2 RL
/-! ### loops of the mirror, by what holds between two turns -/
/-- what a loop may end in: the walk is through, or it is left by an answer -/
theorem for_any {t : Tg} {body : DS} {items : List PyData} {ρ : Slots} {so : Sto} (P : Nat → Slots → Sto → Prop) (R : PyData → Sto → Prop) (h0 : P 0 ρ so)
    (hs : ∀ i d ρ so, items[i]? = some d → P i ρ so → ∃ ρ1, putT t d ρ = some ρ1 ∧ ((∃ ρ' so', body ρ1 so = some (.nx ρ', so') ∧ P (i + 1) ρ' so') ∨ ∃ x so', body ρ1 so = some (.rt x, so') ∧ R x so')) :
    (∃ ρ' so', forGo t body items ρ so = some (.nx ρ', so') ∧ P items.length ρ' so') ∨ ∃ x so', forGo t body items ρ so = some (.rt x, so') ∧ R x so' := by
  have go : ∀ (r : List PyData) (i : Nat) (ρ : Slots) (so : Sto), items.drop i = r → i ≤ items.length → P i ρ so →
      (∃ ρ' so', forGo t body r ρ so = some (.nx ρ', so') ∧ P items.length ρ' so') ∨ ∃ x so', forGo t body r ρ so = some (.rt x, so') ∧ R x so' := by
    intro r
    induction r with
    | nil =>
      intro i ρ so e hi p
      have hi : i = items.length := by
        have := congrArg List.length e
        simp at this
        omega
      subst hi
      exact .inl ⟨ρ, so, rfl, p⟩
    | cons d r ih =>
      intro i ρ so e hi p
      have hlt : i < items.length := by
        have := congrArg List.length e
        simp at this
        omega
      have hd : items[i]? = some d := by
        rw [List.drop_eq_getElem_cons hlt] at e
        rw [List.getElem?_eq_getElem hlt]
        exact congrArg some (List.cons.inj e).1
      have hr : items.drop (i + 1) = r := by
        rw [List.drop_eq_getElem_cons hlt] at e
        exact (List.cons.inj e).2
      obtain ⟨ρ1, e1, h⟩ := hs i d ρ so hd p
      rcases h with ⟨ρ', so', e2, p'⟩ | ⟨x, so', e2, q⟩
      · have e3 : forGo t body (d :: r) ρ so = forGo t body r ρ' so' := by
          simp only [forGo, e1, e2, Option.bind_some]
        rw [e3]
        exact ih (i + 1) ρ' so' hr hlt p'
      · refine .inr ⟨x, so', ?_, q⟩
        simp only [forGo, e1, e2, Option.bind_some]
  exact go items 0 ρ so (by simp) (Nat.zero_le _) h0
theorem for_inv {t : Tg} {body : DS} {items : List PyData} {ρ : Slots} {so : Sto} (P : Nat → Slots → Sto → Prop) (h0 : P 0 ρ so)
    (hs : ∀ i d ρ so, items[i]? = some d → P i ρ so → ∃ ρ1, putT t d ρ = some ρ1 ∧ ∃ ρ' so', body ρ1 so = some (.nx ρ', so') ∧ P (i + 1) ρ' so') : ∃ ρ' so', forGo t body items ρ so = some (.nx ρ', so') ∧ P items.length ρ' so' := by
  rcases for_any P (fun _ _ => False) h0 (fun i d ρ so hd p => by
    obtain ⟨ρ1, e1, h⟩ := hs i d ρ so hd p
    exact ⟨ρ1, e1, .inl h⟩) with h | ⟨_, _, _, h⟩
  · exact h
  · exact h.elim
theorem lc_inv {body : PyData → Sto → Option (List PyData × Sto)} {items : List PyData} {so : Sto} (P : Nat → List PyData → Sto → Prop) (h0 : P 0 [] so)
    (hs : ∀ i d acc so, items[i]? = some d → P i acc so → ∃ ys so', body d so = some (ys, so') ∧ P (i + 1) (acc ++ ys) so') : ∃ tot so', lcGo body items so = some (tot, so') ∧ P items.length tot so' := by
  have go : ∀ (r : List PyData) (i : Nat) (acc : List PyData) (so : Sto), items.drop i = r → i ≤ items.length → P i acc so → ∃ tot so', lcGo body r so = some (tot, so') ∧ P items.length (acc ++ tot) so' := by
    intro r
    induction r with
    | nil =>
      intro i acc so e hi p
      have hi : i = items.length := by
        have := congrArg List.length e
        simp at this
        omega
      subst hi
      exact ⟨[], so, rfl, by rw [List.append_nil]; exact p⟩
    | cons d r ih =>
      intro i acc so e hi p
      have hlt : i < items.length := by
        have := congrArg List.length e
        simp at this
        omega
      have hd : items[i]? = some d := by
        rw [List.drop_eq_getElem_cons hlt] at e
        rw [List.getElem?_eq_getElem hlt]
        exact congrArg some (List.cons.inj e).1
      have hr : items.drop (i + 1) = r := by
        rw [List.drop_eq_getElem_cons hlt] at e
        exact (List.cons.inj e).2
      obtain ⟨ys, so', e1, p'⟩ := hs i d acc so hd p
      obtain ⟨tot, so2, e2, p2⟩ := ih (i + 1) _ so' hr hlt p'
      refine ⟨ys ++ tot, so2, ?_, by rw [← List.append_assoc]; exact p2⟩
      simp only [lcGo, e1, e2, Option.bind_some]
  obtain ⟨tot, so', e, p⟩ := go items 0 [] so (by simp) (Nat.zero_le _) h0
  exact ⟨tot, so', e, by simpa using p⟩
theorem lc_flat {body : PyData → Sto → Option (List PyData × Sto)} {items : List PyData} {so : Sto} (f : PyData → List PyData) (hs : ∀ d ∈ items, body d so = some (f d, so)) : lcGo body items so = some (items.flatMap f, so) := by
  induction items with
  | nil => rfl
  | cons d r ih =>
    have e1 := hs d List.mem_cons_self
    have e2 := ih fun x hx => hs x (List.mem_cons_of_mem _ hx)
    simp only [lcGo, e1, e2, Option.bind_some, List.flatMap_cons]
theorem lc_map {body : PyData → Sto → Option (List PyData × Sto)} {items : List PyData} {so : Sto} (f : PyData → PyData) (hs : ∀ d ∈ items, body d so = some ([f d], so)) : lcGo body items so = some (items.map f, so) := by
  have e : ∀ xs : List PyData, xs.flatMap (fun d => [f d]) = xs.map f := by
    intro xs
    induction xs with
    | nil => rfl
    | cons x r ih => rw [List.flatMap_cons, ih]; rfl
  rw [lc_flat (fun d => [f d]) hs, e]
/-- the items are told by things of another kind -/
theorem lc_mapE {α : Type} {body : PyData → Sto → Option (List PyData × Sto)} {xs : List α} {so : Sto} (enc : α → PyData) (f : α → PyData) (hs : ∀ x ∈ xs, body (enc x) so = some ([f x], so)) : lcGo body (xs.map enc) so = some (xs.map f, so) := by
  induction xs with
  | nil => rfl
  | cons d r ih =>
    have e1 := hs d List.mem_cons_self
    have e2 := ih fun x hx => hs x (List.mem_cons_of_mem _ hx)
    simp only [List.map_cons, lcGo, e1, e2, Option.bind_some]
    rfl
theorem lc_flatE {α : Type} {body : PyData → Sto → Option (List PyData × Sto)} {xs : List α} {so : Sto} (enc : α → PyData) (f : α → List PyData) (hs : ∀ x ∈ xs, body (enc x) so = some (f x, so)) : lcGo body (xs.map enc) so = some (xs.flatMap f, so) := by
  induction xs with
  | nil => rfl
  | cons d r ih =>
    have e1 := hs d List.mem_cons_self
    have e2 := ih fun x hx => hs x (List.mem_cons_of_mem _ hx)
    simp only [List.map_cons, lcGo, e1, e2, Option.bind_some, List.flatMap_cons]
theorem pairsD_get {xs ys : List PyData} {i : Nat} {d : PyData} (h : (pairsD xs ys)[i]? = some d) : ∃ a b, xs[i]? = some a ∧ ys[i]? = some b ∧ d = .tuple [a, b] := by
  unfold pairsD at h
  rw [List.getElem?_zipWith] at h
  cases ha : xs[i]? with
  | none => rw [ha] at h; cases hb : ys[i]? <;> rw [hb] at h <;> cases h
  | some a =>
    cases hb : ys[i]? with
    | none => rw [ha, hb] at h; cases h
    | some b =>
      rw [ha, hb] at h
      cases h
      exact ⟨a, b, rfl, rfl, rfl⟩
theorem pairs_mapE {α β : Type} (f : α → PyData) (g : β → PyData) : ∀ (xs : List α) (ys : List β), pairsD (xs.map f) (ys.map g) = (xs.zip ys).map fun p => .tuple [f p.1, g p.2]
  | [], _ => rfl
  | _ :: _, [] => rfl
  | x :: xs, y :: ys => by
    show PyData.tuple [f x, g y] :: pairsD (xs.map f) (ys.map g) = _
    rw [pairs_mapE f g xs ys]
    rfl
theorem rangeD_get {lo : Int} {n i : Nat} {d : PyData} (h : (rangeD lo n)[i]? = some d) : i < n ∧ d = .int (lo + i) := by
  unfold rangeD at h
  obtain ⟨j, hj, rfl⟩ := get_map h
  have hlt : i < n := by have := (List.getElem?_eq_some_iff.mp hj).1; rwa [List.length_range] at this
  rw [List.getElem?_range hlt] at hj
  cases hj
  exact ⟨hlt, rfl⟩
theorem rangeD_nat (n : Nat) : rangeD 0 n = (List.range n).map eN := by
  unfold rangeD
  refine List.map_congr_left fun i _ => ?_
  rw [Int.zero_add]
  rfl
/-! ### it comes to something for which Q holds -/
/-- what is asked of the outcome; it stands where simp doesn't look -/
class CQ (α : Type) where
  q : α → Prop
def EvI {α : Type} (o : Option α) [c : CQ α] : Prop := ∃ a, o = some a ∧ c.q a
def Ev {α : Type} (o : Option α) (Q : α → Prop) : Prop := @EvI α o ⟨Q⟩
theorem ev_start {α : Type} {o : Option α} {Q : α → Prop} : Ev o Q = @EvI α o ⟨Q⟩ := rfl
theorem ev_some {α : Type} {a : α} {c : CQ α} : @EvI α (some a) c ↔ c.q a := ⟨fun ⟨_, e, q⟩ => by cases e; exact q, fun q => ⟨a, rfl, q⟩⟩
theorem ev_none {α : Type} {c : CQ α} : @EvI α none c ↔ False := ⟨fun ⟨_, e, _⟩ => (by cases e), False.elim⟩
theorem ev_bind {α β : Type} {o : Option α} {f : α → Option β} {c : CQ β} : @EvI β (o.bind f) c ↔ @EvI α o ⟨fun a => @EvI β (f a) c⟩ := by
  constructor
  · rintro ⟨b, e, q⟩
    obtain ⟨a, e1, e2⟩ := Option.bind_eq_some_iff.mp e
    exact ⟨a, e1, b, e2, q⟩
  · rintro ⟨a, e1, b, e2, q⟩
    exact ⟨b, by rw [e1]; exact e2, q⟩
theorem ev_map {α β : Type} {o : Option α} {f : α → β} {c : CQ β} : @EvI β (o.map f) c ↔ @EvI α o ⟨fun a => c.q (f a)⟩ := by
  constructor
  · rintro ⟨b, e, q⟩
    obtain ⟨a, e1, rfl⟩ := Option.map_eq_some_iff.mp e
    exact ⟨a, e1, q⟩
  · rintro ⟨a, e1, q⟩
    exact ⟨f a, by rw [e1]; rfl, q⟩
theorem ev_guard {α : Type} {d : Prop} [Decidable d] {x : Option α} {c : CQ α} : @EvI α (if d then x else none) c ↔ d ∧ @EvI α x c := by
  by_cases h : d
  · rw [if_pos h]; exact ⟨fun e => ⟨h, e⟩, fun e => e.2⟩
  · rw [if_neg h, ev_none]; exact ⟨False.elim, fun e => h e.1⟩
theorem ev_eOp {g : PyData → PyData → Option PyData} {a b : DE} {ρ : Slots} {so : Sto} {cq : CQ (PyData × Sto)} : @EvI _ (eOp g a b ρ so) cq ↔ @EvI _ (a ρ so) ⟨fun p => @EvI _ ((b ρ p.2).bind fun q => (g p.1 q.1).map fun d => (d, q.2)) cq⟩ := ev_bind
theorem ev_eUn {g : PyData → Option PyData} {a : DE} {ρ : Slots} {so : Sto} {cq : CQ (PyData × Sto)} : @EvI _ (eUn g a ρ so) cq ↔ @EvI _ (a ρ so) ⟨fun p => @EvI _ ((g p.1).map fun d => (d, p.2)) cq⟩ := ev_bind
theorem ev_aCons {f : DE} {g : DL} {ρ : Slots} {so : Sto} {cq : CQ (List PyData × Sto)} : @EvI _ (aCons f g ρ so) cq ↔ @EvI _ (f ρ so) ⟨fun p => @EvI _ ((g ρ p.2).bind fun q => some (p.1 :: q.1, q.2)) cq⟩ := ev_bind
theorem ev_aStar {f : DE} {g : DL} {ρ : Slots} {so : Sto} {cq : CQ (List PyData × Sto)} : @EvI _ (aStar f g ρ so) cq ↔ @EvI _ (f ρ so) ⟨fun p => @EvI _ ((seqOf p.1).bind fun xs => (g ρ p.2).bind fun q => some (xs ++ q.1, q.2)) cq⟩ := ev_bind
theorem ev_eTup {f : DL} {ρ : Slots} {so : Sto} {cq : CQ (PyData × Sto)} : @EvI _ (eTup f ρ so) cq ↔ @EvI _ (f ρ so) ⟨fun p => @EvI _ (if p.1.length ≤ LIM then some (.tuple p.1, p.2) else none) cq⟩ := ev_bind
theorem ev_nLst {f : DL} {ρ : Slots} {so : Sto} {cq : CQ (List PyData × Sto)} : @EvI _ (nLst f ρ so) cq ↔ @EvI _ (f ρ so) ⟨fun p => @EvI _ (if p.1.length ≤ LIM then some (p.1, p.2) else none) cq⟩ := ev_bind
theorem ev_eOfN {f : DL} {ρ : Slots} {so : Sto} {cq : CQ (PyData × Sto)} : @EvI _ (eOfN f ρ so) cq ↔ @EvI _ (f ρ so) ⟨fun p => cq.q ((.list p.1, p.2))⟩ := ev_map
theorem ev_iSeq {f : DE} {ρ : Slots} {so : Sto} {cq : CQ (List PyData × Sto)} : @EvI _ (iSeq f ρ so) cq ↔ @EvI _ (f ρ so) ⟨fun p => @EvI _ ((seqOf p.1).map fun ds => (ds, p.2)) cq⟩ := ev_bind
theorem ev_iRg1 {g : DL} {ρ : Slots} {so : Sto} {cq : CQ (List PyData × Sto)} : @EvI _ (iRg1 g ρ so) cq ↔ @EvI _ (g ρ so) ⟨fun p => @EvI _ (match p.1 with
  | [.int n] => if -5000 ≤ n ∧ n ≤ 5000 then some (rangeD 0 n.toNat, p.2) else none
  | _ => none) cq⟩ := ev_bind
theorem ev_iRg2 {g : DL} {ρ : Slots} {so : Sto} {cq : CQ (List PyData × Sto)} : @EvI _ (iRg2 g ρ so) cq ↔ @EvI _ (g ρ so) ⟨fun p => @EvI _ (match p.1 with
  | [.int a, .int b] => if -5000 ≤ a ∧ a ≤ 5000 ∧ -5000 ≤ b ∧ b ≤ 5000 then some (rangeD a (b - a).toNat, p.2) else none
  | _ => none) cq⟩ := ev_bind
theorem ev_bVal {f : DE} {ρ : Slots} {so : Sto} {cq : CQ (Bool × Sto)} : @EvI _ (bVal f ρ so) cq ↔ @EvI _ (f ρ so) ⟨fun p => @EvI _ (match p.1 with
  | .bool b => some (b, p.2)
  | _ => none) cq⟩ := ev_bind
theorem ev_bNot {f : DB} {ρ : Slots} {so : Sto} {cq : CQ (Bool × Sto)} : @EvI _ (bNot f ρ so) cq ↔ @EvI _ (f ρ so) ⟨fun p => cq.q ((!p.1, p.2))⟩ := ev_map
theorem ev_bAnd {f g : DB} {ρ : Slots} {so : Sto} {cq : CQ (Bool × Sto)} : @EvI _ (bAnd f g ρ so) cq ↔ @EvI _ (f ρ so) ⟨fun p => @EvI _ (if p.1 = true then g ρ p.2 else some (false, p.2)) cq⟩ := ev_bind
theorem ev_bOr {f g : DB} {ρ : Slots} {so : Sto} {cq : CQ (Bool × Sto)} : @EvI _ (bOr f g ρ so) cq ↔ @EvI _ (f ρ so) ⟨fun p => @EvI _ (if p.1 = true then some (true, p.2) else g ρ p.2) cq⟩ := ev_bind
theorem ev_eIf {c : DB} {a b : DE} {ρ : Slots} {so : Sto} {cq : CQ (PyData × Sto)} : @EvI _ (eIf c a b ρ so) cq ↔ @EvI _ (c ρ so) ⟨fun p => @EvI _ (if p.1 = true then a ρ p.2 else b ρ p.2) cq⟩ := ev_bind
theorem ev_eAnd {a b : DE} {ρ : Slots} {so : Sto} {cq : CQ (PyData × Sto)} : @EvI _ (eAnd a b ρ so) cq ↔ @EvI _ (a ρ so) ⟨fun p => @EvI _ (match p.1 with
  | .bool true => b ρ p.2
  | .bool false => some (.bool false, p.2)
  | _ => none) cq⟩ := ev_bind
theorem ev_eOr {a b : DE} {ρ : Slots} {so : Sto} {cq : CQ (PyData × Sto)} : @EvI _ (eOr a b ρ so) cq ↔ @EvI _ (a ρ so) ⟨fun p => @EvI _ (match p.1 with
  | .bool true => some (.bool true, p.2)
  | .bool false => b ρ p.2
  | _ => none) cq⟩ := ev_bind
theorem ev_eChain {g g' : PyData → PyData → Option PyData} {a b c : DE} {ρ : Slots} {so : Sto} {cq : CQ (PyData × Sto)} : @EvI _ (eChain g g' a b c ρ so) cq ↔ @EvI _ (a ρ so) ⟨fun p => @EvI _ ((b ρ p.2).bind fun q => (g p.1 q.1).bind fun d => match d with
  | .bool true => (c ρ q.2).bind fun r => (g' q.1 r.1).map fun d => (d, r.2)
  | .bool false => some (.bool false, q.2)
  | _ => none) cq⟩ := ev_bind
theorem ev_sRet {f : DE} {ρ : Slots} {so : Sto} {cq : CQ (Fl × Sto)} : @EvI _ (sRet f ρ so) cq ↔ @EvI _ (f ρ so) ⟨fun p => cq.q ((.rt p.1, p.2))⟩ := ev_map
theorem ev_sDrop {f : DE} {ρ : Slots} {so : Sto} {cq : CQ (Fl × Sto)} : @EvI _ (sDrop f ρ so) cq ↔ @EvI _ (f ρ so) ⟨fun p => cq.q ((.nx ρ, p.2))⟩ := ev_map
theorem ev_sSet {t : Tg} {f : DE} {ρ : Slots} {so : Sto} {cq : CQ (Fl × Sto)} : @EvI _ (sSet t f ρ so) cq ↔ @EvI _ (f ρ so) ⟨fun p => @EvI _ ((putT t p.1 ρ).map fun ρ1 => (.nx ρ1, p.2)) cq⟩ := ev_bind
theorem ev_sIf {c : DB} {f g : DS} {ρ : Slots} {so : Sto} {cq : CQ (Fl × Sto)} : @EvI _ (sIf c f g ρ so) cq ↔ @EvI _ (c ρ so) ⟨fun p => @EvI _ (if p.1 = true then f ρ p.2 else g ρ p.2) cq⟩ := ev_bind
theorem ev_sNew {i k : Nat} {f : DL} {ρ : Slots} {so : Sto} {cq : CQ (Fl × Sto)} : @EvI _ (sNew i k f ρ so) cq ↔ @EvI _ (f ρ so) ⟨fun p => @EvI _ (if decide (k < p.2.length) && decide (i < ρ.length) && (ρ.set i none).all (noO k) then some (.nx (ρ.set i (some (.o k))), p.2.set k (.lst p.1)) else none) cq⟩ := ev_bind
theorem ev_nLc {vs : List Nat} {t : Tg} {fi : DL} {tt : DB} {te : DE} {ρ : Slots} {so : Sto} {cq : CQ (List PyData × Sto)} : @EvI _ (nLc vs t fi tt te ρ so) cq ↔ @EvI _ (fi ρ so) ⟨fun p => @EvI _ ((lcGo (lcBody t tt te (wipeS ρ vs)) p.1 p.2).bind fun q => if q.1.length ≤ LIM then some q else none) cq⟩ := ev_bind
theorem ev_nLc2 {vs vs1 : List Nat} {t : Tg} {fi : DL} {tt : DB} {fi1 : DL} {t1 : Tg} {tt1 : DB} {te : DE} {ρ : Slots} {so : Sto} {cq : CQ (List PyData × Sto)} : @EvI _ (nLc2 vs vs1 t fi tt fi1 t1 tt1 te ρ so) cq ↔ @EvI _ (fi ρ so) ⟨fun p => @EvI _ ((lcGo (lcBody2 t tt vs1 fi1 t1 tt1 te (wipeS ρ vs)) p.1 p.2).bind fun q => if q.1.length ≤ LIM then some q else none) cq⟩ := ev_bind
theorem ev_fCall0 {G : FD} {g : DL} {ρ : Slots} {so : Sto} {cq : CQ (PyData × Sto)} : @EvI _ (fCall0 G g ρ so) cq ↔ @EvI _ (g ρ so) ⟨fun p => @EvI _ ((G (p.1.map .d) []).map fun r => (r.1, p.2)) cq⟩ := ev_bind
theorem ev_fCall1 {G : FD} {i : Nat} {g : DL} {ρ : Slots} {so : Sto} {cq : CQ (PyData × Sto)} : @EvI _ (fCall1 G i g ρ so) cq ↔ @EvI _ (g ρ so) ⟨fun p => @EvI _ (match ρ[i]? with
  | some (some (.o k)) => match p.2[k]? with
    | some (.lst ds) => (G (.o 0 :: p.1.map .d) [.lst ds]).bind fun r => match r.2 with
      | [w] => some (r.1, p.2.set k w)
      | _ => none
    | _ => none
  | _ => none) cq⟩ := ev_bind
theorem ev_fCallS {G : FD} {i : Nat} {g : DL} {ρ : Slots} {so : Sto} {cq : CQ (PyData × Sto)} : @EvI _ (fCallS G i g ρ so) cq ↔ @EvI _ (g ρ so) ⟨fun p => @EvI _ (match ρ[i]? with
  | some (some (.s ns)) => (G (.s ns :: p.1.map .d) []).map fun r => (r.1, p.2)
  | _ => none) cq⟩ := ev_bind
theorem ev_oIx {i : Nat} {b : DE} {ρ : Slots} {so : Sto} {cq : CQ (PyData × Sto)} : @EvI _ (oIx i b ρ so) cq ↔ @EvI _ (b ρ so) ⟨fun p => @EvI _ ((ownAt i ρ p.2).bind fun q => match p.1 with
  | .int j => (atI q.2 j).map fun d => (d, p.2)
  | _ => none) cq⟩ := ev_bind
theorem ev_oCall {i : Nat} {g : List PyData → Option PyData} {ρ : Slots} {so : Sto} {cq : CQ (PyData × Sto)} : @EvI _ (oCall i g ρ so) cq ↔ @EvI _ (ownAt i ρ so) ⟨fun q => @EvI _ ((g [.list q.2]).bind fun d => (scV d).map fun _ => (d, so)) cq⟩ := ev_bind
theorem ev_oTuple {i : Nat} {ρ : Slots} {so : Sto} {cq : CQ (PyData × Sto)} : @EvI _ (oTuple i ρ so) cq ↔ @EvI _ (ownAt i ρ so) ⟨fun q => cq.q ((.tuple q.2, so))⟩ := ev_map
theorem ev_oAppend {i : Nat} {f : DE} {ρ : Slots} {so : Sto} {cq : CQ (PyData × Sto)} : @EvI _ (oAppend i f ρ so) cq ↔ @EvI _ (ownAt i ρ so) ⟨fun _ => @EvI _ ((f ρ so).bind fun p => (ownAt i ρ p.2).bind fun q => if q.2.length < LIM then some (.none, p.2.set q.1 (.lst (q.2 ++ [p.1]))) else none) cq⟩ := ev_bind
theorem ev_oExtend {i : Nat} {f : DL} {ρ : Slots} {so : Sto} {cq : CQ (PyData × Sto)} : @EvI _ (oExtend i f ρ so) cq ↔ @EvI _ (ownAt i ρ so) ⟨fun _ => @EvI _ ((f ρ so).bind fun p => (ownAt i ρ p.2).bind fun q => if q.2.length + p.1.length ≤ LIM then some (.none, p.2.set q.1 (.lst (q.2 ++ p.1))) else none) cq⟩ := ev_bind
theorem ev_oPop {i : Nat} {f : DE} {ρ : Slots} {so : Sto} {cq : CQ (PyData × Sto)} : @EvI _ (oPop i f ρ so) cq ↔ @EvI _ (ownAt i ρ so) ⟨fun _ => @EvI _ ((f ρ so).bind fun p => (ownAt i ρ p.2).bind fun q => match p.1 with
  | .int j => (ixN q.2.length j).bind fun m => (q.2[m]?).bind fun d => if -5000 ≤ j ∧ j ≤ 5000 then some (d, p.2.set q.1 (.lst (q.2.eraseIdx m))) else none
  | _ => none) cq⟩ := ev_bind
theorem ev_sOwn {i : Nat} {b f : DE} {ρ : Slots} {so : Sto} {cq : CQ (Fl × Sto)} : @EvI _ (sOwn i b f ρ so) cq ↔ @EvI _ (f ρ so) ⟨fun p => @EvI _ ((b ρ p.2).bind fun r => (ownAt i ρ r.2).bind fun q => match r.1 with
  | .int j => (ixN q.2.length j).map fun m => (.nx ρ, r.2.set q.1 (.lst (q.2.set m p.1)))
  | _ => none) cq⟩ := ev_bind
theorem ev_oEq {neg : Bool} {i : Nat} {f : DE} {ρ : Slots} {so : Sto} {cq : CQ (PyData × Sto)} : @EvI _ (oEq neg i f ρ so) cq ↔ @EvI _ (f ρ so) ⟨fun p => @EvI _ ((ownAt i ρ p.2).bind fun q => (if neg then dNe (.list q.2) p.1 else dEq (.list q.2) p.1).map fun d => (d, p.2)) cq⟩ := ev_bind
theorem ev_eCall {g : List PyData → Option PyData} {a : DL} {ρ : Slots} {so : Sto} {cq : CQ (PyData × Sto)} : @EvI _ (eCall g a ρ so) cq ↔ @EvI _ (a ρ so) ⟨fun p => @EvI _ ((g p.1).map fun d => (d, p.2)) cq⟩ := ev_bind
theorem ev_nList {f : DE} {ρ : Slots} {so : Sto} {cq : CQ (List PyData × Sto)} : @EvI _ (nList f ρ so) cq ↔ @EvI _ (f ρ so) ⟨fun p => @EvI _ ((seqOf p.1).map fun ds => (ds, p.2)) cq⟩ := ev_bind
theorem ev_nRange {f : DE} {ρ : Slots} {so : Sto} {cq : CQ (List PyData × Sto)} : @EvI _ (nRange f ρ so) cq ↔ @EvI _ (f ρ so) ⟨fun p => @EvI _ (match p.1 with
  | .int n => if 0 ≤ n ∧ n ≤ 5000 then some (rangeD 0 n.toNat, p.2) else none
  | _ => none) cq⟩ := ev_bind
theorem ev_eIsi {T : String} {f : DE} {ρ : Slots} {so : Sto} {cq : CQ (PyData × Sto)} : @EvI _ (eIsi T f ρ so) cq ↔ @EvI _ (f ρ so) ⟨fun p => @EvI _ ((isA T p.1).map fun b => (.bool b, p.2)) cq⟩ := ev_bind
theorem ev_oSome {f : DE} {ρ : Slots} {so : Sto} {cq : CQ (Option Int × Sto)} : @EvI _ (oSome f ρ so) cq ↔ @EvI _ (f ρ so) ⟨fun p => @EvI _ (match p.1 with
  | .int i => some (some i, p.2)
  | _ => none) cq⟩ := ev_bind
theorem ev_eSl {f : DE} {lo hi : DO} {ρ : Slots} {so : Sto} {cq : CQ (PyData × Sto)} : @EvI _ (eSl f lo hi ρ so) cq ↔ @EvI _ (f ρ so) ⟨fun p => @EvI _ ((lo ρ p.2).bind fun q => (hi ρ q.2).bind fun r => (dSl p.1 q.1 r.1).map fun d => (d, r.2)) cq⟩ := ev_bind
theorem ev_scIx {i : Nat} {b : DE} {ρ : Slots} {so : Sto} {cq : CQ (PyData × Sto)} : @EvI _ (scIx i b ρ so) cq ↔ @EvI _ (b ρ so) ⟨fun p => @EvI _ (match ρ[i]? with
  | some (some (.s ns)) => match p.1 with
    | .int j => (atI ns j).map fun n => (.int n, p.2)
    | _ => none
  | _ => none) cq⟩ := ev_bind
theorem ev_sParDD {i j : Nat} {f g : DE} {ρ : Slots} {so : Sto} {cq : CQ (Fl × Sto)} : @EvI _ (sParDD i j f g ρ so) cq ↔ @EvI _ (f ρ so) ⟨fun p => @EvI _ ((g ρ p.2).map fun q => (.nx ((ρ.set i (some (.d p.1))).set j (some (.d q.1))), q.2)) cq⟩ := ev_bind
theorem ev_sParDN {i j k : Nat} {f : DE} {g : DL} {ρ : Slots} {so : Sto} {cq : CQ (Fl × Sto)} : @EvI _ (sParDN i j k f g ρ so) cq ↔ @EvI _ (f ρ so) ⟨fun p => @EvI _ ((g ρ p.2).bind fun q => (putN j k q.1 (ρ.set i (some (.d p.1))) q.2).map fun r => (.nx r.1, r.2)) cq⟩ := ev_bind
theorem ev_sParNN {i k j l : Nat} {f g : DL} {ρ : Slots} {so : Sto} {cq : CQ (Fl × Sto)} : @EvI _ (sParNN i k j l f g ρ so) cq ↔ @EvI _ (f ρ so) ⟨fun p => @EvI _ ((g ρ p.2).bind fun q => (putN i k p.1 ρ q.2).bind fun r => (putN j l q.1 r.1 r.2).map fun t => (.nx t.1, t.2)) cq⟩ := ev_bind
theorem ev_iZip2 {g : DL} {ρ : Slots} {so : Sto} {cq : CQ (List PyData × Sto)} : @EvI _ (iZip2 g ρ so) cq ↔ @EvI _ (g ρ so) ⟨fun p => @EvI _ (match p.1 with
  | [a, b] => (seqOf a).bind fun xs => (seqOf b).bind fun ys => if xs.length = ys.length then some (pairsD xs ys, p.2) else none
  | _ => none) cq⟩ := ev_bind
theorem ev_fCallZ {G : FD} {ρ : Slots} {so : Sto} {cq : CQ (PyData × Sto)} : @EvI _ (fCallZ G ρ so) cq ↔ @EvI _ (G [] []) ⟨fun r => cq.q ((r.1, so))⟩ := ev_map
theorem ev_iZip3 {g : DL} {ρ : Slots} {so : Sto} {cq : CQ (List PyData × Sto)} : @EvI _ (iZip3 g ρ so) cq ↔ @EvI _ (g ρ so) ⟨fun p => @EvI _ (match p.1 with
  | [.tuple xs, .tuple ys, .tuple zs] => if ys.length = xs.length ∧ zs.length = xs.length then some (zip3D xs ys zs, p.2) else none
  | _ => none) cq⟩ := ev_bind
theorem ev_iZip4 {g : DL} {ρ : Slots} {so : Sto} {cq : CQ (List PyData × Sto)} : @EvI _ (iZip4 g ρ so) cq ↔ @EvI _ (g ρ so) ⟨fun p => @EvI _ (match p.1 with
  | [.tuple xs, .tuple ys, .tuple zs, .tuple ws] => if ys.length = xs.length ∧ zs.length = xs.length ∧ ws.length = xs.length then some (zip4D xs ys zs ws, p.2) else none
  | _ => none) cq⟩ := ev_bind
theorem ev_iEnm {f : DE} {ρ : Slots} {so : Sto} {cq : CQ (List PyData × Sto)} : @EvI _ (iEnm f ρ so) cq ↔ @EvI _ (f ρ so) ⟨fun p => @EvI _ (match p.1 with
  | .list xs => some (enumD xs, p.2)
  | _ => none) cq⟩ := ev_bind
theorem ev_nAdd {f g : DE} {ρ : Slots} {so : Sto} {cq : CQ (List PyData × Sto)} : @EvI _ (nAdd f g ρ so) cq ↔ @EvI _ (f ρ so) ⟨fun p => @EvI _ ((g ρ p.2).bind fun q => match p.1, q.1 with
  | .list xs, .list ys => if xs.length + ys.length ≤ LIM then some (xs ++ ys, q.2) else none
  | _, _ => none) cq⟩ := ev_bind
theorem ev_eMinD {f g : DE} {ρ : Slots} {so : Sto} {cq : CQ (PyData × Sto)} : @EvI _ (eMinD f g ρ so) cq ↔ @EvI _ (f ρ so) ⟨fun p => @EvI _ ((g ρ p.2).bind fun q => (gMinD p.1 q.1).map fun d => (d, q.2)) cq⟩ := ev_bind
theorem ev_nSS {f : DE} {ρ : Slots} {so : Sto} {cq : CQ (List PyData × Sto)} : @EvI _ (nSS f ρ so) cq ↔ @EvI _ (f ρ so) ⟨fun p => @EvI _ (match p.1 with
  | .list ds => (keysOf ds).bind fun ks => if keysOk ks = true then some ((sortK ks).map tupI, p.2) else none
  | _ => none) cq⟩ := ev_bind
theorem ev_nCall {G : List Sl → Option (List PyData)} {g : DL} {ρ : Slots} {so : Sto} {cq : CQ (List PyData × Sto)} : @EvI _ (nCall G g ρ so) cq ↔ @EvI _ (g ρ so) ⟨fun p => @EvI _ ((G (p.1.map .d)).map fun ds => (ds, p.2)) cq⟩ := ev_bind
theorem Ev.mono {α : Type} {o : Option α} {Q R : α → Prop} (h : Ev o Q) (k : ∀ a, Q a → R a) : Ev o R := by
  obtain ⟨a, e, q⟩ := h
  exact ⟨a, e, k a q⟩
/-- what a turn's end makes of the loop -/
def turnQ (P : Slots → Sto → Prop) (Q : Fl × Sto → Prop) : Fl × Sto → Prop
  | (.nx ρ, so) => P ρ so
  | (.ct ρ, so) => P ρ so
  | (.bk ρ, so) => Q (.nx ρ, so)
  | (.rt d, so) => Q (.rt d, so)
  | (.ex n, so) => Q (.ex n, so)
theorem turn_nx {P : Slots → Sto → Prop} {Q : Fl × Sto → Prop} {ρ : Slots} {so : Sto} : turnQ P Q (.nx ρ, so) = P ρ so := rfl
theorem turn_ct {P : Slots → Sto → Prop} {Q : Fl × Sto → Prop} {ρ : Slots} {so : Sto} : turnQ P Q (.ct ρ, so) = P ρ so := rfl
theorem turn_bk {P : Slots → Sto → Prop} {Q : Fl × Sto → Prop} {ρ : Slots} {so : Sto} : turnQ P Q (.bk ρ, so) = Q (.nx ρ, so) := rfl
theorem turn_rt {P : Slots → Sto → Prop} {Q : Fl × Sto → Prop} {d : PyData} {so : Sto} : turnQ P Q (.rt d, so) = Q (.rt d, so) := rfl
theorem ev_for {t : Tg} {body : DS} {items : List PyData} {ρ : Slots} {so : Sto} {Q : Fl × Sto → Prop} (P : Nat → Slots → Sto → Prop) (h0 : P 0 ρ so)
    (hs : ∀ i d ρ so, items[i]? = some d → P i ρ so → Ev (putT t d ρ) fun ρ1 => Ev (body ρ1 so) (turnQ (P (i + 1)) Q)) (hq : ∀ ρ so, P items.length ρ so → Q (.nx ρ, so)) : Ev (forGo t body items ρ so) Q := by
  have go : ∀ (r : List PyData) (i : Nat) (ρ : Slots) (so : Sto), items.drop i = r → i ≤ items.length → P i ρ so → Ev (forGo t body r ρ so) Q := by
    intro r
    induction r with
    | nil =>
      intro i ρ so e hi p
      have hi : i = items.length := by
        have := congrArg List.length e
        simp at this
        omega
      subst hi
      exact ⟨_, rfl, hq _ _ p⟩
    | cons d r ih =>
      intro i ρ so e hi p
      have hlt : i < items.length := by
        have := congrArg List.length e
        simp at this
        omega
      have hd : items[i]? = some d := by
        rw [List.drop_eq_getElem_cons hlt] at e
        rw [List.getElem?_eq_getElem hlt]
        exact congrArg some (List.cons.inj e).1
      have hr : items.drop (i + 1) = r := by
        rw [List.drop_eq_getElem_cons hlt] at e
        exact (List.cons.inj e).2
      obtain ⟨ρ1, e1, ⟨fl, so1⟩, e2, p2⟩ := hs i d ρ so hd p
      have e3 : forGo t body (d :: r) ρ so = (match fl with
        | .nx ρ2 => forGo t body r ρ2 so1
        | .ct ρ2 => forGo t body r ρ2 so1
        | .bk ρ2 => some (.nx ρ2, so1)
        | .rt d => some (.rt d, so1)
        | .ex n => some (.ex n, so1)) := by
        simp only [forGo, e1, e2, Option.bind_some]
        cases fl <;> rfl
      rw [e3]
      cases fl with
      | nx ρ2 => exact ih (i + 1) ρ2 so1 hr hlt p2
      | ct ρ2 => exact ih (i + 1) ρ2 so1 hr hlt p2
      | bk ρ2 => exact ⟨_, rfl, p2⟩
      | rt d => exact ⟨_, rfl, p2⟩
      | ex n => exact ⟨_, rfl, p2⟩
  exact go items 0 ρ so (by simp) (Nat.zero_le _) h0
/-- over the first numbers -/
theorem ev_forN {t : Tg} {body : DS} {n : Nat} {ρ : Slots} {so : Sto} {Q : Fl × Sto → Prop} (P : Nat → Slots → Sto → Prop) (h0 : P 0 ρ so)
    (hs : ∀ i ρ so, i < n → P i ρ so → Ev (putT t (.int i) ρ) fun ρ1 => Ev (body ρ1 so) (turnQ (P (i + 1)) Q)) (hq : ∀ ρ so, P n ρ so → Q (.nx ρ, so)) : Ev (forGo t body (rangeD 0 n) ρ so) Q := by
  refine ev_for P h0 (fun i d ρ so hd p => ?_) (fun ρ so p => ?_)
  · obtain ⟨hi, rfl⟩ := rangeD_get hd
    rw [Int.zero_add]
    exact hs i ρ so hi p
  · have e : (rangeD 0 n).length = n := by simp [rangeD]
    rw [e] at p
    exact hq ρ so p
/-- while, so many turns at most -/
theorem ev_while {c : DB} {body : DS} {Q : Fl × Sto → Prop} (P : Nat → Slots → Sto → Prop) (n : Nat) (hs : ∀ m ρ so, P m ρ so → Ev (c ρ so) fun b => (b.1 = true → 0 < m ∧ Ev (body ρ b.2) (turnQ (P (m - 1)) Q)) ∧ (b.1 = false → Q (.nx ρ, b.2))) :
    ∀ (m : Nat) (ρ : Slots) (so : Sto), m < n → P m ρ so → Ev (whGo c body n ρ so) Q := by
  induction n with
  | zero => intro m ρ so h; omega
  | succ n ih =>
    intro m ρ so hm p
    obtain ⟨⟨b, so1⟩, e1, h1, h2⟩ := hs m ρ so p
    cases b with
    | false =>
      refine ⟨_, ?_, h2 rfl⟩
      simp only [whGo, e1, Option.bind_some]
      rfl
    | true =>
      obtain ⟨m0, ⟨fl, so2⟩, e2, p2⟩ := h1 rfl
      have e3 : whGo c body (n + 1) ρ so = (match fl with
        | .nx ρ2 => whGo c body n ρ2 so2
        | .ct ρ2 => whGo c body n ρ2 so2
        | .bk ρ2 => some (.nx ρ2, so2)
        | .rt d => some (.rt d, so2)
        | .ex n => some (.ex n, so2)) := by
        have e2' : body ρ so1 = some (fl, so2) := e2
        simp only [whGo, e1, e2', Option.bind_some, if_true]
        cases fl <;> rfl
      rw [e3]
      cases fl with
      | nx ρ2 => exact ih (m - 1) ρ2 so2 (by omega) p2
      | ct ρ2 => exact ih (m - 1) ρ2 so2 (by omega) p2
      | bk ρ2 => exact ⟨_, rfl, p2⟩
      | rt d => exact ⟨_, rfl, p2⟩
      | ex n => exact ⟨_, rfl, p2⟩
theorem ev_lc {body : PyData → Sto → Option (List PyData × Sto)} {items : List PyData} {so : Sto} {Q : List PyData × Sto → Prop} (P : Nat → List PyData → Sto → Prop) (h0 : P 0 [] so)
    (hs : ∀ i d acc so, items[i]? = some d → P i acc so → Ev (body d so) fun r => P (i + 1) (acc ++ r.1) r.2) (hq : ∀ acc so, P items.length acc so → Q (acc, so)) : Ev (lcGo body items so) Q := by
  obtain ⟨tot, so', e, p⟩ := lc_inv P h0 fun i d acc so hd p => by
    obtain ⟨⟨ys, so'⟩, e, q⟩ := hs i d acc so hd p
    exact ⟨ys, so', e, q⟩
  exact ⟨_, e, hq _ _ p⟩
/-- items told by things, made into things -/
theorem ev_lcN {body : PyData → Sto → Option (List PyData × Sto)} {n : Nat} {so : Sto} {Q : List PyData × Sto → Prop} (P : Nat → List PyData → Sto → Prop) (h0 : P 0 [] so)
    (hs : ∀ i acc so, i < n → P i acc so → Ev (body (.int i) so) fun r => P (i + 1) (acc ++ r.1) r.2) (hq : ∀ acc so, P n acc so → Q (acc, so)) : Ev (lcGo body (rangeD 0 n) so) Q := by
  refine ev_lc P h0 (fun i d acc so hd p => ?_) (fun acc so p => ?_)
  · obtain ⟨hi, rfl⟩ := rangeD_get hd
    rw [Int.zero_add]
    exact hs i acc so hi p
  · have e : (rangeD 0 n).length = n := by simp [rangeD]
    rw [e] at p
    exact hq acc so p
theorem ev_of {α : Type} {o : Option α} {a : α} {Q : α → Prop} (e : o = some a) (q : Q a) : Ev o Q := ⟨a, e, q⟩
/-- what follows a statement -/
def seqQ (g : DS) (Q : Fl × Sto → Prop) : Fl × Sto → Prop
  | (.nx ρ, so) => Ev (g ρ so) Q
  | (.ct ρ, so) => Q (.ct ρ, so)
  | (.bk ρ, so) => Q (.bk ρ, so)
  | (.rt d, so) => Q (.rt d, so)
  | (.ex n, so) => Q (.ex n, so)
theorem seq_nx {g : DS} {Q : Fl × Sto → Prop} {ρ : Slots} {so : Sto} : seqQ g Q (.nx ρ, so) = Ev (g ρ so) Q := rfl
theorem seq_ct {g : DS} {Q : Fl × Sto → Prop} {ρ : Slots} {so : Sto} : seqQ g Q (.ct ρ, so) = Q (.ct ρ, so) := rfl
theorem seq_bk {g : DS} {Q : Fl × Sto → Prop} {ρ : Slots} {so : Sto} : seqQ g Q (.bk ρ, so) = Q (.bk ρ, so) := rfl
theorem seq_rt {g : DS} {Q : Fl × Sto → Prop} {d : PyData} {so : Sto} : seqQ g Q (.rt d, so) = Q (.rt d, so) := rfl
theorem ev_seq {f g : DS} {ρ : Slots} {so : Sto} {c : CQ (Fl × Sto)} : @EvI _ (sSeq f g ρ so) c ↔ @EvI _ (f ρ so) ⟨seqQ g c.q⟩ := by
  unfold sSeq
  rw [ev_bind]
  constructor
  · rintro ⟨⟨fl, so1⟩, e, q⟩
    refine ⟨_, e, ?_⟩
    cases fl with
    | nx ρ1 => exact q
    | ct ρ1 => exact (ev_some (c := c)).mp q
    | bk ρ1 => exact (ev_some (c := c)).mp q
    | rt d => exact (ev_some (c := c)).mp q
    | ex n => exact (ev_some (c := c)).mp q
  · rintro ⟨⟨fl, so1⟩, e, q⟩
    refine ⟨_, e, ?_⟩
    cases fl with
    | nx ρ1 => exact q
    | ct ρ1 => exact (ev_some (c := c)).mpr q
    | bk ρ1 => exact (ev_some (c := c)).mpr q
    | rt d => exact (ev_some (c := c)).mpr q
    | ex n => exact (ev_some (c := c)).mpr q
def forQ (t : Tg) (body : DS) (ρ : Slots) (Q : Fl × Sto → Prop) (p : List PyData × Sto) : Prop := Ev (forGo t body p.1 ρ p.2) Q
theorem for_q {t : Tg} {body : DS} {ρ : Slots} {Q : Fl × Sto → Prop} {ds : List PyData} {so : Sto} : forQ t body ρ Q (ds, so) = Ev (forGo t body ds ρ so) Q := rfl
theorem ev_sFor {t : Tg} {fi : DL} {body : DS} {ρ : Slots} {so : Sto} {c : CQ (Fl × Sto)} : @EvI _ (sFor t fi body ρ so) c ↔ @EvI _ (fi ρ so) ⟨forQ t body ρ c.q⟩ := by
  unfold sFor
  rw [ev_bind]
  rfl
/-- what a def hands back -/
def retQ (p : Nat) (Q : PyData × Sto → Prop) : Fl × Sto → Prop
  | (.rt d, so) => Q (d, so.take p)
  | (.nx _, so) => Q (.none, so.take p)
  | _ => False
theorem ret_rt {p : Nat} {Q : PyData × Sto → Prop} {d : PyData} {so : Sto} : retQ p Q (.rt d, so) = Q (d, so.take p) := rfl
theorem ret_nx {p : Nat} {Q : PyData × Sto → Prop} {ρ : Slots} {so : Sto} : retQ p Q (.nx ρ, so) = Q (.none, so.take p) := rfl
theorem ev_fDef {n m p q : Nat} {f : DS} {as : List Sl} {so : Sto} {c : CQ (PyData × Sto)} : @EvI _ (fDef n m p q f as so) c ↔ (as.length = n ∧ so.length = p) ∧ @EvI _ (f (as.map some ++ List.replicate (m - n) none) (so ++ List.replicate q .no)) ⟨retQ p c.q⟩ := by
  unfold fDef
  by_cases h : as.length = n ∧ so.length = p
  · rw [if_pos h, ev_bind]
    constructor
    · rintro ⟨⟨fl, so1⟩, e, q⟩
      refine ⟨h, _, e, ?_⟩
      cases fl with
      | nx ρ1 => exact (ev_some (c := c)).mp q
      | rt d => exact (ev_some (c := c)).mp q
      | bk ρ1 => exact ((ev_none (c := c)).mp q).elim
      | ct ρ1 => exact ((ev_none (c := c)).mp q).elim
      | ex n => exact ((ev_none (c := c)).mp q).elim
    · rintro ⟨_, ⟨fl, so1⟩, e, q⟩
      refine ⟨_, e, ?_⟩
      cases fl with
      | nx ρ1 => exact (ev_some (c := c)).mpr q
      | rt d => exact (ev_some (c := c)).mpr q
      | _ => exact q.elim
  · rw [if_neg h, ev_none]
    exact ⟨False.elim, fun q => h q.1⟩
theorem ev_fDefN {n m : Nat} {f : DL} {as : List Sl} {c : CQ (List PyData)} : @EvI _ (fDefN n m f as) c ↔ as.length = n ∧ @EvI _ (f (as.map some ++ List.replicate (m - n) none) []) ⟨fun r => c.q r.1⟩ := by
  unfold fDefN
  by_cases h : as.length = n
  · rw [if_pos h, ev_map]
    exact ⟨fun e => ⟨h, e⟩, fun e => e.2⟩
  · rw [if_neg h, ev_none]
    exact ⟨False.elim, fun q => h q.1⟩
/-! ### what the operations make, told once -/
theorem dAdd_int (a b : Int) : dAdd (.int a) (.int b) = some (.int (a + b)) := rfl
theorem dAdd_tup {xs ys : List PyData} (h : xs.length + ys.length ≤ 5000) : dAdd (.tuple xs) (.tuple ys) = some (.tuple (xs ++ ys)) := if_pos h
theorem dAdd_lst {xs ys : List PyData} (h : xs.length + ys.length ≤ 5000) : dAdd (.list xs) (.list ys) = some (.list (xs ++ ys)) := if_pos h
theorem dSub_int (a b : Int) : dSub (.int a) (.int b) = some (.int (a - b)) := rfl
theorem dMul_int {a b : Int} (h : a.natAbs < 18446744073709551616 ∨ b.natAbs < 18446744073709551616) : dMul (.int a) (.int b) = some (.int (a * b)) := if_pos h
theorem dMul_tup {z : PyData} {k : Int} (h : 1 ≤ k ∧ k ≤ 1000) : dMul (.tuple [z]) (.int k) = some (.tuple (List.replicate k.toNat z)) := if_pos h
theorem dMod_int {a b : Int} (h : 0 < b) : dMod (.int a) (.int b) = some (.int (a % b)) := by unfold dMod dIc; simp [h]
theorem dDiv_int {a b : Int} (h : 0 < b) (h1 : b < 1073741824) : dDiv (.int a) (.int b) = some (.int (a / b)) := by unfold dDiv dIc; simp [h, h1]
theorem dPow_int {a b : Int} (h : 0 ≤ b) (h1 : b ≤ 1000000) (h2 : a.natAbs < 18446744073709551616) : dPow (.int a) (.int b) = some (.int (a ^ b.toNat)) := by unfold dPow dIc; simp [h, h1, h2]
theorem dShl_int {a b : Int} (h : 0 ≤ b) (h1 : b ≤ 1000000) (h2 : a.natAbs < 18446744073709551616) : dShl (.int a) (.int b) = some (.int (a * 2 ^ b.toNat)) := by unfold dShl dIc; simp [h, h1, h2]
theorem dBor_int (a b : Int) : dBor (.int a) (.int b) = some (.int (Builtin.bitOr a b)) := rfl
theorem dLt_int (a b : Int) : dLt (.int a) (.int b) = some (.bool (decide (a < b))) := rfl
theorem dLe_int (a b : Int) : dLe (.int a) (.int b) = some (.bool (decide (a ≤ b))) := rfl
theorem dGt_int (a b : Int) : dGt (.int a) (.int b) = some (.bool (decide (b < a))) := rfl
theorem dGe_int (a b : Int) : dGe (.int a) (.int b) = some (.bool (decide (b ≤ a))) := rfl
theorem int_beq (a b : Int) : (a == b) = decide (a = b) := by
  by_cases h : a = b
  · subst h; simp
  · simp [h]
theorem dEq_int (a b : Int) : dEq (.int a) (.int b) = some (.bool (decide (a = b))) := by rw [← int_beq]; rfl
theorem dNe_int (a b : Int) : dNe (.int a) (.int b) = some (.bool (!decide (a = b))) := by rw [← int_beq]; rfl
theorem dNot_bool (b : Bool) : dNot (.bool b) = some (.bool (!b)) := rfl
theorem dNeg_int (a : Int) : dNeg (.int a) = some (.int (-a)) := rfl
theorem dBits_int (a : Int) : dBits (.int a) = some (.int (Builtin.Int.intBits a : Nat)) := rfl
theorem dIx_lst (xs : List PyData) (i : Int) : dIx (.list xs) (.int i) = atI xs i := rfl
theorem dIx_tup (xs : List PyData) (i : Int) : dIx (.tuple xs) (.int i) = atI xs i := rfl
theorem gLen_lst (xs : List PyData) : gLen [.list xs] = some (.int xs.length) := rfl
theorem gLen_tup (xs : List PyData) : gLen [.tuple xs] = some (.int xs.length) := rfl
theorem gTuple_lst (xs : List PyData) : gTuple [.list xs] = some (.tuple xs) := rfl
theorem gTuple_tup (xs : List PyData) : gTuple [.tuple xs] = some (.tuple xs) := rfl
theorem gMax_two (a b : Int) : gMax [.int a, .int b] = some (.int (if b > a then b else a)) := rfl
theorem gMin_two (a b : Int) : gMin [.int a, .int b] = some (.int (if b < a then b else a)) := rfl
theorem gInt_int (a : Int) : gInt [.int a] = some (.int a) := rfl
theorem gInt_bool (b : Bool) : gInt [.bool b] = some (.int (if b then 1 else 0)) := rfl
theorem seqOf_lst (xs : List PyData) : seqOf (.list xs) = some xs := rfl
theorem seqOf_tup (xs : List PyData) : seqOf (.tuple xs) = some xs := rfl
theorem dIs_none (d : PyData) : dIs d .none = some (.bool (same1 d .none)) := rfl
theorem dIs_bool (d : PyData) (b : Bool) : dIs d (.bool b) = some (.bool (same1 d (.bool b))) := rfl
theorem dIsNot_none (d : PyData) : dIsNot d .none = some (.bool (!same1 d .none)) := rfl
theorem dIsNot_bool (d : PyData) (b : Bool) : dIsNot d (.bool b) = some (.bool (!same1 d (.bool b))) := rfl
theorem same1_int (a : Int) (d : PyData) : same1 (.int a) d = false := by cases d <;> rfl
theorem scV_int (a : Int) : scV (.int a) = some (.int a) := rfl
theorem scV_bool (a : Bool) : scV (.bool a) = some (.bl a) := rfl
theorem isA_int (d : PyData) : isA "int" d = some d.isInt := rfl
theorem isA_tup (d : PyData) : isA "tuple" d = some d.isTuple := rfl
theorem isA_str (d : PyData) : isA "str" d = some d.isStr := rfl
theorem isA_lst (d : PyData) : isA "list" d = some d.isList := rfl
theorem atI_0 {α : Type} {x : α} {r : List α} : atI (x :: r) 0 = some x := by unfold atI ixN; simp
theorem atI_1 {α : Type} {x y : α} {r : List α} : atI (x :: y :: r) 1 = some y := by
  have h : (1 : Int) < (r.length : Int) + 1 + 1 := by omega
  unfold atI ixN
  simp [h]
theorem atI_2 {α : Type} {x y z : α} {r : List α} : atI (x :: y :: z :: r) 2 = some z := by
  have h : (2 : Int) < (r.length : Int) + 1 + 1 + 1 := by omega
  unfold atI ixN
  simp [h]
theorem noO_d (k : Nat) (d : PyData) : noO k (some (.d d)) = true := rfl
theorem noO_s (k : Nat) (ns : List Int) : noO k (some (.s ns)) = true := rfl
theorem noO_o (k j : Nat) : noO k (some (.o j)) = (j != k) := rfl
theorem noO_n (k : Nat) : noO k none = true := rfl
end MP
namespace MP
open PySem PySem.Spec PyProof.Rows L2 RL
theorem ev_sHead {i j : Nat} {f : DE} {ρ : Slots} {so : Sto} {cq : CQ (Fl × Sto)} : @EvI _ (sHead i j f ρ so) cq ↔ @EvI _ (f ρ so) ⟨fun p => @EvI _ (match p.1 with
  | .tuple (x :: r) => if r.length ≤ LIM then some (.nx ((ρ.set i (some (.d x))).set j (some (.d (.list r)))), p.2) else none
  | _ => none) cq⟩ := ev_bind
theorem ev_eStp {f : DE} {lo hi st : DO} {ρ : Slots} {so : Sto} {cq : CQ (PyData × Sto)} : @EvI _ (eStp f lo hi st ρ so) cq ↔ @EvI _ (f ρ so) ⟨fun p => @EvI _ ((lo ρ p.2).bind fun q => (hi ρ q.2).bind fun r => (st ρ r.2).bind fun t => (dStp p.1 q.1 r.1 t.1).map fun d => (d, t.2)) cq⟩ := ev_bind
theorem ev_iRg3 {g : DL} {ρ : Slots} {so : Sto} {cq : CQ (List PyData × Sto)} : @EvI _ (iRg3 g ρ so) cq ↔ @EvI _ (g ρ so) ⟨fun p => @EvI _ (match p.1 with
  | [.int a, .int b, .int (-1)] => if -5000 ≤ a ∧ a ≤ 5000 ∧ -5000 ≤ b ∧ b ≤ 5000 then some (downD a (a - b).toNat, p.2) else none
  | _ => none) cq⟩ := ev_bind
theorem ev_iZipS {f : DE} {ρ : Slots} {so : Sto} {cq : CQ (List PyData × Sto)} : @EvI _ (iZipS f ρ so) cq ↔ @EvI _ (f ρ so) ⟨fun p => @EvI _ (match p.1 with
  | .list ds => ((tupRows ds).orElse fun _ => lstRows ds).bind fun rows => if 1 ≤ rows.length ∧ rows.length ≤ 6 ∧ ∀ r ∈ rows, r.length = (rows.headD []).length then some (colsD rows, p.2) else none
  | _ => none) cq⟩ := ev_bind
end MP
namespace MP
open PySem PySem.Spec PyProof.Rows L2 RL
theorem ev_eStpU {f : DE} {lo hi st : DO} {ρ : Slots} {so : Sto} {cq : CQ (PyData × Sto)} : @EvI _ (eStpU f lo hi st ρ so) cq ↔ @EvI _ (f ρ so) ⟨fun p => @EvI _ ((lo ρ p.2).bind fun q => (hi ρ q.2).bind fun r => (st ρ r.2).bind fun t => (dStpU p.1 q.1 r.1 t.1).map fun d => (d, t.2)) cq⟩ := ev_bind
end MP
namespace MP
open PySem PySem.Spec PyProof.Rows L2 RL
theorem ev_dIxO {i : Nat} {b : DE} {ρ : Slots} {so : Sto} {cq : CQ (PyData × Sto)} : @EvI _ (dIxO i b ρ so) cq ↔ @EvI _ (b ρ so) ⟨fun p => @EvI _ ((dctAt i ρ p.2).bind fun q => if isKey p.1 then (dctVal q.2 p.1).map fun d => (d, p.2) else none) cq⟩ := ev_bind
theorem ev_dInO {neg : Bool} {i : Nat} {f : DE} {ρ : Slots} {so : Sto} {cq : CQ (PyData × Sto)} : @EvI _ (dInO neg i f ρ so) cq ↔ @EvI _ (f ρ so) ⟨fun p => @EvI _ ((dctAt i ρ p.2).bind fun q => if isKey p.1 then some (.bool (if neg then !(dctVal q.2 p.1).isSome else (dctVal q.2 p.1).isSome), p.2) else none) cq⟩ := ev_bind
theorem ev_sDct {i : Nat} {b f : DE} {ρ : Slots} {so : Sto} {cq : CQ (Fl × Sto)} : @EvI _ (sDct i b f ρ so) cq ↔ @EvI _ (f ρ so) ⟨fun p => @EvI _ ((b ρ p.2).bind fun r => (dctAt i ρ r.2).bind fun q => if isKey r.1 && decide (q.2.length < LIM) then some (.nx ρ, r.2.set q.1 (.dct (dctPut q.2 r.1 p.1))) else none) cq⟩ := ev_bind
theorem ev_wLst {f : DL} {ρ : Slots} {so : Sto} {cq : CQ (Own × Sto)} : @EvI _ (wLst f ρ so) cq ↔ @EvI _ (f ρ so) ⟨fun p => cq.q ((.lst p.1, p.2))⟩ := ev_map
theorem ev_sNewW {i k : Nat} {f : DNw} {ρ : Slots} {so : Sto} {cq : CQ (Fl × Sto)} : @EvI _ (sNewW i k f ρ so) cq ↔ @EvI _ (f ρ so) ⟨fun p => @EvI _ ((putW i k p.1 ρ p.2).map fun r => (.nx r.1, r.2)) cq⟩ := ev_bind
theorem ev_sParDW {i j k : Nat} {f : DE} {g : DNw} {ρ : Slots} {so : Sto} {cq : CQ (Fl × Sto)} : @EvI _ (sParDW i j k f g ρ so) cq ↔ @EvI _ (f ρ so) ⟨fun p => @EvI _ ((g ρ p.2).bind fun q => (putW j k q.1 (ρ.set i (some (.d p.1))) q.2).map fun r => (.nx r.1, r.2)) cq⟩ := ev_bind
theorem ev_sParWD {i k j : Nat} {f : DNw} {g : DE} {ρ : Slots} {so : Sto} {cq : CQ (Fl × Sto)} : @EvI _ (sParWD i k j f g ρ so) cq ↔ @EvI _ (f ρ so) ⟨fun p => @EvI _ ((g ρ p.2).bind fun q => (putW i k p.1 ρ q.2).map fun r => (.nx (r.1.set j (some (.d q.1))), r.2)) cq⟩ := ev_bind
end MP
namespace MP
open PySem PySem.Spec PyProof.Rows L2 RL
theorem ev_wDc {vs : List Nat} {t : Tg} {fi : DL} {tt : DB} {tk tv : DE} {ρ : Slots} {so : Sto} {cq : CQ (Own × Sto)} : @EvI _ (wDc vs t fi tt tk tv ρ so) cq ↔ @EvI _ (fi ρ so) ⟨fun p => @EvI _ ((dcGo (dcBody t tt tk tv (wipeS ρ vs)) p.1 [] p.2).map fun q => (.dct q.1, q.2)) cq⟩ := ev_bind
theorem ev_nKeys {i : Nat} {ρ : Slots} {so : Sto} {cq : CQ (List PyData × Sto)} : @EvI _ (nKeys i ρ so) cq ↔ @EvI _ (dctAt i ρ so) ⟨fun q => @EvI _ (if q.2.length ≤ LIM then some (q.2.map (·.1), so) else none) cq⟩ := ev_bind
theorem ev_eMinX {f g : DE} {ρ : Slots} {so : Sto} {cq : CQ (PyData × Sto)} : @EvI _ (eMinX f g ρ so) cq ↔ @EvI _ (f ρ so) ⟨fun p => @EvI _ ((g ρ p.2).bind fun q => (gMinX p.1 q.1).map fun d => (d, q.2)) cq⟩ := ev_bind
end MP
namespace MP
open PySem PySem.Spec PyProof.Rows L2 RL
theorem ev_fCallL {G : FD} {i : Nat} {g : DL} {ρ : Slots} {so : Sto} {cq : CQ (PyData × Sto)} : @EvI _ (fCallL G i g ρ so) cq ↔ @EvI _ (g ρ so) ⟨fun p => @EvI _ ((thingAt i ρ p.2).bind fun q => (G (p.1.map .d ++ [.o 0]) [q.2]).bind fun r => putBack q.1 p.2 r) cq⟩ := ev_bind
/-- behind a statement of a def that hands back a dict -/
def wseqQ (g : DSW) (Q : Own × Sto → Prop) : Fl × Sto → Prop
  | (.nx ρ, so) => Ev (g ρ so) Q
  | (.bk _, _) => False
  | (.ct _, _) => False
  | (.rt _, _) => False
  | (.ex _, _) => False
theorem wq_nx {g : DSW} {Q : Own × Sto → Prop} {ρ : Slots} {so : Sto} : wseqQ g Q (.nx ρ, so) = Ev (g ρ so) Q := rfl
theorem ev_wSeq {f : DS} {g : DSW} {ρ : Slots} {so : Sto} {cq : CQ (Own × Sto)} : @EvI _ (wSeq f g ρ so) cq ↔ @EvI _ (f ρ so) ⟨wseqQ g cq.q⟩ := by
  unfold wSeq
  rw [ev_bind]
  constructor
  · rintro ⟨⟨fl, so1⟩, e, q⟩
    refine ⟨_, e, ?_⟩
    cases fl with
    | nx ρ1 => exact q
    | _ => exact (ev_none.mp q).elim
  · rintro ⟨⟨fl, so1⟩, e, q⟩
    refine ⟨_, e, ?_⟩
    cases fl with
    | nx ρ1 => exact q
    | _ => exact q.elim
def wretQ (Q : DK → Prop) : Own × Sto → Prop
  | (.dct kvs, _) => Q kvs
  | (.no, _) => False
  | (.lst _, _) => False
  | (.fz _, _) => False
theorem wr_dct {Q : DK → Prop} {kvs : DK} {so : Sto} : wretQ Q (.dct kvs, so) = Q kvs := rfl
theorem ev_fDefW {n m q : Nat} {f : DSW} {as : List Sl} {c : CQ DK} : @EvI _ (fDefW n m q f as) c ↔ as.length = n ∧ @EvI _ (f (as.map some ++ List.replicate (m - n) none) (List.replicate q .no)) ⟨wretQ c.q⟩ := by
  unfold fDefW
  by_cases h : as.length = n
  · rw [if_pos h, ev_bind]
    constructor
    · rintro ⟨⟨w, so1⟩, e, z⟩
      refine ⟨h, _, e, ?_⟩
      cases w with
      | dct kvs => exact (ev_some (c := c)).mp z
      | _ => exact (ev_none.mp z).elim
    · rintro ⟨_, ⟨w, so1⟩, e, z⟩
      refine ⟨_, e, ?_⟩
      cases w with
      | dct kvs => exact (ev_some (c := c)).mpr z
      | _ => exact z.elim
  · rw [if_neg h, ev_none]
    exact ⟨False.elim, fun z => h z.1⟩
theorem ev_wCall {G : FDW} {g : DL} {ρ : Slots} {so : Sto} {cq : CQ (Own × Sto)} : @EvI _ (wCall G g ρ so) cq ↔ @EvI _ (g ρ so) ⟨fun p => @EvI _ ((G (p.1.map .d)).map fun kvs => (.dct kvs, p.2)) cq⟩ := ev_bind
end MP
namespace MP
open PySem PySem.Spec PyProof.Rows L2 RL
theorem ev_iZ3 {g : DL} {ρ : Slots} {so : Sto} {cq : CQ (List PyData × Sto)} : @EvI _ (iZ3 g ρ so) cq ↔ @EvI _ (g ρ so) ⟨fun p => @EvI _ (match p.1 with
  | [a, b, c] => (seqOf a).bind fun xs => (seqOf b).bind fun ys => (seqOf c).bind fun zs => if ys.length = xs.length ∧ zs.length = xs.length then some (zip3D xs ys zs, p.2) else none
  | _ => none) cq⟩ := ev_bind
theorem ev_fCallN {G : FD} {f g : DL} {ρ : Slots} {so : Sto} {cq : CQ (PyData × Sto)} : @EvI _ (fCallN G f g ρ so) cq ↔ @EvI _ (f ρ so) ⟨fun p => @EvI _ ((g ρ p.2).bind fun q => (G (.o 0 :: q.1.map .d) [.lst p.1]).map fun r => (r.1, q.2)) cq⟩ := ev_bind
end MP
namespace MP
open PySem PySem.Spec PyProof.Rows L2 RL
theorem ev_xD {f : DE} {g : DX} {ρ : Slots} {so : Sto} {cq : CQ (List Pt × Sto)} : @EvI _ (xD f g ρ so) cq ↔ @EvI _ (f ρ so) ⟨fun p => @EvI _ ((g ρ p.2).bind fun q => some (Pt.d p.1 :: q.1, q.2)) cq⟩ := ev_bind
theorem ev_xN {f : DL} {g : DX} {ρ : Slots} {so : Sto} {cq : CQ (List Pt × Sto)} : @EvI _ (xN f g ρ so) cq ↔ @EvI _ (f ρ so) ⟨fun p => @EvI _ ((g ρ p.2).bind fun q => some (Pt.n p.1 :: q.1, q.2)) cq⟩ := ev_bind
theorem ev_sParX {ts : List (Nat × Nat)} {g : DX} {ρ : Slots} {so : Sto} {cq : CQ (Fl × Sto)} : @EvI _ (sParX ts g ρ so) cq ↔ @EvI _ (g ρ so) ⟨fun p => @EvI _ ((putXs ts p.1 ρ p.2).map fun r => (.nx r.1, r.2)) cq⟩ := ev_bind
end MP
namespace MP
open PySem PySem.Spec PyProof.Rows L2 RL
theorem ev_nST {f : DE} {ρ : Slots} {so : Sto} {cq : CQ (List PyData × Sto)} : @EvI _ (nST f ρ so) cq ↔ @EvI _ (f ρ so) ⟨fun p => @EvI _ ((seqOf p.1).bind fun ds => (keysOf ds).bind fun ks => if keysOk ks = true then some ((sortK ks).map tupI, p.2) else none) cq⟩ := ev_bind
end MP
namespace RL
open PySem PySem.Spec PyProof.Rows L2
/-! ### schemes, rollups, cells as texts -/
theorem wtAll_map {α : Type} {f : α → PyData} {B : Nat} : ∀ {xs : List α}, (∀ x ∈ xs, plainD (f x) = true ∧ wt (f x) ≤ B) → plainAll (xs.map f) = true ∧ wtAll (xs.map f) ≤ (B + 2) * xs.length
  | [], _ => ⟨rfl, by simp [wtAll]⟩
  | x :: xs, h => by
    obtain ⟨a, b⟩ := wtAll_map fun y hy => h y (List.mem_cons_of_mem _ hy)
    obtain ⟨c, d⟩ := h x List.mem_cons_self
    refine ⟨?_, ?_⟩
    · show (plainD (f x) && plainAll (xs.map f)) = true
      rw [a, c]; rfl
    · show wt (f x) + 2 + wtAll (xs.map f) ≤ _
      rw [List.length_cons, Nat.mul_succ]
      omega
theorem depthAll_map {α : Type} {f : α → PyData} {B : Nat} : ∀ {xs : List α}, (∀ x ∈ xs, (f x).depth ≤ B) → PyData.depthAll (xs.map f) ≤ B
  | [], _ => Nat.zero_le _
  | x :: xs, h => by
    have a := depthAll_map fun y hy => h y (List.mem_cons_of_mem _ hy)
    have b := h x List.mem_cons_self
    show max (f x).depth (PyData.depthAll (xs.map f)) ≤ B
    omega
theorem wt_eT {ns : List Nat} (h : ∀ n ∈ ns, n < 2 ^ 30) : plainD (eT ns) = true ∧ wt (eT ns) ≤ 34 * ns.length + 3 := by
  obtain ⟨a, b⟩ := plain_eT h
  exact ⟨a, by show wtAll (ns.map eN) + 3 ≤ _; omega⟩
theorem step_small {a : Att} (ok : AttOk a) {st : List Nat} (h : st ∈ a.2) : st.length ≤ 6 ∧ ∀ n ∈ st, n < 6 := by
  obtain ⟨l, hl⟩ := List.mem_iff_getElem?.mp h
  have hlt : l < a.2.length := (List.getElem?_eq_some_iff.mp hl).1
  obtain ⟨⟨h1, m, m0, mb, hm⟩, g⟩ := step_ok ok hlt
  rw [g] at hl
  have e : a.2.getD l [] = st := Option.some.inj hl
  rw [e] at h1 hm
  have := gcount_pos ok (Nat.le_of_lt hlt)
  exact ⟨by omega, fun n hn => by have := (hm n).mp hn; omega⟩
theorem wt_eA {a : Att} (ok : AttOk a) : plainD (eA a) = true ∧ wt (eA a) ≤ 1000 ∧ (eA a).depth ≤ 3 := by
  have hst : ∀ st ∈ a.2, plainD (eT st) = true ∧ wt (eT st) ≤ 210 := fun st hs => by
    obtain ⟨h1, h2⟩ := step_small ok hs
    obtain ⟨p, q⟩ := wt_eT (ns := st) fun n hn => by have := h2 n hn; omega
    exact ⟨p, by omega⟩
  obtain ⟨p1, q1⟩ := wtAll_map hst
  have d1 := depthAll_map (f := eT) (B := 1) (xs := a.2) fun st _ => by rw [depth_eT]; exact Nat.le_refl _
  have h3 := ok.2.2.1
  have l1 : ((a.1 : Int)).natAbs.log2 < 30 := by
    have e : ((a.1 : Int)).natAbs = a.1 := by omega
    rw [e]
    exact log2_lt (by have := ok.2.1; omega)
  refine ⟨?_, ?_, ?_⟩
  · show (decide (((a.1 : Int)).natAbs.log2 < 1920) && (plainAll (a.2.map eT) && true)) = true
    rw [p1, decide_eq_true (by omega)]
    rfl
  · show (((a.1 : Int)).natAbs.log2 + 2) + 2 + ((wtAll (a.2.map eT) + 3) + 2 + 0) + 3 ≤ 1000
    have : (210 + 2) * a.2.length ≤ 636 := by omega
    omega
  · show max 0 (max (PyData.depthAll (a.2.map eT) + 1) 0) + 1 ≤ 3
    omega
theorem wt_eS {S : List Att} (ok : SchOk S) : plainD (eS S) = true ∧ wt (eS S) ≤ 4000 ∧ (eS S).depth ≤ 4 := by
  obtain ⟨p1, q1⟩ := wtAll_map (f := eA) (B := 1000) (xs := S) fun a ha => ⟨(wt_eA (ok.2.2.1 a ha)).1, (wt_eA (ok.2.2.1 a ha)).2.1⟩
  have d1 := depthAll_map (f := eA) (B := 3) (xs := S) fun a ha => (wt_eA (ok.2.2.1 a ha)).2.2
  have l3 := ok.2.1
  refine ⟨p1, ?_, ?_⟩
  · show wtAll (S.map eA) + 3 ≤ 4000
    have : (1000 + 2) * S.length ≤ 3006 := by omega
    omega
  · show PyData.depthAll (S.map eA) + 1 ≤ 4
    omega
theorem roll_le {S : List Att} {r : List Nat} (hS : SchOk S) (h : RollOk S r) : ∀ n ∈ r, n ≤ 3 := by
  intro n hn
  obtain ⟨i, hi⟩ := List.mem_iff_getElem?.mp hn
  have hlt : i < r.length := (List.getElem?_eq_some_iff.mp hi).1
  have hs : i < S.length := by rw [← h.1]; exact hlt
  have := h.2 i S[i] n (List.getElem?_eq_getElem hs) hi
  have a3 := (hS.2.2.1 S[i] (List.getElem_mem hs)).2.2.1
  omega
theorem first_ix : ∀ {row : List Nat} {g : Nat}, g ∈ row → ∃ j, row[j]? = some g ∧ ∀ (m x : Nat), m < j → row[m]? = some x → x ≠ g
  | [], _, h => by cases h
  | y :: r, g, h => by
    by_cases e : y = g
    · subst e
      exact ⟨0, rfl, fun m x hm => by omega⟩
    · rcases List.mem_cons.mp h with e' | h'
      · exact absurd e'.symm e
      · obtain ⟨j, hj, hb⟩ := first_ix h'
        refine ⟨j + 1, by simpa using hj, fun m x hm hx => ?_⟩
        cases m with
        | zero =>
          have : y = x := Option.some.inj hx
          rw [← this]
          exact e
        | succ m => exact hb m x (by omega) (by simpa using hx)
end RL
namespace MP
open PySem L2 RL

/-! ### draws -/
/-- the pen's three numbers -/
def PenD (n : Nat) (ds : List PyData) : Prop := ∃ p q c : Int, ds = [.int p, .int q, .int c] ∧ 0 ≤ p ∧ 0 ≤ q ∧ q < 2147483648 ∧ 0 ≤ c ∧ c ≤ n
theorem PenD.mono {n m : Nat} {ds : List PyData} (h : PenD n ds) (l : n ≤ m) : PenD m ds := by
  obtain ⟨p, q, c, e, h1, h2, h3, h4, h5⟩ := h
  exact ⟨p, q, c, e, h1, h2, h3, h4, by omega⟩
theorem pda_eN (xs : List Nat) : PyData.plainAll (xs.map eN) = true ∧ PyData.depthAll (xs.map eN) = 0 := by
  induction xs with
  | nil => exact ⟨rfl, rfl⟩
  | cons x r ih =>
    constructor
    · show (true && PyData.plainAll (r.map eN)) = true
      rw [ih.1]; rfl
    · show max 0 (PyData.depthAll (r.map eN)) = 0
      rw [ih.2]; rfl
theorem ne_nil (xs : List Nat) : dNe (.list (xs.map eN)) (.list []) = some (.bool (!xs.isEmpty)) := by
  unfold dNe
  have h1 : (PyData.list (xs.map eN)).plain = true := (pda_eN xs).1
  have h2 : (PyData.list []).plain = true := rfl
  have h3 : min (PyData.list (xs.map eN)).depth (PyData.list []).depth ≤ 60 := Nat.le_trans (Nat.min_le_right _ _) (by decide)
  rw [h1, h2, decide_eq_true h3]
  cases xs <;> rfl
theorem erase_map {α β : Type} (f : α → β) : ∀ (xs : List α) (d : Nat), (xs.map f).eraseIdx d = (xs.eraseIdx d).map f
  | [], _ => rfl
  | _ :: _, 0 => rfl
  | x :: xs, d + 1 => by
    show f x :: (xs.map f).eraseIdx d = f x :: (xs.eraseIdx d).map f
    rw [erase_map f xs d]
theorem rangeD_eN (n : Nat) : rangeD 0 n = (List.range n).map eN := rangeD_nat n
/-- between two turns of an attribute's steps -/
def AttI (n many : Nat) (pre : Slots) (i : Nat) (ρ : Slots) (so : Sto) : Prop :=
  ∃ (g : Nat) (ss : List (List Nat)) (y5 y6 y7 y8 : Option Sl) (pen' : List PyData), ρ = pre ++ [some (.d (.int g)), some (.o 1), y5, y6, y7, y8] ∧ so = [.lst pen', .lst (ss.map eT)] ∧ StepsTo many ss g ∧ 1 ≤ g ∧ g ≤ 6 ∧ ss.length ≤ i ∧ PenD (n + 2 + 13 * i) pen'
def MoreI (n f : Nat) (st : Own) (j : Nat) (acc : List PyData) (so : Sto) : Prop :=
  ∃ (more : List Nat) (pen' : List PyData), acc = more.map eN ∧ so = [.lst pen', st] ∧ more.length = j ∧ (∀ k ∈ more, k < f) ∧ PenD (n + j) pen'
/-- between two turns of a walk over attributes -/
def AttsI (mosts : List Nat) (n : Nat) (i : Nat) (acc : List PyData) (so : Sto) : Prop :=
  ∃ (S : List Att) (pen' : List PyData), acc = S.map eA ∧ so = [.lst pen'] ∧ S.length = i ∧ (∀ a ∈ S, AttOk a) ∧ prodN (S.map (·.1)) ≤ prodN (mosts.take i) ∧ PenD (n + 50 * i) pen'
def RollI (S : List Att) (n : Nat) (i : Nat) (acc : List PyData) (so : Sto) : Prop :=
  ∃ (r : List Nat) (pen' : List PyData), acc = r.map eN ∧ so = [.lst pen'] ∧ r.length = i ∧ (∀ (j : Nat) (a : Att) (l : Nat), S[j]? = some a → r[j]? = some l → l < a.2.length + 1) ∧ PenD (n + i) pen'
/-! ### the script, the pen -/
end MP
namespace MP
open PySem L2 RL

theorem of_ev {α : Type} {o : Option α} {a : α} (h : Ev o fun r => r = a) : o = some a := by
  obtain ⟨b, e, rfl⟩ := h
  exact e
/-! ### bits -/
theorem bit_or : ∀ s, s < 64 → ∀ p, p < 6 → Builtin.bitOr ((s : Nat) : Int) ((2 : Int) ^ p) = ((s ||| 2 ^ p : Nat) : Int) ∧ s ||| 2 ^ p < 64 := by decide +kernel
def seenOf (ps : List Nat) : Nat := ps.foldl (fun s p => s ||| 2 ^ p) 0
theorem seen_snoc (ps : List Nat) (p : Nat) : seenOf (ps ++ [p]) = seenOf ps ||| 2 ^ p := by unfold seenOf; rw [List.foldl_append]; rfl
theorem seen_bit (ps : List Nat) (j : Nat) : (seenOf ps).testBit j = decide (j ∈ ps) := by
  induction ps using snocInd with
  | h0 => simp [seenOf]
  | h1 xs x ih =>
    rw [seen_snoc, Nat.testBit_or, ih, Nat.testBit_two_pow]
    simp [Bool.decide_or, eq_comm]
theorem seen_all {s : List Nat} {m : Nat} (h : ∀ g, g ∈ s ↔ g < m) : seenOf s = 2 ^ m - 1 := by
  refine Nat.eq_of_testBit_eq fun j => ?_
  rw [seen_bit, Nat.testBit_two_pow_sub_one]
  simp [h]
theorem bits_all : ∀ m, m < 7 → (Builtin.Int.intBits ((2 ^ m - 1 : Nat) : Int) : Nat) = m := by decide +kernel
/-! ### the package: steps, attributes, schemes -/
theorem isInt_int (i : Int) : (PyData.int i).isInt = true := rfl
theorem isTuple_tuple (xs : List PyData) : (PyData.tuple xs).isTuple = true := rfl
def GosI (b : Nat) (s : List Nat) (i : Nat) (ρ : Slots) (so : Sto) : Prop :=
  ∃ y3 : Option Sl, ρ = [some (.d (eT s)), some (.d (.int b)), some (.d (.int (seenOf (s.take i)))), y3, none] ∧ so = [] ∧ seenOf (s.take i) < 64
theorem ok_groups_of_step {b : Nat} {s : List Nat} (hs : StepOk b s) (hb : b ≤ 6) : F_groups_of_step [.d (eT s), .d (.int b)] [] = some (.int (top1 s), []) := by
  obtain ⟨hl, m, m0, mb, hm⟩ := hs
  refine of_ev ?_
  simp [F_groups_of_step, ↓ev_start, ↓ev_bind, ↓ev_map, ↓ev_eOp, ↓ev_eUn, ↓ev_aCons, ↓ev_aStar, ↓ev_eTup, ↓ev_nLst, ↓ev_eOfN, ↓ev_iSeq, ↓ev_iRg1, ↓ev_iRg2, ↓ev_bVal, ↓ev_bNot, ↓ev_bAnd, ↓ev_bOr, ↓ev_eIf, ↓ev_eAnd, ↓ev_eOr, ↓ev_eChain, ↓ev_sRet, ↓ev_sDrop, ↓ev_sSet, ↓ev_sIf, ↓ev_sNew, ↓ev_nLc, ↓ev_nLc2, ↓ev_fCall0, ↓ev_fCall1, ↓ev_fCallS, ↓ev_oIx, ↓ev_oCall, ↓ev_oTuple, ↓ev_oAppend, ↓ev_oExtend, ↓ev_oPop, ↓ev_sOwn, ↓ev_oEq, ↓ev_eCall, ↓ev_nList, ↓ev_nRange, ↓ev_eIsi, ↓ev_oSome, ↓ev_eSl, ↓ev_scIx, ↓ev_sParDD, ↓ev_sParDN, ↓ev_sParNN, ↓ev_iZip2, ↓ev_fCallZ, ↓ev_iZip3, ↓ev_iZip4, ↓ev_iEnm, ↓ev_nAdd, ↓ev_eMinD, ↓ev_nSS, ↓ev_nCall, ev_fDef, ev_fDefN, ev_seq, ev_sFor, seq_nx, seq_ct, seq_bk, seq_rt, for_q, ret_rt, ret_nx, sIf, sRet, sRetN, sDrop, sSet, sNew, sNext, sBreak, sCont, sNone, sOwn, sParDD, sParDN, sParNN, putN, bVal, bNot, bAnd, bOr, bYes, eOp, eUn, eC, eVar, eIf, eAnd, eOr, eChain, eTup, eOfN, eCall, eSl, eMinD, nAdd, nSS, eIsi, aNil, aCons, aStar, nLst, nList, nRange, nCall, nLc, nLc2, fCall0, fCall1, fCallS, fCallZ, oIx, oCall, oTuple, oAppend, oExtend, oPop, oEq, ownAt, scLen, scIx, iSeq, iRg1, iRg2, iZip2, iZip3, iZip4, iEnm, putT, putTs, wipeS, noO_d, noO_s, noO_o, noO_n, oNo, oSome, dSl, dAdd_int, dAdd_tup, dAdd_lst, dSub_int, dMul_int, dMul_tup, dMod_int, dDiv_int, dPow_int, dShl_int, dBor_int, dLt_int, dLe_int, dGt_int, dGe_int, dEq_int, dNe_int, dNot_bool, dNeg_int, dBits_int, dIx_lst, dIx_tup, gLen_lst, gLen_tup, gTuple_lst, gTuple_tup, gMax_two, gMin_two, gInt_int, gInt_bool, seqOf_lst, seqOf_tup, dIs_none, dIs_bool, dIsNot_none, dIsNot_bool, same1_int, scV_int, scV_bool, isA_int, isA_tup, isA_str, isA_lst, atI_0, atI_1, atI_2, LIM, ev_guard, ev_some, ev_none, ev_bind, ev_map, turn_nx, turn_ct, turn_bk, turn_rt, ↓ev_eStpU, eStpU, ↓ev_wDc, ↓ev_nKeys, ↓ev_eMinX, wDc, nKeys, eMinX, ↓ev_iZ3, ↓ev_fCallN, iZ3, fCallN, ↓ev_xD, ↓ev_xN, ↓ev_sParX, xNil, xD, xN, sParX, putXs, ↓ev_nST, nST, ↓ev_dIxO, ↓ev_dInO, ↓ev_sDct, ↓ev_wLst, ↓ev_sNewW, ↓ev_sParDW, ↓ev_sParWD, dIxO, dInO, sDct, wDct, wLst, sNewW, sParDW, sParWD, putW, dctAt, eT, isTuple_tuple, hl]
  refine ev_for (GosI b s) ⟨none, rfl, rfl, by simp [seenOf]⟩ ?_ ?_
  · rintro i d ρ so hd ⟨y3, rfl, rfl, h64⟩
    obtain ⟨g, hg, rfl⟩ := get_map hd
    have hgm : g < m := (hm g).mp (List.mem_of_getElem? hg)
    have b1 : (g : Int) < (b : Int) := by omega
    have b2 : (g : Int) ≤ 1000000 := by omega
    obtain ⟨e1, e2⟩ := bit_or _ h64 g (by omega)
    simp [B_groups_of_step_1, ↓ev_start, ↓ev_bind, ↓ev_map, ↓ev_eOp, ↓ev_eUn, ↓ev_aCons, ↓ev_aStar, ↓ev_eTup, ↓ev_nLst, ↓ev_eOfN, ↓ev_iSeq, ↓ev_iRg1, ↓ev_iRg2, ↓ev_bVal, ↓ev_bNot, ↓ev_bAnd, ↓ev_bOr, ↓ev_eIf, ↓ev_eAnd, ↓ev_eOr, ↓ev_eChain, ↓ev_sRet, ↓ev_sDrop, ↓ev_sSet, ↓ev_sIf, ↓ev_sNew, ↓ev_nLc, ↓ev_nLc2, ↓ev_fCall0, ↓ev_fCall1, ↓ev_fCallS, ↓ev_oIx, ↓ev_oCall, ↓ev_oTuple, ↓ev_oAppend, ↓ev_oExtend, ↓ev_oPop, ↓ev_sOwn, ↓ev_oEq, ↓ev_eCall, ↓ev_nList, ↓ev_nRange, ↓ev_eIsi, ↓ev_oSome, ↓ev_eSl, ↓ev_scIx, ↓ev_sParDD, ↓ev_sParDN, ↓ev_sParNN, ↓ev_iZip2, ↓ev_fCallZ, ↓ev_iZip3, ↓ev_iZip4, ↓ev_iEnm, ↓ev_nAdd, ↓ev_eMinD, ↓ev_nSS, ↓ev_nCall, ev_fDef, ev_fDefN, ev_seq, ev_sFor, seq_nx, seq_ct, seq_bk, seq_rt, for_q, ret_rt, ret_nx, sIf, sRet, sRetN, sDrop, sSet, sNew, sNext, sBreak, sCont, sNone, sOwn, sParDD, sParDN, sParNN, putN, bVal, bNot, bAnd, bOr, bYes, eOp, eUn, eC, eVar, eIf, eAnd, eOr, eChain, eTup, eOfN, eCall, eSl, eMinD, nAdd, nSS, eIsi, aNil, aCons, aStar, nLst, nList, nRange, nCall, nLc, nLc2, fCall0, fCall1, fCallS, fCallZ, oIx, oCall, oTuple, oAppend, oExtend, oPop, oEq, ownAt, scLen, scIx, iSeq, iRg1, iRg2, iZip2, iZip3, iZip4, iEnm, putT, putTs, wipeS, noO_d, noO_s, noO_o, noO_n, oNo, oSome, dSl, dAdd_int, dAdd_tup, dAdd_lst, dSub_int, dMul_int, dMul_tup, dMod_int, dDiv_int, dPow_int, dShl_int, dBor_int, dLt_int, dLe_int, dGt_int, dGe_int, dEq_int, dNe_int, dNot_bool, dNeg_int, dBits_int, dIx_lst, dIx_tup, gLen_lst, gLen_tup, gTuple_lst, gTuple_tup, gMax_two, gMin_two, gInt_int, gInt_bool, seqOf_lst, seqOf_tup, dIs_none, dIs_bool, dIsNot_none, dIsNot_bool, same1_int, scV_int, scV_bool, isA_int, isA_tup, isA_str, isA_lst, atI_0, atI_1, atI_2, LIM, ev_guard, ev_some, ev_none, ev_bind, ev_map, turn_nx, turn_ct, turn_bk, turn_rt, ↓ev_eStpU, eStpU, ↓ev_wDc, ↓ev_nKeys, ↓ev_eMinX, wDc, nKeys, eMinX, ↓ev_iZ3, ↓ev_fCallN, iZ3, fCallN, ↓ev_xD, ↓ev_xN, ↓ev_sParX, xNil, xD, xN, sParX, putXs, ↓ev_nST, nST, ↓ev_dIxO, ↓ev_dInO, ↓ev_sDct, ↓ev_wLst, ↓ev_sNewW, ↓ev_sParDW, ↓ev_sParWD, dIxO, dInO, sDct, wDct, wLst, sNewW, sParDW, sParWD, putW, dctAt, eN, isInt_int, b1, b2, e1]
    exact ⟨_, by rw [pre_take s hg, seen_snoc], rfl, by rw [pre_take s hg, seen_snoc]; exact e2⟩
  · rintro ρ so ⟨y3, rfl, rfl, h64⟩
    rw [List.length_map, List.take_length, seen_all hm]
    have e1 := bits_all m (by omega)
    have b1 : (m : Int) < (b : Int) := by omega
    have b2 : (m : Int) ≤ 1000000 := by omega
    have e2 : (((2 ^ m - 1 : Nat) : Int)) + 1 = 2 ^ m := by
      have : 0 < 2 ^ m := Nat.pow_pos (by decide)
      have h : ((2 ^ m - 1 : Nat) : Int) + 1 = ((2 ^ m : Nat) : Int) := by omega
      rw [h]
      simp
    simp [↓ev_start, ↓ev_bind, ↓ev_map, ↓ev_eOp, ↓ev_eUn, ↓ev_aCons, ↓ev_aStar, ↓ev_eTup, ↓ev_nLst, ↓ev_eOfN, ↓ev_iSeq, ↓ev_iRg1, ↓ev_iRg2, ↓ev_bVal, ↓ev_bNot, ↓ev_bAnd, ↓ev_bOr, ↓ev_eIf, ↓ev_eAnd, ↓ev_eOr, ↓ev_eChain, ↓ev_sRet, ↓ev_sDrop, ↓ev_sSet, ↓ev_sIf, ↓ev_sNew, ↓ev_nLc, ↓ev_nLc2, ↓ev_fCall0, ↓ev_fCall1, ↓ev_fCallS, ↓ev_oIx, ↓ev_oCall, ↓ev_oTuple, ↓ev_oAppend, ↓ev_oExtend, ↓ev_oPop, ↓ev_sOwn, ↓ev_oEq, ↓ev_eCall, ↓ev_nList, ↓ev_nRange, ↓ev_eIsi, ↓ev_oSome, ↓ev_eSl, ↓ev_scIx, ↓ev_sParDD, ↓ev_sParDN, ↓ev_sParNN, ↓ev_iZip2, ↓ev_fCallZ, ↓ev_iZip3, ↓ev_iZip4, ↓ev_iEnm, ↓ev_nAdd, ↓ev_eMinD, ↓ev_nSS, ↓ev_nCall, ev_fDef, ev_fDefN, ev_seq, ev_sFor, seq_nx, seq_ct, seq_bk, seq_rt, for_q, ret_rt, ret_nx, sIf, sRet, sRetN, sDrop, sSet, sNew, sNext, sBreak, sCont, sNone, sOwn, sParDD, sParDN, sParNN, putN, bVal, bNot, bAnd, bOr, bYes, eOp, eUn, eC, eVar, eIf, eAnd, eOr, eChain, eTup, eOfN, eCall, eSl, eMinD, nAdd, nSS, eIsi, aNil, aCons, aStar, nLst, nList, nRange, nCall, nLc, nLc2, fCall0, fCall1, fCallS, fCallZ, oIx, oCall, oTuple, oAppend, oExtend, oPop, oEq, ownAt, scLen, scIx, iSeq, iRg1, iRg2, iZip2, iZip3, iZip4, iEnm, putT, putTs, wipeS, noO_d, noO_s, noO_o, noO_n, oNo, oSome, dSl, dAdd_int, dAdd_tup, dAdd_lst, dSub_int, dMul_int, dMul_tup, dMod_int, dDiv_int, dPow_int, dShl_int, dBor_int, dLt_int, dLe_int, dGt_int, dGe_int, dEq_int, dNe_int, dNot_bool, dNeg_int, dBits_int, dIx_lst, dIx_tup, gLen_lst, gLen_tup, gTuple_lst, gTuple_tup, gMax_two, gMin_two, gInt_int, gInt_bool, seqOf_lst, seqOf_tup, dIs_none, dIs_bool, dIsNot_none, dIsNot_bool, same1_int, scV_int, scV_bool, isA_int, isA_tup, isA_str, isA_lst, atI_0, atI_1, atI_2, LIM, ev_guard, ev_some, ev_none, ev_bind, ev_map, turn_nx, turn_ct, turn_bk, turn_rt, ↓ev_eStpU, eStpU, ↓ev_wDc, ↓ev_nKeys, ↓ev_eMinX, wDc, nKeys, eMinX, ↓ev_iZ3, ↓ev_fCallN, iZ3, fCallN, ↓ev_xD, ↓ev_xN, ↓ev_sParX, xNil, xD, xN, sParX, putXs, ↓ev_nST, nST, ↓ev_dIxO, ↓ev_dInO, ↓ev_sDct, ↓ev_wLst, ↓ev_sNewW, ↓ev_sParDW, ↓ev_sParWD, dIxO, dInO, sDct, wDct, wLst, sNewW, sParDW, sParWD, putW, dctAt, e1, mb, b1, b2, e2, top1_of m0 hm]
theorem ok_is_integer (i : Int) : F_is_integer [.d (.int i)] [] = some (.bool true, []) := by
  refine of_ev ?_
  simp [F_is_integer, ↓ev_start, ↓ev_bind, ↓ev_map, ↓ev_eOp, ↓ev_eUn, ↓ev_aCons, ↓ev_aStar, ↓ev_eTup, ↓ev_nLst, ↓ev_eOfN, ↓ev_iSeq, ↓ev_iRg1, ↓ev_iRg2, ↓ev_bVal, ↓ev_bNot, ↓ev_bAnd, ↓ev_bOr, ↓ev_eIf, ↓ev_eAnd, ↓ev_eOr, ↓ev_eChain, ↓ev_sRet, ↓ev_sDrop, ↓ev_sSet, ↓ev_sIf, ↓ev_sNew, ↓ev_nLc, ↓ev_nLc2, ↓ev_fCall0, ↓ev_fCall1, ↓ev_fCallS, ↓ev_oIx, ↓ev_oCall, ↓ev_oTuple, ↓ev_oAppend, ↓ev_oExtend, ↓ev_oPop, ↓ev_sOwn, ↓ev_oEq, ↓ev_eCall, ↓ev_nList, ↓ev_nRange, ↓ev_eIsi, ↓ev_oSome, ↓ev_eSl, ↓ev_scIx, ↓ev_sParDD, ↓ev_sParDN, ↓ev_sParNN, ↓ev_iZip2, ↓ev_fCallZ, ↓ev_iZip3, ↓ev_iZip4, ↓ev_iEnm, ↓ev_nAdd, ↓ev_eMinD, ↓ev_nSS, ↓ev_nCall, ev_fDef, ev_fDefN, ev_seq, ev_sFor, seq_nx, seq_ct, seq_bk, seq_rt, for_q, ret_rt, ret_nx, sIf, sRet, sRetN, sDrop, sSet, sNew, sNext, sBreak, sCont, sNone, sOwn, sParDD, sParDN, sParNN, putN, bVal, bNot, bAnd, bOr, bYes, eOp, eUn, eC, eVar, eIf, eAnd, eOr, eChain, eTup, eOfN, eCall, eSl, eMinD, nAdd, nSS, eIsi, aNil, aCons, aStar, nLst, nList, nRange, nCall, nLc, nLc2, fCall0, fCall1, fCallS, fCallZ, oIx, oCall, oTuple, oAppend, oExtend, oPop, oEq, ownAt, scLen, scIx, iSeq, iRg1, iRg2, iZip2, iZip3, iZip4, iEnm, putT, putTs, wipeS, noO_d, noO_s, noO_o, noO_n, oNo, oSome, dSl, dAdd_int, dAdd_tup, dAdd_lst, dSub_int, dMul_int, dMul_tup, dMod_int, dDiv_int, dPow_int, dShl_int, dBor_int, dLt_int, dLe_int, dGt_int, dGe_int, dEq_int, dNe_int, dNot_bool, dNeg_int, dBits_int, dIx_lst, dIx_tup, gLen_lst, gLen_tup, gTuple_lst, gTuple_tup, gMax_two, gMin_two, gInt_int, gInt_bool, seqOf_lst, seqOf_tup, dIs_none, dIs_bool, dIsNot_none, dIsNot_bool, same1_int, scV_int, scV_bool, isA_int, isA_tup, isA_str, isA_lst, atI_0, atI_1, atI_2, LIM, ev_guard, ev_some, ev_none, ev_bind, ev_map, turn_nx, turn_ct, turn_bk, turn_rt, ↓ev_eStpU, eStpU, ↓ev_wDc, ↓ev_nKeys, ↓ev_eMinX, wDc, nKeys, eMinX, ↓ev_iZ3, ↓ev_fCallN, iZ3, fCallN, ↓ev_xD, ↓ev_xN, ↓ev_sParX, xNil, xD, xN, sParX, putXs, ↓ev_nST, nST, ↓ev_dIxO, ↓ev_dInO, ↓ev_sDct, ↓ev_wLst, ↓ev_sNewW, ↓ev_sParDW, ↓ev_sParWD, dIxO, dInO, sDct, wDct, wLst, sNewW, sParDW, sParWD, putW, dctAt, isInt_int]
theorem ok_number_from {i lo hi : Int} (h : lo ≤ i) (h2 : i ≤ hi) : F_is_number_from [.d (.int i), .d (.int lo), .d (.int hi)] [] = some (.bool true, []) := by
  refine of_ev ?_
  simp [F_is_number_from, ↓ev_start, ↓ev_bind, ↓ev_map, ↓ev_eOp, ↓ev_eUn, ↓ev_aCons, ↓ev_aStar, ↓ev_eTup, ↓ev_nLst, ↓ev_eOfN, ↓ev_iSeq, ↓ev_iRg1, ↓ev_iRg2, ↓ev_bVal, ↓ev_bNot, ↓ev_bAnd, ↓ev_bOr, ↓ev_eIf, ↓ev_eAnd, ↓ev_eOr, ↓ev_eChain, ↓ev_sRet, ↓ev_sDrop, ↓ev_sSet, ↓ev_sIf, ↓ev_sNew, ↓ev_nLc, ↓ev_nLc2, ↓ev_fCall0, ↓ev_fCall1, ↓ev_fCallS, ↓ev_oIx, ↓ev_oCall, ↓ev_oTuple, ↓ev_oAppend, ↓ev_oExtend, ↓ev_oPop, ↓ev_sOwn, ↓ev_oEq, ↓ev_eCall, ↓ev_nList, ↓ev_nRange, ↓ev_eIsi, ↓ev_oSome, ↓ev_eSl, ↓ev_scIx, ↓ev_sParDD, ↓ev_sParDN, ↓ev_sParNN, ↓ev_iZip2, ↓ev_fCallZ, ↓ev_iZip3, ↓ev_iZip4, ↓ev_iEnm, ↓ev_nAdd, ↓ev_eMinD, ↓ev_nSS, ↓ev_nCall, ev_fDef, ev_fDefN, ev_seq, ev_sFor, seq_nx, seq_ct, seq_bk, seq_rt, for_q, ret_rt, ret_nx, sIf, sRet, sRetN, sDrop, sSet, sNew, sNext, sBreak, sCont, sNone, sOwn, sParDD, sParDN, sParNN, putN, bVal, bNot, bAnd, bOr, bYes, eOp, eUn, eC, eVar, eIf, eAnd, eOr, eChain, eTup, eOfN, eCall, eSl, eMinD, nAdd, nSS, eIsi, aNil, aCons, aStar, nLst, nList, nRange, nCall, nLc, nLc2, fCall0, fCall1, fCallS, fCallZ, oIx, oCall, oTuple, oAppend, oExtend, oPop, oEq, ownAt, scLen, scIx, iSeq, iRg1, iRg2, iZip2, iZip3, iZip4, iEnm, putT, putTs, wipeS, noO_d, noO_s, noO_o, noO_n, oNo, oSome, dSl, dAdd_int, dAdd_tup, dAdd_lst, dSub_int, dMul_int, dMul_tup, dMod_int, dDiv_int, dPow_int, dShl_int, dBor_int, dLt_int, dLe_int, dGt_int, dGe_int, dEq_int, dNe_int, dNot_bool, dNeg_int, dBits_int, dIx_lst, dIx_tup, gLen_lst, gLen_tup, gTuple_lst, gTuple_tup, gMax_two, gMin_two, gInt_int, gInt_bool, seqOf_lst, seqOf_tup, dIs_none, dIs_bool, dIsNot_none, dIsNot_bool, same1_int, scV_int, scV_bool, isA_int, isA_tup, isA_str, isA_lst, atI_0, atI_1, atI_2, LIM, ev_guard, ev_some, ev_none, ev_bind, ev_map, turn_nx, turn_ct, turn_bk, turn_rt, ↓ev_eStpU, eStpU, ↓ev_wDc, ↓ev_nKeys, ↓ev_eMinX, wDc, nKeys, eMinX, ↓ev_iZ3, ↓ev_fCallN, iZ3, fCallN, ↓ev_xD, ↓ev_xN, ↓ev_sParX, xNil, xD, xN, sParX, putXs, ↓ev_nST, nST, ↓ev_dIxO, ↓ev_dInO, ↓ev_sDct, ↓ev_wLst, ↓ev_sNewW, ↓ev_sParDW, ↓ev_sParWD, dIxO, dInO, sDct, wDct, wLst, sNewW, sParDW, sParWD, putW, dctAt, ok_is_integer, h, h2]
theorem top1_pos (s : List Nat) : 0 < top1 s := by unfold top1; omega
def IsaI (a : Att) (i : Nat) (ρ : Slots) (so : Sto) : Prop :=
  ∃ y4 : Option Sl, ρ = [some (.d (eA a)), some (.d (.int a.1)), some (.d (eSt a.2)), some (.d (.int (gcount a i))), y4] ∧ so = []
theorem ok_is_attribute {a : Att} (ok : AttOk a) : F_is_attribute [.d (eA a)] [] = some (.bool true, []) := by
  have a1 := ok.1
  have a6 := ok.2.1
  have a3 := ok.2.2.1
  have e1 := ok_number_from (i := (a.1 : Nat)) (lo := 1) (hi := 6) (by omega) (by omega)
  have b3 : ¬ (3 : Int) < (a.2.length : Int) := by omega
  refine of_ev ?_
  simp [F_is_attribute, ↓ev_start, ↓ev_bind, ↓ev_map, ↓ev_eOp, ↓ev_eUn, ↓ev_aCons, ↓ev_aStar, ↓ev_eTup, ↓ev_nLst, ↓ev_eOfN, ↓ev_iSeq, ↓ev_iRg1, ↓ev_iRg2, ↓ev_bVal, ↓ev_bNot, ↓ev_bAnd, ↓ev_bOr, ↓ev_eIf, ↓ev_eAnd, ↓ev_eOr, ↓ev_eChain, ↓ev_sRet, ↓ev_sDrop, ↓ev_sSet, ↓ev_sIf, ↓ev_sNew, ↓ev_nLc, ↓ev_nLc2, ↓ev_fCall0, ↓ev_fCall1, ↓ev_fCallS, ↓ev_oIx, ↓ev_oCall, ↓ev_oTuple, ↓ev_oAppend, ↓ev_oExtend, ↓ev_oPop, ↓ev_sOwn, ↓ev_oEq, ↓ev_eCall, ↓ev_nList, ↓ev_nRange, ↓ev_eIsi, ↓ev_oSome, ↓ev_eSl, ↓ev_scIx, ↓ev_sParDD, ↓ev_sParDN, ↓ev_sParNN, ↓ev_iZip2, ↓ev_fCallZ, ↓ev_iZip3, ↓ev_iZip4, ↓ev_iEnm, ↓ev_nAdd, ↓ev_eMinD, ↓ev_nSS, ↓ev_nCall, ev_fDef, ev_fDefN, ev_seq, ev_sFor, seq_nx, seq_ct, seq_bk, seq_rt, for_q, ret_rt, ret_nx, sIf, sRet, sRetN, sDrop, sSet, sNew, sNext, sBreak, sCont, sNone, sOwn, sParDD, sParDN, sParNN, putN, bVal, bNot, bAnd, bOr, bYes, eOp, eUn, eC, eVar, eIf, eAnd, eOr, eChain, eTup, eOfN, eCall, eSl, eMinD, nAdd, nSS, eIsi, aNil, aCons, aStar, nLst, nList, nRange, nCall, nLc, nLc2, fCall0, fCall1, fCallS, fCallZ, oIx, oCall, oTuple, oAppend, oExtend, oPop, oEq, ownAt, scLen, scIx, iSeq, iRg1, iRg2, iZip2, iZip3, iZip4, iEnm, putT, putTs, wipeS, noO_d, noO_s, noO_o, noO_n, oNo, oSome, dSl, dAdd_int, dAdd_tup, dAdd_lst, dSub_int, dMul_int, dMul_tup, dMod_int, dDiv_int, dPow_int, dShl_int, dBor_int, dLt_int, dLe_int, dGt_int, dGe_int, dEq_int, dNe_int, dNot_bool, dNeg_int, dBits_int, dIx_lst, dIx_tup, gLen_lst, gLen_tup, gTuple_lst, gTuple_tup, gMax_two, gMin_two, gInt_int, gInt_bool, seqOf_lst, seqOf_tup, dIs_none, dIs_bool, dIsNot_none, dIsNot_bool, same1_int, scV_int, scV_bool, isA_int, isA_tup, isA_str, isA_lst, atI_0, atI_1, atI_2, LIM, ev_guard, ev_some, ev_none, ev_bind, ev_map, turn_nx, turn_ct, turn_bk, turn_rt, ↓ev_eStpU, eStpU, ↓ev_wDc, ↓ev_nKeys, ↓ev_eMinX, wDc, nKeys, eMinX, ↓ev_iZ3, ↓ev_fCallN, iZ3, fCallN, ↓ev_xD, ↓ev_xN, ↓ev_sParX, xNil, xD, xN, sParX, putXs, ↓ev_nST, nST, ↓ev_dIxO, ↓ev_dInO, ↓ev_sDct, ↓ev_wLst, ↓ev_sNewW, ↓ev_sParDW, ↓ev_sParWD, dIxO, dInO, sDct, wDct, wLst, sNewW, sParDW, sParWD, putW, dctAt, eA, eSt, eN, isTuple_tuple, e1, b3]
  refine ev_for (IsaI a) ⟨none, rfl, rfl⟩ ?_ ?_
  · rintro i d ρ so hd ⟨y4, rfl, rfl⟩
    obtain ⟨st, hst, rfl⟩ := get_map hd
    have hi : i < a.2.length := (List.getElem?_eq_some_iff.mp hst).1
    obtain ⟨hok, hget⟩ := step_ok ok hi
    rw [hst] at hget
    have est : st = a.2.getD i [] := Option.some.inj hget
    have g6 := (gcount_pos ok (Nat.le_of_lt hi)).2
    rw [← est] at hok
    have e2 := ok_groups_of_step hok g6
    have hne : ¬ (top1 st = 0) := by have := top1_pos st; omega
    have eg : gcount a (i + 1) = top1 st := by rw [est]; rfl
    simp [B_is_attribute_1, ↓ev_start, ↓ev_bind, ↓ev_map, ↓ev_eOp, ↓ev_eUn, ↓ev_aCons, ↓ev_aStar, ↓ev_eTup, ↓ev_nLst, ↓ev_eOfN, ↓ev_iSeq, ↓ev_iRg1, ↓ev_iRg2, ↓ev_bVal, ↓ev_bNot, ↓ev_bAnd, ↓ev_bOr, ↓ev_eIf, ↓ev_eAnd, ↓ev_eOr, ↓ev_eChain, ↓ev_sRet, ↓ev_sDrop, ↓ev_sSet, ↓ev_sIf, ↓ev_sNew, ↓ev_nLc, ↓ev_nLc2, ↓ev_fCall0, ↓ev_fCall1, ↓ev_fCallS, ↓ev_oIx, ↓ev_oCall, ↓ev_oTuple, ↓ev_oAppend, ↓ev_oExtend, ↓ev_oPop, ↓ev_sOwn, ↓ev_oEq, ↓ev_eCall, ↓ev_nList, ↓ev_nRange, ↓ev_eIsi, ↓ev_oSome, ↓ev_eSl, ↓ev_scIx, ↓ev_sParDD, ↓ev_sParDN, ↓ev_sParNN, ↓ev_iZip2, ↓ev_fCallZ, ↓ev_iZip3, ↓ev_iZip4, ↓ev_iEnm, ↓ev_nAdd, ↓ev_eMinD, ↓ev_nSS, ↓ev_nCall, ev_fDef, ev_fDefN, ev_seq, ev_sFor, seq_nx, seq_ct, seq_bk, seq_rt, for_q, ret_rt, ret_nx, sIf, sRet, sRetN, sDrop, sSet, sNew, sNext, sBreak, sCont, sNone, sOwn, sParDD, sParDN, sParNN, putN, bVal, bNot, bAnd, bOr, bYes, eOp, eUn, eC, eVar, eIf, eAnd, eOr, eChain, eTup, eOfN, eCall, eSl, eMinD, nAdd, nSS, eIsi, aNil, aCons, aStar, nLst, nList, nRange, nCall, nLc, nLc2, fCall0, fCall1, fCallS, fCallZ, oIx, oCall, oTuple, oAppend, oExtend, oPop, oEq, ownAt, scLen, scIx, iSeq, iRg1, iRg2, iZip2, iZip3, iZip4, iEnm, putT, putTs, wipeS, noO_d, noO_s, noO_o, noO_n, oNo, oSome, dSl, dAdd_int, dAdd_tup, dAdd_lst, dSub_int, dMul_int, dMul_tup, dMod_int, dDiv_int, dPow_int, dShl_int, dBor_int, dLt_int, dLe_int, dGt_int, dGe_int, dEq_int, dNe_int, dNot_bool, dNeg_int, dBits_int, dIx_lst, dIx_tup, gLen_lst, gLen_tup, gTuple_lst, gTuple_tup, gMax_two, gMin_two, gInt_int, gInt_bool, seqOf_lst, seqOf_tup, dIs_none, dIs_bool, dIsNot_none, dIsNot_bool, same1_int, scV_int, scV_bool, isA_int, isA_tup, isA_str, isA_lst, atI_0, atI_1, atI_2, LIM, ev_guard, ev_some, ev_none, ev_bind, ev_map, turn_nx, turn_ct, turn_bk, turn_rt, ↓ev_eStpU, eStpU, ↓ev_wDc, ↓ev_nKeys, ↓ev_eMinX, wDc, nKeys, eMinX, ↓ev_iZ3, ↓ev_fCallN, iZ3, fCallN, ↓ev_xD, ↓ev_xN, ↓ev_sParX, xNil, xD, xN, sParX, putXs, ↓ev_nST, nST, ↓ev_dIxO, ↓ev_dInO, ↓ev_sDct, ↓ev_wLst, ↓ev_sNewW, ↓ev_sParDW, ↓ev_sParWD, dIxO, dInO, sDct, wDct, wLst, sNewW, sParDW, sParWD, putW, dctAt, e2, hne]
    exact ⟨_, by rw [eg], rfl⟩
  · rintro ρ so ⟨y4, rfl, rfl⟩
    simp [↓ev_start, ↓ev_bind, ↓ev_map, ↓ev_eOp, ↓ev_eUn, ↓ev_aCons, ↓ev_aStar, ↓ev_eTup, ↓ev_nLst, ↓ev_eOfN, ↓ev_iSeq, ↓ev_iRg1, ↓ev_iRg2, ↓ev_bVal, ↓ev_bNot, ↓ev_bAnd, ↓ev_bOr, ↓ev_eIf, ↓ev_eAnd, ↓ev_eOr, ↓ev_eChain, ↓ev_sRet, ↓ev_sDrop, ↓ev_sSet, ↓ev_sIf, ↓ev_sNew, ↓ev_nLc, ↓ev_nLc2, ↓ev_fCall0, ↓ev_fCall1, ↓ev_fCallS, ↓ev_oIx, ↓ev_oCall, ↓ev_oTuple, ↓ev_oAppend, ↓ev_oExtend, ↓ev_oPop, ↓ev_sOwn, ↓ev_oEq, ↓ev_eCall, ↓ev_nList, ↓ev_nRange, ↓ev_eIsi, ↓ev_oSome, ↓ev_eSl, ↓ev_scIx, ↓ev_sParDD, ↓ev_sParDN, ↓ev_sParNN, ↓ev_iZip2, ↓ev_fCallZ, ↓ev_iZip3, ↓ev_iZip4, ↓ev_iEnm, ↓ev_nAdd, ↓ev_eMinD, ↓ev_nSS, ↓ev_nCall, ev_fDef, ev_fDefN, ev_seq, ev_sFor, seq_nx, seq_ct, seq_bk, seq_rt, for_q, ret_rt, ret_nx, sIf, sRet, sRetN, sDrop, sSet, sNew, sNext, sBreak, sCont, sNone, sOwn, sParDD, sParDN, sParNN, putN, bVal, bNot, bAnd, bOr, bYes, eOp, eUn, eC, eVar, eIf, eAnd, eOr, eChain, eTup, eOfN, eCall, eSl, eMinD, nAdd, nSS, eIsi, aNil, aCons, aStar, nLst, nList, nRange, nCall, nLc, nLc2, fCall0, fCall1, fCallS, fCallZ, oIx, oCall, oTuple, oAppend, oExtend, oPop, oEq, ownAt, scLen, scIx, iSeq, iRg1, iRg2, iZip2, iZip3, iZip4, iEnm, putT, putTs, wipeS, noO_d, noO_s, noO_o, noO_n, oNo, oSome, dSl, dAdd_int, dAdd_tup, dAdd_lst, dSub_int, dMul_int, dMul_tup, dMod_int, dDiv_int, dPow_int, dShl_int, dBor_int, dLt_int, dLe_int, dGt_int, dGe_int, dEq_int, dNe_int, dNot_bool, dNeg_int, dBits_int, dIx_lst, dIx_tup, gLen_lst, gLen_tup, gTuple_lst, gTuple_tup, gMax_two, gMin_two, gInt_int, gInt_bool, seqOf_lst, seqOf_tup, dIs_none, dIs_bool, dIsNot_none, dIsNot_bool, same1_int, scV_int, scV_bool, isA_int, isA_tup, isA_str, isA_lst, atI_0, atI_1, atI_2, LIM, ev_guard, ev_some, ev_none, ev_bind, ev_map, turn_nx, turn_ct, turn_bk, turn_rt, ↓ev_eStpU, eStpU, ↓ev_wDc, ↓ev_nKeys, ↓ev_eMinX, wDc, nKeys, eMinX, ↓ev_iZ3, ↓ev_fCallN, iZ3, fCallN, ↓ev_xD, ↓ev_xN, ↓ev_sParX, xNil, xD, xN, sParX, putXs, ↓ev_nST, nST, ↓ev_dIxO, ↓ev_dInO, ↓ev_sDct, ↓ev_wLst, ↓ev_sNewW, ↓ev_sParDW, ↓ev_sParWD, dIxO, dInO, sDct, wDct, wLst, sNewW, sParDW, sParWD, putW, dctAt]
def CocI (S : List Att) (i : Nat) (ρ : Slots) (so : Sto) : Prop :=
  ∃ y2 y3 : Option Sl, ρ = [some (.d (eS S)), some (.d (.int (prodN ((S.take i).map (·.1))))), y2, y3] ∧ so = []
theorem prod_le_of {S : List Att} (ok : SchOk S) (i : Nat) : prodN ((S.take i).map (·.1)) ≤ 60 := by
  have h := prod_take_le (ns := S.map (·.1)) (fun n hn => by
    obtain ⟨a, ha, rfl⟩ := List.mem_map.mp hn
    exact (ok.2.2.1 a ha).1) i
  rw [List.map_take]
  exact Nat.le_trans h ok.2.2.2
theorem ok_count_of_cells {S : List Att} (ok : SchOk S) : F_count_of_cells [.d (eS S)] [] = some (.int (prodN (S.map (·.1))), []) := by
  refine of_ev ?_
  simp [F_count_of_cells, ↓ev_start, ↓ev_bind, ↓ev_map, ↓ev_eOp, ↓ev_eUn, ↓ev_aCons, ↓ev_aStar, ↓ev_eTup, ↓ev_nLst, ↓ev_eOfN, ↓ev_iSeq, ↓ev_iRg1, ↓ev_iRg2, ↓ev_bVal, ↓ev_bNot, ↓ev_bAnd, ↓ev_bOr, ↓ev_eIf, ↓ev_eAnd, ↓ev_eOr, ↓ev_eChain, ↓ev_sRet, ↓ev_sDrop, ↓ev_sSet, ↓ev_sIf, ↓ev_sNew, ↓ev_nLc, ↓ev_nLc2, ↓ev_fCall0, ↓ev_fCall1, ↓ev_fCallS, ↓ev_oIx, ↓ev_oCall, ↓ev_oTuple, ↓ev_oAppend, ↓ev_oExtend, ↓ev_oPop, ↓ev_sOwn, ↓ev_oEq, ↓ev_eCall, ↓ev_nList, ↓ev_nRange, ↓ev_eIsi, ↓ev_oSome, ↓ev_eSl, ↓ev_scIx, ↓ev_sParDD, ↓ev_sParDN, ↓ev_sParNN, ↓ev_iZip2, ↓ev_fCallZ, ↓ev_iZip3, ↓ev_iZip4, ↓ev_iEnm, ↓ev_nAdd, ↓ev_eMinD, ↓ev_nSS, ↓ev_nCall, ev_fDef, ev_fDefN, ev_seq, ev_sFor, seq_nx, seq_ct, seq_bk, seq_rt, for_q, ret_rt, ret_nx, sIf, sRet, sRetN, sDrop, sSet, sNew, sNext, sBreak, sCont, sNone, sOwn, sParDD, sParDN, sParNN, putN, bVal, bNot, bAnd, bOr, bYes, eOp, eUn, eC, eVar, eIf, eAnd, eOr, eChain, eTup, eOfN, eCall, eSl, eMinD, nAdd, nSS, eIsi, aNil, aCons, aStar, nLst, nList, nRange, nCall, nLc, nLc2, fCall0, fCall1, fCallS, fCallZ, oIx, oCall, oTuple, oAppend, oExtend, oPop, oEq, ownAt, scLen, scIx, iSeq, iRg1, iRg2, iZip2, iZip3, iZip4, iEnm, putT, putTs, wipeS, noO_d, noO_s, noO_o, noO_n, oNo, oSome, dSl, dAdd_int, dAdd_tup, dAdd_lst, dSub_int, dMul_int, dMul_tup, dMod_int, dDiv_int, dPow_int, dShl_int, dBor_int, dLt_int, dLe_int, dGt_int, dGe_int, dEq_int, dNe_int, dNot_bool, dNeg_int, dBits_int, dIx_lst, dIx_tup, gLen_lst, gLen_tup, gTuple_lst, gTuple_tup, gMax_two, gMin_two, gInt_int, gInt_bool, seqOf_lst, seqOf_tup, dIs_none, dIs_bool, dIsNot_none, dIsNot_bool, same1_int, scV_int, scV_bool, isA_int, isA_tup, isA_str, isA_lst, atI_0, atI_1, atI_2, LIM, ev_guard, ev_some, ev_none, ev_bind, ev_map, turn_nx, turn_ct, turn_bk, turn_rt, ↓ev_eStpU, eStpU, ↓ev_wDc, ↓ev_nKeys, ↓ev_eMinX, wDc, nKeys, eMinX, ↓ev_iZ3, ↓ev_fCallN, iZ3, fCallN, ↓ev_xD, ↓ev_xN, ↓ev_sParX, xNil, xD, xN, sParX, putXs, ↓ev_nST, nST, ↓ev_dIxO, ↓ev_dInO, ↓ev_sDct, ↓ev_wLst, ↓ev_sNewW, ↓ev_sParDW, ↓ev_sParWD, dIxO, dInO, sDct, wDct, wLst, sNewW, sParDW, sParWD, putW, dctAt, eS]
  refine ev_for (CocI S) ⟨none, none, rfl, rfl⟩ ?_ ?_
  · rintro i d ρ so hd ⟨y2, y3, rfl, rfl⟩
    obtain ⟨a, ha, rfl⟩ := get_map hd
    have b := prod_le_of ok i
    have b2 : prodN ((S.take i).map (·.1)) < 18446744073709551616 := by omega
    simp [B_count_of_cells_1, ↓ev_start, ↓ev_bind, ↓ev_map, ↓ev_eOp, ↓ev_eUn, ↓ev_aCons, ↓ev_aStar, ↓ev_eTup, ↓ev_nLst, ↓ev_eOfN, ↓ev_iSeq, ↓ev_iRg1, ↓ev_iRg2, ↓ev_bVal, ↓ev_bNot, ↓ev_bAnd, ↓ev_bOr, ↓ev_eIf, ↓ev_eAnd, ↓ev_eOr, ↓ev_eChain, ↓ev_sRet, ↓ev_sDrop, ↓ev_sSet, ↓ev_sIf, ↓ev_sNew, ↓ev_nLc, ↓ev_nLc2, ↓ev_fCall0, ↓ev_fCall1, ↓ev_fCallS, ↓ev_oIx, ↓ev_oCall, ↓ev_oTuple, ↓ev_oAppend, ↓ev_oExtend, ↓ev_oPop, ↓ev_sOwn, ↓ev_oEq, ↓ev_eCall, ↓ev_nList, ↓ev_nRange, ↓ev_eIsi, ↓ev_oSome, ↓ev_eSl, ↓ev_scIx, ↓ev_sParDD, ↓ev_sParDN, ↓ev_sParNN, ↓ev_iZip2, ↓ev_fCallZ, ↓ev_iZip3, ↓ev_iZip4, ↓ev_iEnm, ↓ev_nAdd, ↓ev_eMinD, ↓ev_nSS, ↓ev_nCall, ev_fDef, ev_fDefN, ev_seq, ev_sFor, seq_nx, seq_ct, seq_bk, seq_rt, for_q, ret_rt, ret_nx, sIf, sRet, sRetN, sDrop, sSet, sNew, sNext, sBreak, sCont, sNone, sOwn, sParDD, sParDN, sParNN, putN, bVal, bNot, bAnd, bOr, bYes, eOp, eUn, eC, eVar, eIf, eAnd, eOr, eChain, eTup, eOfN, eCall, eSl, eMinD, nAdd, nSS, eIsi, aNil, aCons, aStar, nLst, nList, nRange, nCall, nLc, nLc2, fCall0, fCall1, fCallS, fCallZ, oIx, oCall, oTuple, oAppend, oExtend, oPop, oEq, ownAt, scLen, scIx, iSeq, iRg1, iRg2, iZip2, iZip3, iZip4, iEnm, putT, putTs, wipeS, noO_d, noO_s, noO_o, noO_n, oNo, oSome, dSl, dAdd_int, dAdd_tup, dAdd_lst, dSub_int, dMul_int, dMul_tup, dMod_int, dDiv_int, dPow_int, dShl_int, dBor_int, dLt_int, dLe_int, dGt_int, dGe_int, dEq_int, dNe_int, dNot_bool, dNeg_int, dBits_int, dIx_lst, dIx_tup, gLen_lst, gLen_tup, gTuple_lst, gTuple_tup, gMax_two, gMin_two, gInt_int, gInt_bool, seqOf_lst, seqOf_tup, dIs_none, dIs_bool, dIsNot_none, dIsNot_bool, same1_int, scV_int, scV_bool, isA_int, isA_tup, isA_str, isA_lst, atI_0, atI_1, atI_2, LIM, ev_guard, ev_some, ev_none, ev_bind, ev_map, turn_nx, turn_ct, turn_bk, turn_rt, ↓ev_eStpU, eStpU, ↓ev_wDc, ↓ev_nKeys, ↓ev_eMinX, wDc, nKeys, eMinX, ↓ev_iZ3, ↓ev_fCallN, iZ3, fCallN, ↓ev_xD, ↓ev_xN, ↓ev_sParX, xNil, xD, xN, sParX, putXs, ↓ev_nST, nST, ↓ev_dIxO, ↓ev_dInO, ↓ev_sDct, ↓ev_wLst, ↓ev_sNewW, ↓ev_sParDW, ↓ev_sParWD, dIxO, dInO, sDct, wDct, wLst, sNewW, sParDW, sParWD, putW, dctAt, eA, eN, ← List.map_take, b2]
    have e : prodN ((S.take (i + 1)).map (·.1)) = prodN ((S.take i).map (·.1)) * a.1 := by
      rw [pre_take S ha, List.map_append]
      exact prodN_snoc2
    refine ⟨some (.d (.int a.1)), some (.d (eSt a.2)), ?_, rfl⟩
    rw [e, Int.natCast_mul]
  · rintro ρ so ⟨y2, y3, rfl, rfl⟩
    simp [↓ev_start, ↓ev_bind, ↓ev_map, ↓ev_eOp, ↓ev_eUn, ↓ev_aCons, ↓ev_aStar, ↓ev_eTup, ↓ev_nLst, ↓ev_eOfN, ↓ev_iSeq, ↓ev_iRg1, ↓ev_iRg2, ↓ev_bVal, ↓ev_bNot, ↓ev_bAnd, ↓ev_bOr, ↓ev_eIf, ↓ev_eAnd, ↓ev_eOr, ↓ev_eChain, ↓ev_sRet, ↓ev_sDrop, ↓ev_sSet, ↓ev_sIf, ↓ev_sNew, ↓ev_nLc, ↓ev_nLc2, ↓ev_fCall0, ↓ev_fCall1, ↓ev_fCallS, ↓ev_oIx, ↓ev_oCall, ↓ev_oTuple, ↓ev_oAppend, ↓ev_oExtend, ↓ev_oPop, ↓ev_sOwn, ↓ev_oEq, ↓ev_eCall, ↓ev_nList, ↓ev_nRange, ↓ev_eIsi, ↓ev_oSome, ↓ev_eSl, ↓ev_scIx, ↓ev_sParDD, ↓ev_sParDN, ↓ev_sParNN, ↓ev_iZip2, ↓ev_fCallZ, ↓ev_iZip3, ↓ev_iZip4, ↓ev_iEnm, ↓ev_nAdd, ↓ev_eMinD, ↓ev_nSS, ↓ev_nCall, ev_fDef, ev_fDefN, ev_seq, ev_sFor, seq_nx, seq_ct, seq_bk, seq_rt, for_q, ret_rt, ret_nx, sIf, sRet, sRetN, sDrop, sSet, sNew, sNext, sBreak, sCont, sNone, sOwn, sParDD, sParDN, sParNN, putN, bVal, bNot, bAnd, bOr, bYes, eOp, eUn, eC, eVar, eIf, eAnd, eOr, eChain, eTup, eOfN, eCall, eSl, eMinD, nAdd, nSS, eIsi, aNil, aCons, aStar, nLst, nList, nRange, nCall, nLc, nLc2, fCall0, fCall1, fCallS, fCallZ, oIx, oCall, oTuple, oAppend, oExtend, oPop, oEq, ownAt, scLen, scIx, iSeq, iRg1, iRg2, iZip2, iZip3, iZip4, iEnm, putT, putTs, wipeS, noO_d, noO_s, noO_o, noO_n, oNo, oSome, dSl, dAdd_int, dAdd_tup, dAdd_lst, dSub_int, dMul_int, dMul_tup, dMod_int, dDiv_int, dPow_int, dShl_int, dBor_int, dLt_int, dLe_int, dGt_int, dGe_int, dEq_int, dNe_int, dNot_bool, dNeg_int, dBits_int, dIx_lst, dIx_tup, gLen_lst, gLen_tup, gTuple_lst, gTuple_tup, gMax_two, gMin_two, gInt_int, gInt_bool, seqOf_lst, seqOf_tup, dIs_none, dIs_bool, dIsNot_none, dIsNot_bool, same1_int, scV_int, scV_bool, isA_int, isA_tup, isA_str, isA_lst, atI_0, atI_1, atI_2, LIM, ev_guard, ev_some, ev_none, ev_bind, ev_map, turn_nx, turn_ct, turn_bk, turn_rt, ↓ev_eStpU, eStpU, ↓ev_wDc, ↓ev_nKeys, ↓ev_eMinX, wDc, nKeys, eMinX, ↓ev_iZ3, ↓ev_fCallN, iZ3, fCallN, ↓ev_xD, ↓ev_xN, ↓ev_sParX, xNil, xD, xN, sParX, putXs, ↓ev_nST, nST, ↓ev_dIxO, ↓ev_dInO, ↓ev_sDct, ↓ev_wLst, ↓ev_sNewW, ↓ev_sParDW, ↓ev_sParWD, dIxO, dInO, sDct, wDct, wLst, sNewW, sParDW, sParWD, putW, dctAt]
theorem ok_is_scheme {S : List Att} (ok : SchOk S) : F_is_scheme [.d (eS S)] [] = some (.bool true, []) := by
  have b1 : (1 : Int) ≤ (S.length : Int) := by have := ok.1; omega
  have b3 : (S.length : Int) ≤ 3 := by have := ok.2.1; omega
  have b60 : ((prodN (S.map (·.1)) : Nat) : Int) ≤ 60 := by have := ok.2.2.2; omega
  have ec := ok_count_of_cells ok
  refine of_ev ?_
  simp [F_is_scheme, ↓ev_start, ↓ev_bind, ↓ev_map, ↓ev_eOp, ↓ev_eUn, ↓ev_aCons, ↓ev_aStar, ↓ev_eTup, ↓ev_nLst, ↓ev_eOfN, ↓ev_iSeq, ↓ev_iRg1, ↓ev_iRg2, ↓ev_bVal, ↓ev_bNot, ↓ev_bAnd, ↓ev_bOr, ↓ev_eIf, ↓ev_eAnd, ↓ev_eOr, ↓ev_eChain, ↓ev_sRet, ↓ev_sDrop, ↓ev_sSet, ↓ev_sIf, ↓ev_sNew, ↓ev_nLc, ↓ev_nLc2, ↓ev_fCall0, ↓ev_fCall1, ↓ev_fCallS, ↓ev_oIx, ↓ev_oCall, ↓ev_oTuple, ↓ev_oAppend, ↓ev_oExtend, ↓ev_oPop, ↓ev_sOwn, ↓ev_oEq, ↓ev_eCall, ↓ev_nList, ↓ev_nRange, ↓ev_eIsi, ↓ev_oSome, ↓ev_eSl, ↓ev_scIx, ↓ev_sParDD, ↓ev_sParDN, ↓ev_sParNN, ↓ev_iZip2, ↓ev_fCallZ, ↓ev_iZip3, ↓ev_iZip4, ↓ev_iEnm, ↓ev_nAdd, ↓ev_eMinD, ↓ev_nSS, ↓ev_nCall, ev_fDef, ev_fDefN, ev_seq, ev_sFor, seq_nx, seq_ct, seq_bk, seq_rt, for_q, ret_rt, ret_nx, sIf, sRet, sRetN, sDrop, sSet, sNew, sNext, sBreak, sCont, sNone, sOwn, sParDD, sParDN, sParNN, putN, bVal, bNot, bAnd, bOr, bYes, eOp, eUn, eC, eVar, eIf, eAnd, eOr, eChain, eTup, eOfN, eCall, eSl, eMinD, nAdd, nSS, eIsi, aNil, aCons, aStar, nLst, nList, nRange, nCall, nLc, nLc2, fCall0, fCall1, fCallS, fCallZ, oIx, oCall, oTuple, oAppend, oExtend, oPop, oEq, ownAt, scLen, scIx, iSeq, iRg1, iRg2, iZip2, iZip3, iZip4, iEnm, putT, putTs, wipeS, noO_d, noO_s, noO_o, noO_n, oNo, oSome, dSl, dAdd_int, dAdd_tup, dAdd_lst, dSub_int, dMul_int, dMul_tup, dMod_int, dDiv_int, dPow_int, dShl_int, dBor_int, dLt_int, dLe_int, dGt_int, dGe_int, dEq_int, dNe_int, dNot_bool, dNeg_int, dBits_int, dIx_lst, dIx_tup, gLen_lst, gLen_tup, gTuple_lst, gTuple_tup, gMax_two, gMin_two, gInt_int, gInt_bool, seqOf_lst, seqOf_tup, dIs_none, dIs_bool, dIsNot_none, dIsNot_bool, same1_int, scV_int, scV_bool, isA_int, isA_tup, isA_str, isA_lst, atI_0, atI_1, atI_2, LIM, ev_guard, ev_some, ev_none, ev_bind, ev_map, turn_nx, turn_ct, turn_bk, turn_rt, ↓ev_eStpU, eStpU, ↓ev_wDc, ↓ev_nKeys, ↓ev_eMinX, wDc, nKeys, eMinX, ↓ev_iZ3, ↓ev_fCallN, iZ3, fCallN, ↓ev_xD, ↓ev_xN, ↓ev_sParX, xNil, xD, xN, sParX, putXs, ↓ev_nST, nST, ↓ev_dIxO, ↓ev_dInO, ↓ev_sDct, ↓ev_wLst, ↓ev_sNewW, ↓ev_sParDW, ↓ev_sParWD, dIxO, dInO, sDct, wDct, wLst, sNewW, sParDW, sParWD, putW, dctAt, eS, isTuple_tuple, b1, b3]
  refine ev_for (fun _ ρ so => (∃ y1 : Option Sl, ρ = [some (.d (eS S)), y1]) ∧ so = []) ⟨⟨none, rfl⟩, rfl⟩ ?_ ?_
  · rintro i d ρ so hd ⟨⟨y1, rfl⟩, rfl⟩
    obtain ⟨a, ha, rfl⟩ := get_map hd
    have ea := ok_is_attribute (ok.2.2.1 a (List.mem_of_getElem? ha))
    simp [B_is_scheme_1, ↓ev_start, ↓ev_bind, ↓ev_map, ↓ev_eOp, ↓ev_eUn, ↓ev_aCons, ↓ev_aStar, ↓ev_eTup, ↓ev_nLst, ↓ev_eOfN, ↓ev_iSeq, ↓ev_iRg1, ↓ev_iRg2, ↓ev_bVal, ↓ev_bNot, ↓ev_bAnd, ↓ev_bOr, ↓ev_eIf, ↓ev_eAnd, ↓ev_eOr, ↓ev_eChain, ↓ev_sRet, ↓ev_sDrop, ↓ev_sSet, ↓ev_sIf, ↓ev_sNew, ↓ev_nLc, ↓ev_nLc2, ↓ev_fCall0, ↓ev_fCall1, ↓ev_fCallS, ↓ev_oIx, ↓ev_oCall, ↓ev_oTuple, ↓ev_oAppend, ↓ev_oExtend, ↓ev_oPop, ↓ev_sOwn, ↓ev_oEq, ↓ev_eCall, ↓ev_nList, ↓ev_nRange, ↓ev_eIsi, ↓ev_oSome, ↓ev_eSl, ↓ev_scIx, ↓ev_sParDD, ↓ev_sParDN, ↓ev_sParNN, ↓ev_iZip2, ↓ev_fCallZ, ↓ev_iZip3, ↓ev_iZip4, ↓ev_iEnm, ↓ev_nAdd, ↓ev_eMinD, ↓ev_nSS, ↓ev_nCall, ev_fDef, ev_fDefN, ev_seq, ev_sFor, seq_nx, seq_ct, seq_bk, seq_rt, for_q, ret_rt, ret_nx, sIf, sRet, sRetN, sDrop, sSet, sNew, sNext, sBreak, sCont, sNone, sOwn, sParDD, sParDN, sParNN, putN, bVal, bNot, bAnd, bOr, bYes, eOp, eUn, eC, eVar, eIf, eAnd, eOr, eChain, eTup, eOfN, eCall, eSl, eMinD, nAdd, nSS, eIsi, aNil, aCons, aStar, nLst, nList, nRange, nCall, nLc, nLc2, fCall0, fCall1, fCallS, fCallZ, oIx, oCall, oTuple, oAppend, oExtend, oPop, oEq, ownAt, scLen, scIx, iSeq, iRg1, iRg2, iZip2, iZip3, iZip4, iEnm, putT, putTs, wipeS, noO_d, noO_s, noO_o, noO_n, oNo, oSome, dSl, dAdd_int, dAdd_tup, dAdd_lst, dSub_int, dMul_int, dMul_tup, dMod_int, dDiv_int, dPow_int, dShl_int, dBor_int, dLt_int, dLe_int, dGt_int, dGe_int, dEq_int, dNe_int, dNot_bool, dNeg_int, dBits_int, dIx_lst, dIx_tup, gLen_lst, gLen_tup, gTuple_lst, gTuple_tup, gMax_two, gMin_two, gInt_int, gInt_bool, seqOf_lst, seqOf_tup, dIs_none, dIs_bool, dIsNot_none, dIsNot_bool, same1_int, scV_int, scV_bool, isA_int, isA_tup, isA_str, isA_lst, atI_0, atI_1, atI_2, LIM, ev_guard, ev_some, ev_none, ev_bind, ev_map, turn_nx, turn_ct, turn_bk, turn_rt, ↓ev_eStpU, eStpU, ↓ev_wDc, ↓ev_nKeys, ↓ev_eMinX, wDc, nKeys, eMinX, ↓ev_iZ3, ↓ev_fCallN, iZ3, fCallN, ↓ev_xD, ↓ev_xN, ↓ev_sParX, xNil, xD, xN, sParX, putXs, ↓ev_nST, nST, ↓ev_dIxO, ↓ev_dInO, ↓ev_sDct, ↓ev_wLst, ↓ev_sNewW, ↓ev_sParDW, ↓ev_sParWD, dIxO, dInO, sDct, wDct, wLst, sNewW, sParDW, sParWD, putW, dctAt, ea]
  · rintro ρ so ⟨⟨y1, rfl⟩, rfl⟩
    simp [↓ev_start, ↓ev_bind, ↓ev_map, ↓ev_eOp, ↓ev_eUn, ↓ev_aCons, ↓ev_aStar, ↓ev_eTup, ↓ev_nLst, ↓ev_eOfN, ↓ev_iSeq, ↓ev_iRg1, ↓ev_iRg2, ↓ev_bVal, ↓ev_bNot, ↓ev_bAnd, ↓ev_bOr, ↓ev_eIf, ↓ev_eAnd, ↓ev_eOr, ↓ev_eChain, ↓ev_sRet, ↓ev_sDrop, ↓ev_sSet, ↓ev_sIf, ↓ev_sNew, ↓ev_nLc, ↓ev_nLc2, ↓ev_fCall0, ↓ev_fCall1, ↓ev_fCallS, ↓ev_oIx, ↓ev_oCall, ↓ev_oTuple, ↓ev_oAppend, ↓ev_oExtend, ↓ev_oPop, ↓ev_sOwn, ↓ev_oEq, ↓ev_eCall, ↓ev_nList, ↓ev_nRange, ↓ev_eIsi, ↓ev_oSome, ↓ev_eSl, ↓ev_scIx, ↓ev_sParDD, ↓ev_sParDN, ↓ev_sParNN, ↓ev_iZip2, ↓ev_fCallZ, ↓ev_iZip3, ↓ev_iZip4, ↓ev_iEnm, ↓ev_nAdd, ↓ev_eMinD, ↓ev_nSS, ↓ev_nCall, ev_fDef, ev_fDefN, ev_seq, ev_sFor, seq_nx, seq_ct, seq_bk, seq_rt, for_q, ret_rt, ret_nx, sIf, sRet, sRetN, sDrop, sSet, sNew, sNext, sBreak, sCont, sNone, sOwn, sParDD, sParDN, sParNN, putN, bVal, bNot, bAnd, bOr, bYes, eOp, eUn, eC, eVar, eIf, eAnd, eOr, eChain, eTup, eOfN, eCall, eSl, eMinD, nAdd, nSS, eIsi, aNil, aCons, aStar, nLst, nList, nRange, nCall, nLc, nLc2, fCall0, fCall1, fCallS, fCallZ, oIx, oCall, oTuple, oAppend, oExtend, oPop, oEq, ownAt, scLen, scIx, iSeq, iRg1, iRg2, iZip2, iZip3, iZip4, iEnm, putT, putTs, wipeS, noO_d, noO_s, noO_o, noO_n, oNo, oSome, dSl, dAdd_int, dAdd_tup, dAdd_lst, dSub_int, dMul_int, dMul_tup, dMod_int, dDiv_int, dPow_int, dShl_int, dBor_int, dLt_int, dLe_int, dGt_int, dGe_int, dEq_int, dNe_int, dNot_bool, dNeg_int, dBits_int, dIx_lst, dIx_tup, gLen_lst, gLen_tup, gTuple_lst, gTuple_tup, gMax_two, gMin_two, gInt_int, gInt_bool, seqOf_lst, seqOf_tup, dIs_none, dIs_bool, dIsNot_none, dIsNot_bool, same1_int, scV_int, scV_bool, isA_int, isA_tup, isA_str, isA_lst, atI_0, atI_1, atI_2, LIM, ev_guard, ev_some, ev_none, ev_bind, ev_map, turn_nx, turn_ct, turn_bk, turn_rt, ↓ev_eStpU, eStpU, ↓ev_wDc, ↓ev_nKeys, ↓ev_eMinX, wDc, nKeys, eMinX, ↓ev_iZ3, ↓ev_fCallN, iZ3, fCallN, ↓ev_xD, ↓ev_xN, ↓ev_sParX, xNil, xD, xN, sParX, putXs, ↓ev_nST, nST, ↓ev_dIxO, ↓ev_dInO, ↓ev_sDct, ↓ev_wLst, ↓ev_sNewW, ↓ev_sParDW, ↓ev_sParWD, dIxO, dInO, sDct, wDct, wLst, sNewW, sParDW, sParWD, putW, dctAt, ec, b60]
theorem roll_at {S : List Att} {r : List Nat} (h : RollOk S r) {i : Nat} {a : Att} {l : Nat} (ha : S[i]? = some a) (hl : r[i]? = some l) : l ≤ a.2.length := by have := h.2 i a l ha hl; omega
theorem ok_is_rollup {S : List Att} {r : List Nat} (h : RollOk S r) : F_is_rollup [.d (eS S), .d (eT r)] [] = some (.bool true, []) := by
  refine of_ev ?_
  simp [F_is_rollup, ↓ev_start, ↓ev_bind, ↓ev_map, ↓ev_eOp, ↓ev_eUn, ↓ev_aCons, ↓ev_aStar, ↓ev_eTup, ↓ev_nLst, ↓ev_eOfN, ↓ev_iSeq, ↓ev_iRg1, ↓ev_iRg2, ↓ev_bVal, ↓ev_bNot, ↓ev_bAnd, ↓ev_bOr, ↓ev_eIf, ↓ev_eAnd, ↓ev_eOr, ↓ev_eChain, ↓ev_sRet, ↓ev_sDrop, ↓ev_sSet, ↓ev_sIf, ↓ev_sNew, ↓ev_nLc, ↓ev_nLc2, ↓ev_fCall0, ↓ev_fCall1, ↓ev_fCallS, ↓ev_oIx, ↓ev_oCall, ↓ev_oTuple, ↓ev_oAppend, ↓ev_oExtend, ↓ev_oPop, ↓ev_sOwn, ↓ev_oEq, ↓ev_eCall, ↓ev_nList, ↓ev_nRange, ↓ev_eIsi, ↓ev_oSome, ↓ev_eSl, ↓ev_scIx, ↓ev_sParDD, ↓ev_sParDN, ↓ev_sParNN, ↓ev_iZip2, ↓ev_fCallZ, ↓ev_iZip3, ↓ev_iZip4, ↓ev_iEnm, ↓ev_nAdd, ↓ev_eMinD, ↓ev_nSS, ↓ev_nCall, ev_fDef, ev_fDefN, ev_seq, ev_sFor, seq_nx, seq_ct, seq_bk, seq_rt, for_q, ret_rt, ret_nx, sIf, sRet, sRetN, sDrop, sSet, sNew, sNext, sBreak, sCont, sNone, sOwn, sParDD, sParDN, sParNN, putN, bVal, bNot, bAnd, bOr, bYes, eOp, eUn, eC, eVar, eIf, eAnd, eOr, eChain, eTup, eOfN, eCall, eSl, eMinD, nAdd, nSS, eIsi, aNil, aCons, aStar, nLst, nList, nRange, nCall, nLc, nLc2, fCall0, fCall1, fCallS, fCallZ, oIx, oCall, oTuple, oAppend, oExtend, oPop, oEq, ownAt, scLen, scIx, iSeq, iRg1, iRg2, iZip2, iZip3, iZip4, iEnm, putT, putTs, wipeS, noO_d, noO_s, noO_o, noO_n, oNo, oSome, dSl, dAdd_int, dAdd_tup, dAdd_lst, dSub_int, dMul_int, dMul_tup, dMod_int, dDiv_int, dPow_int, dShl_int, dBor_int, dLt_int, dLe_int, dGt_int, dGe_int, dEq_int, dNe_int, dNot_bool, dNeg_int, dBits_int, dIx_lst, dIx_tup, gLen_lst, gLen_tup, gTuple_lst, gTuple_tup, gMax_two, gMin_two, gInt_int, gInt_bool, seqOf_lst, seqOf_tup, dIs_none, dIs_bool, dIsNot_none, dIsNot_bool, same1_int, scV_int, scV_bool, isA_int, isA_tup, isA_str, isA_lst, atI_0, atI_1, atI_2, LIM, ev_guard, ev_some, ev_none, ev_bind, ev_map, turn_nx, turn_ct, turn_bk, turn_rt, ↓ev_eStpU, eStpU, ↓ev_wDc, ↓ev_nKeys, ↓ev_eMinX, wDc, nKeys, eMinX, ↓ev_iZ3, ↓ev_fCallN, iZ3, fCallN, ↓ev_xD, ↓ev_xN, ↓ev_sParX, xNil, xD, xN, sParX, putXs, ↓ev_nST, nST, ↓ev_dIxO, ↓ev_dInO, ↓ev_sDct, ↓ev_wLst, ↓ev_sNewW, ↓ev_sParDW, ↓ev_sParWD, dIxO, dInO, sDct, wDct, wLst, sNewW, sParDW, sParWD, putW, dctAt, eS, eT, isTuple_tuple, h.1]
  refine ev_for (fun _ ρ so => (∃ y2 y3 y4 : Option Sl, ρ = [some (.d (eS S)), some (.d (eT r)), y2, y3, y4]) ∧ so = []) ⟨⟨none, none, none, rfl⟩, rfl⟩ ?_ ?_
  · rintro i d ρ so hd ⟨⟨y2, y3, y4, rfl⟩, rfl⟩
    obtain ⟨x, y, hx, hy, rfl⟩ := pairsD_get hd
    obtain ⟨l, hl, rfl⟩ := get_map hx
    obtain ⟨a, ha, rfl⟩ := get_map hy
    have b : (l : Int) ≤ (a.2.length : Int) := by have := roll_at h ha hl; omega
    simp [B_is_rollup_1, ↓ev_start, ↓ev_bind, ↓ev_map, ↓ev_eOp, ↓ev_eUn, ↓ev_aCons, ↓ev_aStar, ↓ev_eTup, ↓ev_nLst, ↓ev_eOfN, ↓ev_iSeq, ↓ev_iRg1, ↓ev_iRg2, ↓ev_bVal, ↓ev_bNot, ↓ev_bAnd, ↓ev_bOr, ↓ev_eIf, ↓ev_eAnd, ↓ev_eOr, ↓ev_eChain, ↓ev_sRet, ↓ev_sDrop, ↓ev_sSet, ↓ev_sIf, ↓ev_sNew, ↓ev_nLc, ↓ev_nLc2, ↓ev_fCall0, ↓ev_fCall1, ↓ev_fCallS, ↓ev_oIx, ↓ev_oCall, ↓ev_oTuple, ↓ev_oAppend, ↓ev_oExtend, ↓ev_oPop, ↓ev_sOwn, ↓ev_oEq, ↓ev_eCall, ↓ev_nList, ↓ev_nRange, ↓ev_eIsi, ↓ev_oSome, ↓ev_eSl, ↓ev_scIx, ↓ev_sParDD, ↓ev_sParDN, ↓ev_sParNN, ↓ev_iZip2, ↓ev_fCallZ, ↓ev_iZip3, ↓ev_iZip4, ↓ev_iEnm, ↓ev_nAdd, ↓ev_eMinD, ↓ev_nSS, ↓ev_nCall, ev_fDef, ev_fDefN, ev_seq, ev_sFor, seq_nx, seq_ct, seq_bk, seq_rt, for_q, ret_rt, ret_nx, sIf, sRet, sRetN, sDrop, sSet, sNew, sNext, sBreak, sCont, sNone, sOwn, sParDD, sParDN, sParNN, putN, bVal, bNot, bAnd, bOr, bYes, eOp, eUn, eC, eVar, eIf, eAnd, eOr, eChain, eTup, eOfN, eCall, eSl, eMinD, nAdd, nSS, eIsi, aNil, aCons, aStar, nLst, nList, nRange, nCall, nLc, nLc2, fCall0, fCall1, fCallS, fCallZ, oIx, oCall, oTuple, oAppend, oExtend, oPop, oEq, ownAt, scLen, scIx, iSeq, iRg1, iRg2, iZip2, iZip3, iZip4, iEnm, putT, putTs, wipeS, noO_d, noO_s, noO_o, noO_n, oNo, oSome, dSl, dAdd_int, dAdd_tup, dAdd_lst, dSub_int, dMul_int, dMul_tup, dMod_int, dDiv_int, dPow_int, dShl_int, dBor_int, dLt_int, dLe_int, dGt_int, dGe_int, dEq_int, dNe_int, dNot_bool, dNeg_int, dBits_int, dIx_lst, dIx_tup, gLen_lst, gLen_tup, gTuple_lst, gTuple_tup, gMax_two, gMin_two, gInt_int, gInt_bool, seqOf_lst, seqOf_tup, dIs_none, dIs_bool, dIsNot_none, dIsNot_bool, same1_int, scV_int, scV_bool, isA_int, isA_tup, isA_str, isA_lst, atI_0, atI_1, atI_2, LIM, ev_guard, ev_some, ev_none, ev_bind, ev_map, turn_nx, turn_ct, turn_bk, turn_rt, ↓ev_eStpU, eStpU, ↓ev_wDc, ↓ev_nKeys, ↓ev_eMinX, wDc, nKeys, eMinX, ↓ev_iZ3, ↓ev_fCallN, iZ3, fCallN, ↓ev_xD, ↓ev_xN, ↓ev_sParX, xNil, xD, xN, sParX, putXs, ↓ev_nST, nST, ↓ev_dIxO, ↓ev_dInO, ↓ev_sDct, ↓ev_wLst, ↓ev_sNewW, ↓ev_sParDW, ↓ev_sParWD, dIxO, dInO, sDct, wDct, wLst, sNewW, sParDW, sParWD, putW, dctAt, eA, eN, eSt, isInt_int, b]
  · rintro ρ so ⟨⟨y2, y3, y4, rfl⟩, rfl⟩
    simp [↓ev_start, ↓ev_bind, ↓ev_map, ↓ev_eOp, ↓ev_eUn, ↓ev_aCons, ↓ev_aStar, ↓ev_eTup, ↓ev_nLst, ↓ev_eOfN, ↓ev_iSeq, ↓ev_iRg1, ↓ev_iRg2, ↓ev_bVal, ↓ev_bNot, ↓ev_bAnd, ↓ev_bOr, ↓ev_eIf, ↓ev_eAnd, ↓ev_eOr, ↓ev_eChain, ↓ev_sRet, ↓ev_sDrop, ↓ev_sSet, ↓ev_sIf, ↓ev_sNew, ↓ev_nLc, ↓ev_nLc2, ↓ev_fCall0, ↓ev_fCall1, ↓ev_fCallS, ↓ev_oIx, ↓ev_oCall, ↓ev_oTuple, ↓ev_oAppend, ↓ev_oExtend, ↓ev_oPop, ↓ev_sOwn, ↓ev_oEq, ↓ev_eCall, ↓ev_nList, ↓ev_nRange, ↓ev_eIsi, ↓ev_oSome, ↓ev_eSl, ↓ev_scIx, ↓ev_sParDD, ↓ev_sParDN, ↓ev_sParNN, ↓ev_iZip2, ↓ev_fCallZ, ↓ev_iZip3, ↓ev_iZip4, ↓ev_iEnm, ↓ev_nAdd, ↓ev_eMinD, ↓ev_nSS, ↓ev_nCall, ev_fDef, ev_fDefN, ev_seq, ev_sFor, seq_nx, seq_ct, seq_bk, seq_rt, for_q, ret_rt, ret_nx, sIf, sRet, sRetN, sDrop, sSet, sNew, sNext, sBreak, sCont, sNone, sOwn, sParDD, sParDN, sParNN, putN, bVal, bNot, bAnd, bOr, bYes, eOp, eUn, eC, eVar, eIf, eAnd, eOr, eChain, eTup, eOfN, eCall, eSl, eMinD, nAdd, nSS, eIsi, aNil, aCons, aStar, nLst, nList, nRange, nCall, nLc, nLc2, fCall0, fCall1, fCallS, fCallZ, oIx, oCall, oTuple, oAppend, oExtend, oPop, oEq, ownAt, scLen, scIx, iSeq, iRg1, iRg2, iZip2, iZip3, iZip4, iEnm, putT, putTs, wipeS, noO_d, noO_s, noO_o, noO_n, oNo, oSome, dSl, dAdd_int, dAdd_tup, dAdd_lst, dSub_int, dMul_int, dMul_tup, dMod_int, dDiv_int, dPow_int, dShl_int, dBor_int, dLt_int, dLe_int, dGt_int, dGe_int, dEq_int, dNe_int, dNot_bool, dNeg_int, dBits_int, dIx_lst, dIx_tup, gLen_lst, gLen_tup, gTuple_lst, gTuple_tup, gMax_two, gMin_two, gInt_int, gInt_bool, seqOf_lst, seqOf_tup, dIs_none, dIs_bool, dIsNot_none, dIsNot_bool, same1_int, scV_int, scV_bool, isA_int, isA_tup, isA_str, isA_lst, atI_0, atI_1, atI_2, LIM, ev_guard, ev_some, ev_none, ev_bind, ev_map, turn_nx, turn_ct, turn_bk, turn_rt, ↓ev_eStpU, eStpU, ↓ev_wDc, ↓ev_nKeys, ↓ev_eMinX, wDc, nKeys, eMinX, ↓ev_iZ3, ↓ev_fCallN, iZ3, fCallN, ↓ev_xD, ↓ev_xN, ↓ev_sParX, xNil, xD, xN, sParX, putXs, ↓ev_nST, nST, ↓ev_dIxO, ↓ev_dInO, ↓ev_sDct, ↓ev_wLst, ↓ev_sNewW, ↓ev_sParDW, ↓ev_sParWD, dIxO, dInO, sDct, wDct, wLst, sNewW, sParDW, sParWD, putW, dctAt]
theorem ok_check_scheme {S : List Att} (ok : SchOk S) : F_check_scheme [.d (eS S)] [] = some (.none, []) := by
  refine of_ev ?_
  simp [F_check_scheme, ↓ev_start, ↓ev_bind, ↓ev_map, ↓ev_eOp, ↓ev_eUn, ↓ev_aCons, ↓ev_aStar, ↓ev_eTup, ↓ev_nLst, ↓ev_eOfN, ↓ev_iSeq, ↓ev_iRg1, ↓ev_iRg2, ↓ev_bVal, ↓ev_bNot, ↓ev_bAnd, ↓ev_bOr, ↓ev_eIf, ↓ev_eAnd, ↓ev_eOr, ↓ev_eChain, ↓ev_sRet, ↓ev_sDrop, ↓ev_sSet, ↓ev_sIf, ↓ev_sNew, ↓ev_nLc, ↓ev_nLc2, ↓ev_fCall0, ↓ev_fCall1, ↓ev_fCallS, ↓ev_oIx, ↓ev_oCall, ↓ev_oTuple, ↓ev_oAppend, ↓ev_oExtend, ↓ev_oPop, ↓ev_sOwn, ↓ev_oEq, ↓ev_eCall, ↓ev_nList, ↓ev_nRange, ↓ev_eIsi, ↓ev_oSome, ↓ev_eSl, ↓ev_scIx, ↓ev_sParDD, ↓ev_sParDN, ↓ev_sParNN, ↓ev_iZip2, ↓ev_fCallZ, ↓ev_iZip3, ↓ev_iZip4, ↓ev_iEnm, ↓ev_nAdd, ↓ev_eMinD, ↓ev_nSS, ↓ev_nCall, ev_fDef, ev_fDefN, ev_seq, ev_sFor, seq_nx, seq_ct, seq_bk, seq_rt, for_q, ret_rt, ret_nx, sIf, sRet, sRetN, sDrop, sSet, sNew, sNext, sBreak, sCont, sNone, sOwn, sParDD, sParDN, sParNN, putN, bVal, bNot, bAnd, bOr, bYes, eOp, eUn, eC, eVar, eIf, eAnd, eOr, eChain, eTup, eOfN, eCall, eSl, eMinD, nAdd, nSS, eIsi, aNil, aCons, aStar, nLst, nList, nRange, nCall, nLc, nLc2, fCall0, fCall1, fCallS, fCallZ, oIx, oCall, oTuple, oAppend, oExtend, oPop, oEq, ownAt, scLen, scIx, iSeq, iRg1, iRg2, iZip2, iZip3, iZip4, iEnm, putT, putTs, wipeS, noO_d, noO_s, noO_o, noO_n, oNo, oSome, dSl, dAdd_int, dAdd_tup, dAdd_lst, dSub_int, dMul_int, dMul_tup, dMod_int, dDiv_int, dPow_int, dShl_int, dBor_int, dLt_int, dLe_int, dGt_int, dGe_int, dEq_int, dNe_int, dNot_bool, dNeg_int, dBits_int, dIx_lst, dIx_tup, gLen_lst, gLen_tup, gTuple_lst, gTuple_tup, gMax_two, gMin_two, gInt_int, gInt_bool, seqOf_lst, seqOf_tup, dIs_none, dIs_bool, dIsNot_none, dIsNot_bool, same1_int, scV_int, scV_bool, isA_int, isA_tup, isA_str, isA_lst, atI_0, atI_1, atI_2, LIM, ev_guard, ev_some, ev_none, ev_bind, ev_map, turn_nx, turn_ct, turn_bk, turn_rt, ↓ev_eStpU, eStpU, ↓ev_wDc, ↓ev_nKeys, ↓ev_eMinX, wDc, nKeys, eMinX, ↓ev_iZ3, ↓ev_fCallN, iZ3, fCallN, ↓ev_xD, ↓ev_xN, ↓ev_sParX, xNil, xD, xN, sParX, putXs, ↓ev_nST, nST, ↓ev_dIxO, ↓ev_dInO, ↓ev_sDct, ↓ev_wLst, ↓ev_sNewW, ↓ev_sParDW, ↓ev_sParWD, dIxO, dInO, sDct, wDct, wLst, sNewW, sParDW, sParWD, putW, dctAt, ok_is_scheme ok]
/-- one is as fine as the other -/
def leB (r q : List Nat) : Bool := (r.zip q).all fun p => decide (p.1 ≤ p.2)
def enP (p : Nat × Nat) : PyData := .tuple [eN p.1, eN p.2]
theorem ev_lcMap {α : Type} {body : PyData → Sto → Option (List PyData × Sto)} {xs : List α} {so : Sto} {Q : List PyData × Sto → Prop} (enc f : α → PyData) (hs : ∀ x ∈ xs, body (enc x) so = some ([f x], so)) (q : Q (xs.map f, so)) : Ev (lcGo body (xs.map enc) so) Q :=
  ev_of (lc_mapE enc f hs) q
theorem ev_lcFlat {α : Type} {body : PyData → Sto → Option (List PyData × Sto)} {xs : List α} {so : Sto} {Q : List PyData × Sto → Prop} (enc : α → PyData) (f : α → List PyData) (hs : ∀ x ∈ xs, body (enc x) so = some (f x, so)) (q : Q (xs.flatMap f, so)) : Ev (lcGo body (xs.map enc) so) Q :=
  ev_of (lc_flatE enc f hs) q
def HlI (r q : List Nat) (i : Nat) (ρ : Slots) (so : Sto) : Prop := (∃ y2 y3 : Option Sl, ρ = [some (.d (eT r)), some (.d (eT q)), y2, y3]) ∧ so = [] ∧ ∀ p ∈ (r.zip q).take i, p.1 ≤ p.2
theorem ok_has_levels {r q : List Nat} (hl : r.length = q.length) : F_has_levels_up_to [.d (eT r), .d (eT q)] [] = some (.bool (leB r q), []) := by
  refine of_ev ?_
  simp [F_has_levels_up_to, ↓ev_start, ↓ev_bind, ↓ev_map, ↓ev_eOp, ↓ev_eUn, ↓ev_aCons, ↓ev_aStar, ↓ev_eTup, ↓ev_nLst, ↓ev_eOfN, ↓ev_iSeq, ↓ev_iRg1, ↓ev_iRg2, ↓ev_bVal, ↓ev_bNot, ↓ev_bAnd, ↓ev_bOr, ↓ev_eIf, ↓ev_eAnd, ↓ev_eOr, ↓ev_eChain, ↓ev_sRet, ↓ev_sDrop, ↓ev_sSet, ↓ev_sIf, ↓ev_sNew, ↓ev_nLc, ↓ev_nLc2, ↓ev_fCall0, ↓ev_fCall1, ↓ev_fCallS, ↓ev_oIx, ↓ev_oCall, ↓ev_oTuple, ↓ev_oAppend, ↓ev_oExtend, ↓ev_oPop, ↓ev_sOwn, ↓ev_oEq, ↓ev_eCall, ↓ev_nList, ↓ev_nRange, ↓ev_eIsi, ↓ev_oSome, ↓ev_eSl, ↓ev_scIx, ↓ev_sParDD, ↓ev_sParDN, ↓ev_sParNN, ↓ev_iZip2, ↓ev_fCallZ, ↓ev_iZip3, ↓ev_iZip4, ↓ev_iEnm, ↓ev_nAdd, ↓ev_eMinD, ↓ev_nSS, ↓ev_nCall, ev_fDef, ev_fDefN, ev_seq, ev_sFor, seq_nx, seq_ct, seq_bk, seq_rt, for_q, ret_rt, ret_nx, sIf, sRet, sRetN, sDrop, sSet, sNew, sNext, sBreak, sCont, sNone, sOwn, sParDD, sParDN, sParNN, putN, bVal, bNot, bAnd, bOr, bYes, eOp, eUn, eC, eVar, eIf, eAnd, eOr, eChain, eTup, eOfN, eCall, eSl, eMinD, nAdd, nSS, eIsi, aNil, aCons, aStar, nLst, nList, nRange, nCall, nLc, nLc2, fCall0, fCall1, fCallS, fCallZ, oIx, oCall, oTuple, oAppend, oExtend, oPop, oEq, ownAt, scLen, scIx, iSeq, iRg1, iRg2, iZip2, iZip3, iZip4, iEnm, putT, putTs, wipeS, noO_d, noO_s, noO_o, noO_n, oNo, oSome, dSl, dAdd_int, dAdd_tup, dAdd_lst, dSub_int, dMul_int, dMul_tup, dMod_int, dDiv_int, dPow_int, dShl_int, dBor_int, dLt_int, dLe_int, dGt_int, dGe_int, dEq_int, dNe_int, dNot_bool, dNeg_int, dBits_int, dIx_lst, dIx_tup, gLen_lst, gLen_tup, gTuple_lst, gTuple_tup, gMax_two, gMin_two, gInt_int, gInt_bool, seqOf_lst, seqOf_tup, dIs_none, dIs_bool, dIsNot_none, dIsNot_bool, same1_int, scV_int, scV_bool, isA_int, isA_tup, isA_str, isA_lst, atI_0, atI_1, atI_2, LIM, ev_guard, ev_some, ev_none, ev_bind, ev_map, turn_nx, turn_ct, turn_bk, turn_rt, ↓ev_eStpU, eStpU, ↓ev_wDc, ↓ev_nKeys, ↓ev_eMinX, wDc, nKeys, eMinX, ↓ev_iZ3, ↓ev_fCallN, iZ3, fCallN, ↓ev_xD, ↓ev_xN, ↓ev_sParX, xNil, xD, xN, sParX, putXs, ↓ev_nST, nST, ↓ev_dIxO, ↓ev_dInO, ↓ev_sDct, ↓ev_wLst, ↓ev_sNewW, ↓ev_sParDW, ↓ev_sParWD, dIxO, dInO, sDct, wDct, wLst, sNewW, sParDW, sParWD, putW, dctAt, eT, hl, pairs_mapE]
  refine ev_for (HlI r q) ⟨⟨none, none, rfl⟩, rfl, by simp⟩ ?_ ?_
  · rintro i d ρ so hd ⟨⟨y2, y3, rfl⟩, rfl, hall⟩
    obtain ⟨p, hp, rfl⟩ := get_map hd
    by_cases hle : p.1 ≤ p.2
    · have h2 : ¬ ((p.2 : Int) < (p.1 : Int)) := by omega
      simp [B_has_levels_up_to_1, ↓ev_start, ↓ev_bind, ↓ev_map, ↓ev_eOp, ↓ev_eUn, ↓ev_aCons, ↓ev_aStar, ↓ev_eTup, ↓ev_nLst, ↓ev_eOfN, ↓ev_iSeq, ↓ev_iRg1, ↓ev_iRg2, ↓ev_bVal, ↓ev_bNot, ↓ev_bAnd, ↓ev_bOr, ↓ev_eIf, ↓ev_eAnd, ↓ev_eOr, ↓ev_eChain, ↓ev_sRet, ↓ev_sDrop, ↓ev_sSet, ↓ev_sIf, ↓ev_sNew, ↓ev_nLc, ↓ev_nLc2, ↓ev_fCall0, ↓ev_fCall1, ↓ev_fCallS, ↓ev_oIx, ↓ev_oCall, ↓ev_oTuple, ↓ev_oAppend, ↓ev_oExtend, ↓ev_oPop, ↓ev_sOwn, ↓ev_oEq, ↓ev_eCall, ↓ev_nList, ↓ev_nRange, ↓ev_eIsi, ↓ev_oSome, ↓ev_eSl, ↓ev_scIx, ↓ev_sParDD, ↓ev_sParDN, ↓ev_sParNN, ↓ev_iZip2, ↓ev_fCallZ, ↓ev_iZip3, ↓ev_iZip4, ↓ev_iEnm, ↓ev_nAdd, ↓ev_eMinD, ↓ev_nSS, ↓ev_nCall, ev_fDef, ev_fDefN, ev_seq, ev_sFor, seq_nx, seq_ct, seq_bk, seq_rt, for_q, ret_rt, ret_nx, sIf, sRet, sRetN, sDrop, sSet, sNew, sNext, sBreak, sCont, sNone, sOwn, sParDD, sParDN, sParNN, putN, bVal, bNot, bAnd, bOr, bYes, eOp, eUn, eC, eVar, eIf, eAnd, eOr, eChain, eTup, eOfN, eCall, eSl, eMinD, nAdd, nSS, eIsi, aNil, aCons, aStar, nLst, nList, nRange, nCall, nLc, nLc2, fCall0, fCall1, fCallS, fCallZ, oIx, oCall, oTuple, oAppend, oExtend, oPop, oEq, ownAt, scLen, scIx, iSeq, iRg1, iRg2, iZip2, iZip3, iZip4, iEnm, putT, putTs, wipeS, noO_d, noO_s, noO_o, noO_n, oNo, oSome, dSl, dAdd_int, dAdd_tup, dAdd_lst, dSub_int, dMul_int, dMul_tup, dMod_int, dDiv_int, dPow_int, dShl_int, dBor_int, dLt_int, dLe_int, dGt_int, dGe_int, dEq_int, dNe_int, dNot_bool, dNeg_int, dBits_int, dIx_lst, dIx_tup, gLen_lst, gLen_tup, gTuple_lst, gTuple_tup, gMax_two, gMin_two, gInt_int, gInt_bool, seqOf_lst, seqOf_tup, dIs_none, dIs_bool, dIsNot_none, dIsNot_bool, same1_int, scV_int, scV_bool, isA_int, isA_tup, isA_str, isA_lst, atI_0, atI_1, atI_2, LIM, ev_guard, ev_some, ev_none, ev_bind, ev_map, turn_nx, turn_ct, turn_bk, turn_rt, ↓ev_eStpU, eStpU, ↓ev_wDc, ↓ev_nKeys, ↓ev_eMinX, wDc, nKeys, eMinX, ↓ev_iZ3, ↓ev_fCallN, iZ3, fCallN, ↓ev_xD, ↓ev_xN, ↓ev_sParX, xNil, xD, xN, sParX, putXs, ↓ev_nST, nST, ↓ev_dIxO, ↓ev_dInO, ↓ev_sDct, ↓ev_wLst, ↓ev_sNewW, ↓ev_sParDW, ↓ev_sParWD, dIxO, dInO, sDct, wDct, wLst, sNewW, sParDW, sParWD, putW, dctAt, eN, h2]
      refine ⟨⟨_, _, rfl⟩, rfl, ?_⟩
      rw [pre_take _ hp]
      intro z hz
      rcases List.mem_append.mp hz with h | h
      · exact hall z h
      · rw [List.mem_singleton.mp h]; exact hle
    · have h2 : ((p.2 : Int) < (p.1 : Int)) := by omega
      have e : leB r q = false := by
        rw [← Bool.not_eq_true]
        intro z
        exact hle (of_decide_eq_true (List.all_eq_true.mp z p (List.mem_of_getElem? hp)))
      simp [B_has_levels_up_to_1, ↓ev_start, ↓ev_bind, ↓ev_map, ↓ev_eOp, ↓ev_eUn, ↓ev_aCons, ↓ev_aStar, ↓ev_eTup, ↓ev_nLst, ↓ev_eOfN, ↓ev_iSeq, ↓ev_iRg1, ↓ev_iRg2, ↓ev_bVal, ↓ev_bNot, ↓ev_bAnd, ↓ev_bOr, ↓ev_eIf, ↓ev_eAnd, ↓ev_eOr, ↓ev_eChain, ↓ev_sRet, ↓ev_sDrop, ↓ev_sSet, ↓ev_sIf, ↓ev_sNew, ↓ev_nLc, ↓ev_nLc2, ↓ev_fCall0, ↓ev_fCall1, ↓ev_fCallS, ↓ev_oIx, ↓ev_oCall, ↓ev_oTuple, ↓ev_oAppend, ↓ev_oExtend, ↓ev_oPop, ↓ev_sOwn, ↓ev_oEq, ↓ev_eCall, ↓ev_nList, ↓ev_nRange, ↓ev_eIsi, ↓ev_oSome, ↓ev_eSl, ↓ev_scIx, ↓ev_sParDD, ↓ev_sParDN, ↓ev_sParNN, ↓ev_iZip2, ↓ev_fCallZ, ↓ev_iZip3, ↓ev_iZip4, ↓ev_iEnm, ↓ev_nAdd, ↓ev_eMinD, ↓ev_nSS, ↓ev_nCall, ev_fDef, ev_fDefN, ev_seq, ev_sFor, seq_nx, seq_ct, seq_bk, seq_rt, for_q, ret_rt, ret_nx, sIf, sRet, sRetN, sDrop, sSet, sNew, sNext, sBreak, sCont, sNone, sOwn, sParDD, sParDN, sParNN, putN, bVal, bNot, bAnd, bOr, bYes, eOp, eUn, eC, eVar, eIf, eAnd, eOr, eChain, eTup, eOfN, eCall, eSl, eMinD, nAdd, nSS, eIsi, aNil, aCons, aStar, nLst, nList, nRange, nCall, nLc, nLc2, fCall0, fCall1, fCallS, fCallZ, oIx, oCall, oTuple, oAppend, oExtend, oPop, oEq, ownAt, scLen, scIx, iSeq, iRg1, iRg2, iZip2, iZip3, iZip4, iEnm, putT, putTs, wipeS, noO_d, noO_s, noO_o, noO_n, oNo, oSome, dSl, dAdd_int, dAdd_tup, dAdd_lst, dSub_int, dMul_int, dMul_tup, dMod_int, dDiv_int, dPow_int, dShl_int, dBor_int, dLt_int, dLe_int, dGt_int, dGe_int, dEq_int, dNe_int, dNot_bool, dNeg_int, dBits_int, dIx_lst, dIx_tup, gLen_lst, gLen_tup, gTuple_lst, gTuple_tup, gMax_two, gMin_two, gInt_int, gInt_bool, seqOf_lst, seqOf_tup, dIs_none, dIs_bool, dIsNot_none, dIsNot_bool, same1_int, scV_int, scV_bool, isA_int, isA_tup, isA_str, isA_lst, atI_0, atI_1, atI_2, LIM, ev_guard, ev_some, ev_none, ev_bind, ev_map, turn_nx, turn_ct, turn_bk, turn_rt, ↓ev_eStpU, eStpU, ↓ev_wDc, ↓ev_nKeys, ↓ev_eMinX, wDc, nKeys, eMinX, ↓ev_iZ3, ↓ev_fCallN, iZ3, fCallN, ↓ev_xD, ↓ev_xN, ↓ev_sParX, xNil, xD, xN, sParX, putXs, ↓ev_nST, nST, ↓ev_dIxO, ↓ev_dInO, ↓ev_sDct, ↓ev_wLst, ↓ev_sNewW, ↓ev_sParDW, ↓ev_sParWD, dIxO, dInO, sDct, wDct, wLst, sNewW, sParDW, sParWD, putW, dctAt, eN, h2, e]
  · rintro ρ so ⟨⟨y2, y3, rfl⟩, rfl, hall⟩
    rw [List.length_map, List.take_length] at hall
    have e : leB r q = true := List.all_eq_true.mpr fun p hp => decide_eq_true (hall p hp)
    simp [↓ev_start, ↓ev_bind, ↓ev_map, ↓ev_eOp, ↓ev_eUn, ↓ev_aCons, ↓ev_aStar, ↓ev_eTup, ↓ev_nLst, ↓ev_eOfN, ↓ev_iSeq, ↓ev_iRg1, ↓ev_iRg2, ↓ev_bVal, ↓ev_bNot, ↓ev_bAnd, ↓ev_bOr, ↓ev_eIf, ↓ev_eAnd, ↓ev_eOr, ↓ev_eChain, ↓ev_sRet, ↓ev_sDrop, ↓ev_sSet, ↓ev_sIf, ↓ev_sNew, ↓ev_nLc, ↓ev_nLc2, ↓ev_fCall0, ↓ev_fCall1, ↓ev_fCallS, ↓ev_oIx, ↓ev_oCall, ↓ev_oTuple, ↓ev_oAppend, ↓ev_oExtend, ↓ev_oPop, ↓ev_sOwn, ↓ev_oEq, ↓ev_eCall, ↓ev_nList, ↓ev_nRange, ↓ev_eIsi, ↓ev_oSome, ↓ev_eSl, ↓ev_scIx, ↓ev_sParDD, ↓ev_sParDN, ↓ev_sParNN, ↓ev_iZip2, ↓ev_fCallZ, ↓ev_iZip3, ↓ev_iZip4, ↓ev_iEnm, ↓ev_nAdd, ↓ev_eMinD, ↓ev_nSS, ↓ev_nCall, ev_fDef, ev_fDefN, ev_seq, ev_sFor, seq_nx, seq_ct, seq_bk, seq_rt, for_q, ret_rt, ret_nx, sIf, sRet, sRetN, sDrop, sSet, sNew, sNext, sBreak, sCont, sNone, sOwn, sParDD, sParDN, sParNN, putN, bVal, bNot, bAnd, bOr, bYes, eOp, eUn, eC, eVar, eIf, eAnd, eOr, eChain, eTup, eOfN, eCall, eSl, eMinD, nAdd, nSS, eIsi, aNil, aCons, aStar, nLst, nList, nRange, nCall, nLc, nLc2, fCall0, fCall1, fCallS, fCallZ, oIx, oCall, oTuple, oAppend, oExtend, oPop, oEq, ownAt, scLen, scIx, iSeq, iRg1, iRg2, iZip2, iZip3, iZip4, iEnm, putT, putTs, wipeS, noO_d, noO_s, noO_o, noO_n, oNo, oSome, dSl, dAdd_int, dAdd_tup, dAdd_lst, dSub_int, dMul_int, dMul_tup, dMod_int, dDiv_int, dPow_int, dShl_int, dBor_int, dLt_int, dLe_int, dGt_int, dGe_int, dEq_int, dNe_int, dNot_bool, dNeg_int, dBits_int, dIx_lst, dIx_tup, gLen_lst, gLen_tup, gTuple_lst, gTuple_tup, gMax_two, gMin_two, gInt_int, gInt_bool, seqOf_lst, seqOf_tup, dIs_none, dIs_bool, dIsNot_none, dIsNot_bool, same1_int, scV_int, scV_bool, isA_int, isA_tup, isA_str, isA_lst, atI_0, atI_1, atI_2, LIM, ev_guard, ev_some, ev_none, ev_bind, ev_map, turn_nx, turn_ct, turn_bk, turn_rt, ↓ev_eStpU, eStpU, ↓ev_wDc, ↓ev_nKeys, ↓ev_eMinX, wDc, nKeys, eMinX, ↓ev_iZ3, ↓ev_fCallN, iZ3, fCallN, ↓ev_xD, ↓ev_xN, ↓ev_sParX, xNil, xD, xN, sParX, putXs, ↓ev_nST, nST, ↓ev_dIxO, ↓ev_dInO, ↓ev_sDct, ↓ev_wLst, ↓ev_sNewW, ↓ev_sParDW, ↓ev_sParWD, dIxO, dInO, sDct, wDct, wLst, sNewW, sParDW, sParWD, putW, dctAt, e]
def maxN (p : Nat × Nat) : Nat := if p.2 < p.1 then p.1 else p.2
def minN (p : Nat × Nat) : Nat := if p.2 < p.1 then p.2 else p.1
theorem map_len {α β : Type} (f : α → β) (xs : List α) : (xs.map f).length = xs.length := List.length_map f
end MP
namespace MP
open PySem L2 RL

/-! ### levels, groups, cells -/
/-- a comprehension whose items are known one by one -/
theorem ev_lcAt {body : PyData → Sto → Option (List PyData × Sto)} {items res : List PyData} {so : Sto} {Q : List PyData × Sto → Prop} (hl : items.length = res.length)
    (hs : ∀ (i : Nat) (d y : PyData), items[i]? = some d → res[i]? = some y → Ev (body d so) fun r => r = ([y], so)) (q : Q (res, so)) : Ev (lcGo body items so) Q := by
  refine ev_lc (fun i acc so' => acc = res.take i ∧ so' = so) ⟨by simp, rfl⟩ ?_ ?_
  · rintro i d acc so' hd ⟨rfl, rfl⟩
    have hi : i < items.length := (List.getElem?_eq_some_iff.mp hd).1
    have hr : res[i]? = some res[i] := List.getElem?_eq_getElem (by omega)
    refine (hs i d _ hd hr).mono fun r e => ?_
    subst e
    exact ⟨(pre_take res hr).symm, rfl⟩
  · rintro acc so' ⟨rfl, rfl⟩
    rw [hl, List.take_length]
    exact q
theorem zip4D_get {xs ys zs ws : List PyData} {i : Nat} {d : PyData} (h : (zip4D xs ys zs ws)[i]? = some d) : ∃ a b c e, xs[i]? = some a ∧ ys[i]? = some b ∧ zs[i]? = some c ∧ ws[i]? = some e ∧ d = .tuple [a, b, c, e] := by
  unfold zip4D at h
  rw [List.getElem?_zipWith, List.getElem?_zipWith, List.getElem?_zipWith] at h
  cases h1 : xs[i]? <;> cases h2 : ys[i]? <;> cases h3 : zs[i]? <;> cases h4 : ws[i]? <;> rw [h1, h2, h3, h4] at h <;> first | (cases h; exact ⟨_, _, _, _, rfl, rfl, rfl, rfl, rfl⟩) | cases h
theorem zip3D_get {xs ys zs : List PyData} {i : Nat} {d : PyData} (h : (zip3D xs ys zs)[i]? = some d) : ∃ a b c, xs[i]? = some a ∧ ys[i]? = some b ∧ zs[i]? = some c ∧ d = .tuple [a, b, c] := by
  unfold zip3D at h
  rw [List.getElem?_zipWith, List.getElem?_zipWith] at h
  cases h1 : xs[i]? <;> cases h2 : ys[i]? <;> cases h3 : zs[i]? <;> rw [h1, h2, h3] at h <;> first | (cases h; exact ⟨_, _, _, rfl, rfl, rfl, rfl⟩) | cases h
theorem zip4D_len {xs ys zs ws : List PyData} (h2 : ys.length = xs.length) (h3 : zs.length = xs.length) (h4 : ws.length = xs.length) : (zip4D xs ys zs ws).length = xs.length := by
  unfold zip4D
  rw [List.length_zipWith, List.length_zipWith, List.length_zipWith]
  omega
theorem zip3D_len {xs ys zs : List PyData} (h2 : ys.length = xs.length) (h3 : zs.length = xs.length) : (zip3D xs ys zs).length = xs.length := by
  unfold zip3D
  rw [List.length_zipWith, List.length_zipWith]
  omega
theorem atI_nat {α : Type} {xs : List α} {i : Nat} {x : α} (h : xs[i]? = some x) : atI xs (i : Int) = some x := by
  unfold atI
  rw [ixN_nat (List.getElem?_eq_some_iff.mp h).1]
  exact h
theorem atI_mapE {α : Type} {f : α → PyData} {xs : List α} {i : Nat} {x : α} (h : xs[i]? = some x) : atI (xs.map f) (i : Int) = some (f x) := atI_nat (by rw [List.getElem?_map, h]; rfl)
theorem intsOf_eN (ns : List Nat) : intsOf (ns.map eN) = some (ns.map fun (n : Nat) => (n : Int)) := by
  rw [← intsOf_map (ns.map fun (n : Nat) => (n : Int)), List.map_map]
  rfl
theorem max_row {st : List Nat} {m : Nat} (m0 : 0 < m) (hm : ∀ g, g ∈ st ↔ g < m) : ∃ g gs, st = g :: gs ∧ ((gs.map fun (n : Nat) => (n : Int)).foldl max (g : Int)) + 1 = ((top1 st : Nat) : Int) := by
  cases st with
  | nil => exact absurd ((hm 0).mpr m0) (by simp)
  | cons g gs =>
    refine ⟨g, gs, rfl, ?_⟩
    rw [foldl_max_int]
    unfold top1
    rw [List.foldl_cons, Nat.zero_max]
    omega
/-- the greatest of a row of groups -/
theorem gMax_row {st : List Nat} {m : Nat} (m0 : 0 < m) (hm : ∀ g, g ∈ st ↔ g < m) : ∃ z : Int, gMax [.tuple (st.map eN)] = some (.int z) ∧ gMax [.list (st.map eN)] = some (.int z) ∧ z + 1 = (m : Nat) ∧ 1 + z = (m : Nat) := by
  obtain ⟨g, gs, rfl, e⟩ := max_row m0 hm
  rw [top1_of m0 hm] at e
  refine ⟨_, ?_, ?_, e, by omega⟩
  · show (intsOf ((g :: gs).map eN)).bind _ = _
    rw [intsOf_eN]
    rfl
  · show (intsOf ((g :: gs).map eN)).bind _ = _
    rw [intsOf_eN]
    rfl
theorem ok_group_count {a : Att} (ok : AttOk a) {l : Nat} (hl : l ≤ a.2.length) : F_group_count [.d (eA a), .d (.int l)] [] = some (.int (gcount a l), []) := by
  refine of_ev ?_
  cases l with
  | zero =>
    simp [F_group_count, ↓ev_start, ↓ev_bind, ↓ev_map, ↓ev_eOp, ↓ev_eUn, ↓ev_aCons, ↓ev_aStar, ↓ev_eTup, ↓ev_nLst, ↓ev_eOfN, ↓ev_iSeq, ↓ev_iRg1, ↓ev_iRg2, ↓ev_bVal, ↓ev_bNot, ↓ev_bAnd, ↓ev_bOr, ↓ev_eIf, ↓ev_eAnd, ↓ev_eOr, ↓ev_eChain, ↓ev_sRet, ↓ev_sDrop, ↓ev_sSet, ↓ev_sIf, ↓ev_sNew, ↓ev_nLc, ↓ev_nLc2, ↓ev_fCall0, ↓ev_fCall1, ↓ev_fCallS, ↓ev_oIx, ↓ev_oCall, ↓ev_oTuple, ↓ev_oAppend, ↓ev_oExtend, ↓ev_oPop, ↓ev_sOwn, ↓ev_oEq, ↓ev_eCall, ↓ev_nList, ↓ev_nRange, ↓ev_eIsi, ↓ev_oSome, ↓ev_eSl, ↓ev_scIx, ↓ev_sParDD, ↓ev_sParDN, ↓ev_sParNN, ↓ev_iZip2, ↓ev_fCallZ, ↓ev_iZip3, ↓ev_iZip4, ↓ev_iEnm, ↓ev_nAdd, ↓ev_eMinD, ↓ev_nSS, ↓ev_nCall, ev_fDef, ev_fDefN, ev_seq, ev_sFor, seq_nx, seq_ct, seq_bk, seq_rt, for_q, ret_rt, ret_nx, sIf, sRet, sRetN, sDrop, sSet, sNew, sNext, sBreak, sCont, sNone, sOwn, sParDD, sParDN, sParNN, putN, bVal, bNot, bAnd, bOr, bYes, eOp, eUn, eC, eVar, eIf, eAnd, eOr, eChain, eTup, eOfN, eCall, eSl, eMinD, nAdd, nSS, eIsi, aNil, aCons, aStar, nLst, nList, nRange, nCall, nLc, nLc2, fCall0, fCall1, fCallS, fCallZ, oIx, oCall, oTuple, oAppend, oExtend, oPop, oEq, ownAt, scLen, scIx, iSeq, iRg1, iRg2, iZip2, iZip3, iZip4, iEnm, putT, putTs, wipeS, noO_d, noO_s, noO_o, noO_n, oNo, oSome, dSl, dAdd_int, dAdd_tup, dAdd_lst, dSub_int, dMul_int, dMul_tup, dMod_int, dDiv_int, dPow_int, dShl_int, dBor_int, dLt_int, dLe_int, dGt_int, dGe_int, dEq_int, dNe_int, dNot_bool, dNeg_int, dBits_int, dIx_lst, dIx_tup, gLen_lst, gLen_tup, gTuple_lst, gTuple_tup, gMax_two, gMin_two, gInt_int, gInt_bool, seqOf_lst, seqOf_tup, dIs_none, dIs_bool, dIsNot_none, dIsNot_bool, same1_int, scV_int, scV_bool, isA_int, isA_tup, isA_str, isA_lst, atI_0, atI_1, atI_2, LIM, ev_guard, ev_some, ev_none, ev_bind, ev_map, turn_nx, turn_ct, turn_bk, turn_rt, ↓ev_eStpU, eStpU, ↓ev_wDc, ↓ev_nKeys, ↓ev_eMinX, wDc, nKeys, eMinX, ↓ev_iZ3, ↓ev_fCallN, iZ3, fCallN, ↓ev_xD, ↓ev_xN, ↓ev_sParX, xNil, xD, xN, sParX, putXs, ↓ev_nST, nST, ↓ev_dIxO, ↓ev_dInO, ↓ev_sDct, ↓ev_wLst, ↓ev_sNewW, ↓ev_sParDW, ↓ev_sParWD, dIxO, dInO, sDct, wDct, wLst, sNewW, sParDW, sParWD, putW, dctAt, eA, eN]
    rfl
  | succ l =>
    obtain ⟨⟨h1, m, m0, mb, hm⟩, hget⟩ := step_ok ok (l := l) hl
    have e6 : gcount a (l + 1) = m := top1_of m0 hm
    generalize a.2.getD l [] = st at h1 hm hget
    obtain ⟨z, e1, _, e2, _⟩ := gMax_row m0 hm
    have e4 : ¬ ((l : Int) + 1 = 0) := by omega
    have e5 : atI (a.2.map eT) (l : Int) = some (eT st) := atI_mapE hget
    simp [F_group_count, ↓ev_start, ↓ev_bind, ↓ev_map, ↓ev_eOp, ↓ev_eUn, ↓ev_aCons, ↓ev_aStar, ↓ev_eTup, ↓ev_nLst, ↓ev_eOfN, ↓ev_iSeq, ↓ev_iRg1, ↓ev_iRg2, ↓ev_bVal, ↓ev_bNot, ↓ev_bAnd, ↓ev_bOr, ↓ev_eIf, ↓ev_eAnd, ↓ev_eOr, ↓ev_eChain, ↓ev_sRet, ↓ev_sDrop, ↓ev_sSet, ↓ev_sIf, ↓ev_sNew, ↓ev_nLc, ↓ev_nLc2, ↓ev_fCall0, ↓ev_fCall1, ↓ev_fCallS, ↓ev_oIx, ↓ev_oCall, ↓ev_oTuple, ↓ev_oAppend, ↓ev_oExtend, ↓ev_oPop, ↓ev_sOwn, ↓ev_oEq, ↓ev_eCall, ↓ev_nList, ↓ev_nRange, ↓ev_eIsi, ↓ev_oSome, ↓ev_eSl, ↓ev_scIx, ↓ev_sParDD, ↓ev_sParDN, ↓ev_sParNN, ↓ev_iZip2, ↓ev_fCallZ, ↓ev_iZip3, ↓ev_iZip4, ↓ev_iEnm, ↓ev_nAdd, ↓ev_eMinD, ↓ev_nSS, ↓ev_nCall, ev_fDef, ev_fDefN, ev_seq, ev_sFor, seq_nx, seq_ct, seq_bk, seq_rt, for_q, ret_rt, ret_nx, sIf, sRet, sRetN, sDrop, sSet, sNew, sNext, sBreak, sCont, sNone, sOwn, sParDD, sParDN, sParNN, putN, bVal, bNot, bAnd, bOr, bYes, eOp, eUn, eC, eVar, eIf, eAnd, eOr, eChain, eTup, eOfN, eCall, eSl, eMinD, nAdd, nSS, eIsi, aNil, aCons, aStar, nLst, nList, nRange, nCall, nLc, nLc2, fCall0, fCall1, fCallS, fCallZ, oIx, oCall, oTuple, oAppend, oExtend, oPop, oEq, ownAt, scLen, scIx, iSeq, iRg1, iRg2, iZip2, iZip3, iZip4, iEnm, putT, putTs, wipeS, noO_d, noO_s, noO_o, noO_n, oNo, oSome, dSl, dAdd_int, dAdd_tup, dAdd_lst, dSub_int, dMul_int, dMul_tup, dMod_int, dDiv_int, dPow_int, dShl_int, dBor_int, dLt_int, dLe_int, dGt_int, dGe_int, dEq_int, dNe_int, dNot_bool, dNeg_int, dBits_int, dIx_lst, dIx_tup, gLen_lst, gLen_tup, gTuple_lst, gTuple_tup, gMax_two, gMin_two, gInt_int, gInt_bool, seqOf_lst, seqOf_tup, dIs_none, dIs_bool, dIsNot_none, dIsNot_bool, same1_int, scV_int, scV_bool, isA_int, isA_tup, isA_str, isA_lst, atI_0, atI_1, atI_2, LIM, ev_guard, ev_some, ev_none, ev_bind, ev_map, turn_nx, turn_ct, turn_bk, turn_rt, ↓ev_eStpU, eStpU, ↓ev_wDc, ↓ev_nKeys, ↓ev_eMinX, wDc, nKeys, eMinX, ↓ev_iZ3, ↓ev_fCallN, iZ3, fCallN, ↓ev_xD, ↓ev_xN, ↓ev_sParX, xNil, xD, xN, sParX, putXs, ↓ev_nST, nST, ↓ev_dIxO, ↓ev_dInO, ↓ev_sDct, ↓ev_wLst, ↓ev_sNewW, ↓ev_sParDW, ↓ev_sParWD, dIxO, dInO, sDct, wDct, wLst, sNewW, sParDW, sParWD, putW, dctAt, eA, eN, eSt, e4, e5]
    simp only [eT, e1, ↓ev_start, ↓ev_bind, ↓ev_map, ↓ev_eOp, ↓ev_eUn, ↓ev_aCons, ↓ev_aStar, ↓ev_eTup, ↓ev_nLst, ↓ev_eOfN, ↓ev_iSeq, ↓ev_iRg1, ↓ev_iRg2, ↓ev_bVal, ↓ev_bNot, ↓ev_bAnd, ↓ev_bOr, ↓ev_eIf, ↓ev_eAnd, ↓ev_eOr, ↓ev_eChain, ↓ev_sRet, ↓ev_sDrop, ↓ev_sSet, ↓ev_sIf, ↓ev_sNew, ↓ev_nLc, ↓ev_nLc2, ↓ev_fCall0, ↓ev_fCall1, ↓ev_fCallS, ↓ev_oIx, ↓ev_oCall, ↓ev_oTuple, ↓ev_oAppend, ↓ev_oExtend, ↓ev_oPop, ↓ev_sOwn, ↓ev_oEq, ↓ev_eCall, ↓ev_nList, ↓ev_nRange, ↓ev_eIsi, ↓ev_oSome, ↓ev_eSl, ↓ev_scIx, ↓ev_sParDD, ↓ev_sParDN, ↓ev_sParNN, ↓ev_iZip2, ↓ev_fCallZ, ↓ev_iZip3, ↓ev_iZip4, ↓ev_iEnm, ↓ev_nAdd, ↓ev_eMinD, ↓ev_nSS, ↓ev_nCall, ev_fDef, ev_fDefN, ev_seq, ev_sFor, seq_nx, seq_ct, seq_bk, seq_rt, for_q, ret_rt, ret_nx, sIf, sRet, sRetN, sDrop, sSet, sNew, sNext, sBreak, sCont, sNone, sOwn, sParDD, sParDN, sParNN, putN, bVal, bNot, bAnd, bOr, bYes, eOp, eUn, eC, eVar, eIf, eAnd, eOr, eChain, eTup, eOfN, eCall, eSl, eMinD, nAdd, nSS, eIsi, aNil, aCons, aStar, nLst, nList, nRange, nCall, nLc, nLc2, fCall0, fCall1, fCallS, fCallZ, oIx, oCall, oTuple, oAppend, oExtend, oPop, oEq, ownAt, scLen, scIx, iSeq, iRg1, iRg2, iZip2, iZip3, iZip4, iEnm, putT, putTs, wipeS, noO_d, noO_s, noO_o, noO_n, oNo, oSome, dSl, dAdd_int, dAdd_tup, dAdd_lst, dSub_int, dMul_int, dMul_tup, dMod_int, dDiv_int, dPow_int, dShl_int, dBor_int, dLt_int, dLe_int, dGt_int, dGe_int, dEq_int, dNe_int, dNot_bool, dNeg_int, dBits_int, dIx_lst, dIx_tup, gLen_lst, gLen_tup, gTuple_lst, gTuple_tup, gMax_two, gMin_two, gInt_int, gInt_bool, seqOf_lst, seqOf_tup, dIs_none, dIs_bool, dIsNot_none, dIsNot_bool, same1_int, scV_int, scV_bool, isA_int, isA_tup, isA_str, isA_lst, atI_0, atI_1, atI_2, LIM, ev_guard, ev_some, ev_none, ev_bind, ev_map, turn_nx, turn_ct, turn_bk, turn_rt, ↓ev_eStpU, eStpU, ↓ev_wDc, ↓ev_nKeys, ↓ev_eMinX, wDc, nKeys, eMinX, ↓ev_iZ3, ↓ev_fCallN, iZ3, fCallN, ↓ev_xD, ↓ev_xN, ↓ev_sParX, xNil, xD, xN, sParX, putXs, ↓ev_nST, nST, ↓ev_dIxO, ↓ev_dInO, ↓ev_sDct, ↓ev_wLst, ↓ev_sNewW, ↓ev_sParDW, ↓ev_sParWD, dIxO, dInO, sDct, wDct, wLst, sNewW, sParDW, sParWD, putW, dctAt]
    simp [↓ev_start, ↓ev_bind, ↓ev_map, ↓ev_eOp, ↓ev_eUn, ↓ev_aCons, ↓ev_aStar, ↓ev_eTup, ↓ev_nLst, ↓ev_eOfN, ↓ev_iSeq, ↓ev_iRg1, ↓ev_iRg2, ↓ev_bVal, ↓ev_bNot, ↓ev_bAnd, ↓ev_bOr, ↓ev_eIf, ↓ev_eAnd, ↓ev_eOr, ↓ev_eChain, ↓ev_sRet, ↓ev_sDrop, ↓ev_sSet, ↓ev_sIf, ↓ev_sNew, ↓ev_nLc, ↓ev_nLc2, ↓ev_fCall0, ↓ev_fCall1, ↓ev_fCallS, ↓ev_oIx, ↓ev_oCall, ↓ev_oTuple, ↓ev_oAppend, ↓ev_oExtend, ↓ev_oPop, ↓ev_sOwn, ↓ev_oEq, ↓ev_eCall, ↓ev_nList, ↓ev_nRange, ↓ev_eIsi, ↓ev_oSome, ↓ev_eSl, ↓ev_scIx, ↓ev_sParDD, ↓ev_sParDN, ↓ev_sParNN, ↓ev_iZip2, ↓ev_fCallZ, ↓ev_iZip3, ↓ev_iZip4, ↓ev_iEnm, ↓ev_nAdd, ↓ev_eMinD, ↓ev_nSS, ↓ev_nCall, ev_fDef, ev_fDefN, ev_seq, ev_sFor, seq_nx, seq_ct, seq_bk, seq_rt, for_q, ret_rt, ret_nx, sIf, sRet, sRetN, sDrop, sSet, sNew, sNext, sBreak, sCont, sNone, sOwn, sParDD, sParDN, sParNN, putN, bVal, bNot, bAnd, bOr, bYes, eOp, eUn, eC, eVar, eIf, eAnd, eOr, eChain, eTup, eOfN, eCall, eSl, eMinD, nAdd, nSS, eIsi, aNil, aCons, aStar, nLst, nList, nRange, nCall, nLc, nLc2, fCall0, fCall1, fCallS, fCallZ, oIx, oCall, oTuple, oAppend, oExtend, oPop, oEq, ownAt, scLen, scIx, iSeq, iRg1, iRg2, iZip2, iZip3, iZip4, iEnm, putT, putTs, wipeS, noO_d, noO_s, noO_o, noO_n, oNo, oSome, dSl, dAdd_int, dAdd_tup, dAdd_lst, dSub_int, dMul_int, dMul_tup, dMod_int, dDiv_int, dPow_int, dShl_int, dBor_int, dLt_int, dLe_int, dGt_int, dGe_int, dEq_int, dNe_int, dNot_bool, dNeg_int, dBits_int, dIx_lst, dIx_tup, gLen_lst, gLen_tup, gTuple_lst, gTuple_tup, gMax_two, gMin_two, gInt_int, gInt_bool, seqOf_lst, seqOf_tup, dIs_none, dIs_bool, dIsNot_none, dIsNot_bool, same1_int, scV_int, scV_bool, isA_int, isA_tup, isA_str, isA_lst, atI_0, atI_1, atI_2, LIM, ev_guard, ev_some, ev_none, ev_bind, ev_map, turn_nx, turn_ct, turn_bk, turn_rt, ↓ev_eStpU, eStpU, ↓ev_wDc, ↓ev_nKeys, ↓ev_eMinX, wDc, nKeys, eMinX, ↓ev_iZ3, ↓ev_fCallN, iZ3, fCallN, ↓ev_xD, ↓ev_xN, ↓ev_sParX, xNil, xD, xN, sParX, putXs, ↓ev_nST, nST, ↓ev_dIxO, ↓ev_dInO, ↓ev_sDct, ↓ev_wLst, ↓ev_sNewW, ↓ev_sParDW, ↓ev_sParWD, dIxO, dInO, sDct, wDct, wLst, sNewW, sParDW, sParWD, putW, dctAt, e2, e6]
theorem cut_nat {xs : List PyData} {l h : Nat} (hl : l ≤ h) (h2 : h ≤ xs.length) : cutD xs (some (l : Int)) (some (h : Int)) = (xs.drop l).take (h - l) := by
  unfold cutD
  rw [HT.sIx_nat, HT.sIx_nat, Nat.min_eq_left h2, Nat.min_eq_left (Nat.le_trans hl h2)]
def GabI (a : Att) (l g h : Nat) (i : Nat) (ρ : Slots) (so : Sto) : Prop :=
  ∃ y5 : Option Sl, ρ = [some (.d (eA a)), some (.d (.int l)), some (.d (.int g)), some (.d (.int h)), some (.d (.int (gAbove a l g (l + i)))), y5] ∧ so = []
theorem step_get {a : Att} (ok : AttOk a) {l g : Nat} (hl : l < a.2.length) (hg : g < gcount a l) : (a.2.getD l [])[g]? = some (stepAt a l g) := by
  have e := (step_ok ok hl).1.1
  unfold stepAt
  rw [List.getD_eq_getElem?_getD (l := a.2.getD l []), List.getElem?_eq_getElem (by omega)]
  rfl
def cAbove (S : List Att) (r c t : List Nat) : List Nat := (List.range S.length).map fun i => gAbove (S.getD i (0, [])) (r.getD i 0) (c.getD i 0) (t.getD i 0)
theorem cAbove_len (S : List Att) (r c t : List Nat) : (cAbove S r c t).length = S.length := by unfold cAbove; rw [List.length_map, List.length_range]
theorem cAbove_get {S : List Att} {r c t : List Nat} {i : Nat} {a : Att} {l g h : Nat} (h1 : S[i]? = some a) (h2 : r[i]? = some l) (h3 : c[i]? = some g) (h4 : t[i]? = some h) : (cAbove S r c t)[i]? = some (gAbove a l g h) := by
  have hi : i < S.length := (List.getElem?_eq_some_iff.mp h1).1
  unfold cAbove
  rw [List.getElem?_map, List.getElem?_range hi]
  show some (gAbove (S.getD i (0, [])) (r.getD i 0) (c.getD i 0) (t.getD i 0)) = _
  rw [getD_of h1, getD_of h2, getD_of h3, getD_of h4]
def LeOk (r t : List Nat) : Prop := ∀ (i l h : Nat), r[i]? = some l → t[i]? = some h → l ≤ h
theorem leB_of {r t : List Nat} (h : LeOk r t) : leB r t = true := by
  refine List.all_eq_true.mpr fun p hp => decide_eq_true ?_
  obtain ⟨i, hi⟩ := List.mem_iff_getElem?.mp hp
  rw [List.getElem?_zip_eq_some] at hi
  exact h i _ _ hi.1 hi.2
theorem cell_lt {S : List Att} {r c : List Nat} (hc : CellOk S r c) {i : Nat} {a : Att} {l g : Nat} (ha : S[i]? = some a) (hl : r[i]? = some l) (hg : c[i]? = some g) : g < gcount a l := hc.2 i g _ hg (counts_get ha hl)
end MP
namespace MP
open PySem L2 RL

/-! ### the other supply of draws -/
def SupD (n : Nat) (ds : List PyData) : Prop := ∃ p q c : Int, ds = [.int p, .int q, .int c] ∧ 0 ≤ p ∧ 0 ≤ q ∧ q < 2147483648 ∧ 0 ≤ c ∧ c ≤ n
theorem SupD.mono {n m : Nat} {ds : List PyData} (h : SupD n ds) (l : n ≤ m) : SupD m ds := by
  obtain ⟨p, q, c, e, h1, h2, h3, h4, h5⟩ := h
  exact ⟨p, q, c, e, h1, h2, h3, h4, by omega⟩
/-- needs F__law_source -/
theorem draw2_ok {n : Nat} {pen : List PyData} {m : Int} (hp : SupD n pen) (h0 : 0 < m) (h1 : m ≤ 10000000) (hn : n ≤ 1000000) :
    Ev (F__law_draw [.o 0, .d (.int m)] [.lst pen]) fun r => ∃ (d : Int) (pen' : List PyData), r = (.int d, [.lst pen']) ∧ 0 ≤ d ∧ d < m ∧ SupD (n + 1) pen' := by
  obtain ⟨p, q, c, rfl, p0, q0, q1, c0, c1⟩ := hp
  have hm : m < 1073741824 := by omega
  have fin : ∀ z : Int, 0 ≤ z % m ∧ z % m < m := fun z => ⟨Int.emod_nonneg _ (by omega), Int.emod_lt_of_pos _ h0⟩
  by_cases hpos : 0 < p
  · simp [F__law_draw, ↓ev_start, ↓ev_bind, ↓ev_map, ↓ev_eOp, ↓ev_eUn, ↓ev_aCons, ↓ev_aStar, ↓ev_eTup, ↓ev_nLst, ↓ev_eOfN, ↓ev_iSeq, ↓ev_iRg1, ↓ev_iRg2, ↓ev_bVal, ↓ev_bNot, ↓ev_bAnd, ↓ev_bOr, ↓ev_eIf, ↓ev_eAnd, ↓ev_eOr, ↓ev_eChain, ↓ev_sRet, ↓ev_sDrop, ↓ev_sSet, ↓ev_sIf, ↓ev_sNew, ↓ev_nLc, ↓ev_nLc2, ↓ev_fCall0, ↓ev_fCall1, ↓ev_fCallS, ↓ev_oIx, ↓ev_oCall, ↓ev_oTuple, ↓ev_oAppend, ↓ev_oExtend, ↓ev_oPop, ↓ev_sOwn, ↓ev_oEq, ↓ev_eCall, ↓ev_nList, ↓ev_nRange, ↓ev_eIsi, ↓ev_oSome, ↓ev_eSl, ↓ev_scIx, ↓ev_sParDD, ↓ev_sParDN, ↓ev_sParNN, ↓ev_iZip2, ↓ev_fCallZ, ↓ev_iZip3, ↓ev_iZip4, ↓ev_iEnm, ↓ev_nAdd, ↓ev_eMinD, ↓ev_nSS, ↓ev_nCall, ev_fDef, ev_fDefN, ev_seq, ev_sFor, seq_nx, seq_ct, seq_bk, seq_rt, for_q, ret_rt, ret_nx, sIf, sRet, sRetN, sDrop, sSet, sNew, sNext, sBreak, sCont, sNone, sOwn, sParDD, sParDN, sParNN, putN, bVal, bNot, bAnd, bOr, bYes, eOp, eUn, eC, eVar, eIf, eAnd, eOr, eChain, eTup, eOfN, eCall, eSl, eMinD, nAdd, nSS, eIsi, aNil, aCons, aStar, nLst, nList, nRange, nCall, nLc, nLc2, fCall0, fCall1, fCallS, fCallZ, oIx, oCall, oTuple, oAppend, oExtend, oPop, oEq, ownAt, scLen, scIx, iSeq, iRg1, iRg2, iZip2, iZip3, iZip4, iEnm, putT, putTs, wipeS, noO_d, noO_s, noO_o, noO_n, oNo, oSome, dSl, dAdd_int, dAdd_tup, dAdd_lst, dSub_int, dMul_int, dMul_tup, dMod_int, dDiv_int, dPow_int, dShl_int, dBor_int, dLt_int, dLe_int, dGt_int, dGe_int, dEq_int, dNe_int, dNot_bool, dNeg_int, dBits_int, dIx_lst, dIx_tup, gLen_lst, gLen_tup, gTuple_lst, gTuple_tup, gMax_two, gMin_two, gInt_int, gInt_bool, seqOf_lst, seqOf_tup, dIs_none, dIs_bool, dIsNot_none, dIsNot_bool, same1_int, scV_int, scV_bool, isA_int, isA_tup, isA_str, isA_lst, atI_0, atI_1, atI_2, LIM, ev_guard, ev_some, ev_none, ev_bind, ev_map, turn_nx, turn_ct, turn_bk, turn_rt, ↓ev_eStpU, eStpU, ↓ev_wDc, ↓ev_nKeys, ↓ev_eMinX, wDc, nKeys, eMinX, ↓ev_iZ3, ↓ev_fCallN, iZ3, fCallN, ↓ev_xD, ↓ev_xN, ↓ev_sParX, xNil, xD, xN, sParX, putXs, ↓ev_nST, nST, ↓ev_dIxO, ↓ev_dInO, ↓ev_sDct, ↓ev_wLst, ↓ev_sNewW, ↓ev_sParDW, ↓ev_sParWD, dIxO, dInO, sDct, wDct, wLst, sNewW, sParDW, sParWD, putW, dctAt, ixN, hpos, h0, hm]
    exact ⟨_, _, ⟨rfl, rfl⟩, (fin _).1, (fin _).2, p / m, q, c, rfl, Int.ediv_nonneg p0 (by omega), q0, q1, c0, by omega⟩
  · obtain ⟨s1, hs1⟩ : ∃ z : Int, z = (q * 48271 + 1009 * (c + 1) + 7) % 2147483647 := ⟨_, rfl⟩
    obtain ⟨s2, hs2⟩ : ∃ z : Int, z = (s1 * s1 + 69621 * s1 + 11) % 2147483629 := ⟨_, rfl⟩
    have b0 : q.natAbs < 18446744073709551616 := by omega
    have b1 : s1.natAbs < 18446744073709551616 := by omega
    have b2 : s2.natAbs < 18446744073709551616 := by omega
    simp [F__law_draw, ↓ev_start, ↓ev_bind, ↓ev_map, ↓ev_eOp, ↓ev_eUn, ↓ev_aCons, ↓ev_aStar, ↓ev_eTup, ↓ev_nLst, ↓ev_eOfN, ↓ev_iSeq, ↓ev_iRg1, ↓ev_iRg2, ↓ev_bVal, ↓ev_bNot, ↓ev_bAnd, ↓ev_bOr, ↓ev_eIf, ↓ev_eAnd, ↓ev_eOr, ↓ev_eChain, ↓ev_sRet, ↓ev_sDrop, ↓ev_sSet, ↓ev_sIf, ↓ev_sNew, ↓ev_nLc, ↓ev_nLc2, ↓ev_fCall0, ↓ev_fCall1, ↓ev_fCallS, ↓ev_oIx, ↓ev_oCall, ↓ev_oTuple, ↓ev_oAppend, ↓ev_oExtend, ↓ev_oPop, ↓ev_sOwn, ↓ev_oEq, ↓ev_eCall, ↓ev_nList, ↓ev_nRange, ↓ev_eIsi, ↓ev_oSome, ↓ev_eSl, ↓ev_scIx, ↓ev_sParDD, ↓ev_sParDN, ↓ev_sParNN, ↓ev_iZip2, ↓ev_fCallZ, ↓ev_iZip3, ↓ev_iZip4, ↓ev_iEnm, ↓ev_nAdd, ↓ev_eMinD, ↓ev_nSS, ↓ev_nCall, ev_fDef, ev_fDefN, ev_seq, ev_sFor, seq_nx, seq_ct, seq_bk, seq_rt, for_q, ret_rt, ret_nx, sIf, sRet, sRetN, sDrop, sSet, sNew, sNext, sBreak, sCont, sNone, sOwn, sParDD, sParDN, sParNN, putN, bVal, bNot, bAnd, bOr, bYes, eOp, eUn, eC, eVar, eIf, eAnd, eOr, eChain, eTup, eOfN, eCall, eSl, eMinD, nAdd, nSS, eIsi, aNil, aCons, aStar, nLst, nList, nRange, nCall, nLc, nLc2, fCall0, fCall1, fCallS, fCallZ, oIx, oCall, oTuple, oAppend, oExtend, oPop, oEq, ownAt, scLen, scIx, iSeq, iRg1, iRg2, iZip2, iZip3, iZip4, iEnm, putT, putTs, wipeS, noO_d, noO_s, noO_o, noO_n, oNo, oSome, dSl, dAdd_int, dAdd_tup, dAdd_lst, dSub_int, dMul_int, dMul_tup, dMod_int, dDiv_int, dPow_int, dShl_int, dBor_int, dLt_int, dLe_int, dGt_int, dGe_int, dEq_int, dNe_int, dNot_bool, dNeg_int, dBits_int, dIx_lst, dIx_tup, gLen_lst, gLen_tup, gTuple_lst, gTuple_tup, gMax_two, gMin_two, gInt_int, gInt_bool, seqOf_lst, seqOf_tup, dIs_none, dIs_bool, dIsNot_none, dIsNot_bool, same1_int, scV_int, scV_bool, isA_int, isA_tup, isA_str, isA_lst, atI_0, atI_1, atI_2, LIM, ev_guard, ev_some, ev_none, ev_bind, ev_map, turn_nx, turn_ct, turn_bk, turn_rt, ↓ev_eStpU, eStpU, ↓ev_wDc, ↓ev_nKeys, ↓ev_eMinX, wDc, nKeys, eMinX, ↓ev_iZ3, ↓ev_fCallN, iZ3, fCallN, ↓ev_xD, ↓ev_xN, ↓ev_sParX, xNil, xD, xN, sParX, putXs, ↓ev_nST, nST, ↓ev_dIxO, ↓ev_dInO, ↓ev_sDct, ↓ev_wLst, ↓ev_sNewW, ↓ev_sParDW, ↓ev_sParWD, dIxO, dInO, sDct, wDct, wLst, sNewW, sParDW, sParWD, putW, dctAt, ixN, hpos, h0, b0, ← hs1, b1, ← hs2, b2]
    exact ⟨_, _, ⟨rfl, rfl⟩, (fin _).1, (fin _).2, p, s1, c + 1, rfl, p0, by omega, by omega, by omega, by omega⟩
theorem ev_draw2 {n : Nat} {pen : List PyData} {m : Int} {Q : PyData × Sto → Prop} (hp : SupD n pen) (h0 : 0 < m) (h1 : m ≤ 10000000) (hn : n ≤ 1000000)
    (k : ∀ (d : Nat) (pen' : List PyData), (d : Int) < m → SupD (n + 1) pen' → Q (.int d, [.lst pen'])) : Ev (F__law_draw [.o 0, .d (.int m)] [.lst pen]) Q := by
  obtain ⟨_, e, d, pen', rfl, d0, d1, hp'⟩ := draw2_ok hp h0 h1 hn
  obtain ⟨d, rfl⟩ := Int.eq_ofNat_of_zero_le d0
  exact ⟨_, e, k d pen' d1 hp'⟩
def More2 (n f : Nat) (a b : Own) (j : Nat) (acc : List PyData) (so : Sto) : Prop :=
  ∃ (more : List Nat) (pen' : List PyData), acc = more.map eN ∧ so = [.lst pen', a, b] ∧ more.length = j ∧ (∀ k ∈ more, k < f) ∧ SupD (n + j) pen'
def StpI (n g f : Nat) (xs : List Nat) (i : Nat) (ρ : Slots) (so : Sto) : Prop :=
  ∃ (l fd : List Nat) (pen' : List PyData) (y5 : Option Sl), ρ = [some (.o 0), some (.d (.int g)), some (.d (.int f)), some (.o 1), some (.o 2), y5] ∧ so = [.lst pen', .lst (l.map eN), .lst (fd.map eN)] ∧ fd.length = i ∧ (fd ++ l).Perm xs ∧ SupD (n + i) pen'
/-- between two turns of an attribute's steps -/
def Att2 (n most many : Nat) (i : Nat) (ρ : Slots) (so : Sto) : Prop :=
  ∃ (g : Nat) (ss : List (List Nat)) (y5 : Option Sl) (pen' : List PyData), ρ = [some (.o 0), some (.d (.int most)), some (.d (.int many)), some (.d (.int g)), some (.d (eSt ss)), y5] ∧ so = [.lst pen'] ∧ StepsTo many ss g ∧ 1 ≤ g ∧ g ≤ 6 ∧ ss.length ≤ i ∧ SupD (n + 3 + 13 * i) pen'
def Atts2 (mosts : List Nat) (n : Nat) (i : Nat) (acc : List PyData) (so : Sto) : Prop :=
  ∃ (S : List Att) (pen' : List PyData), acc = S.map eA ∧ so = [.lst pen'] ∧ S.length = i ∧ (∀ a ∈ S, AttOk a) ∧ prodN (S.map (·.1)) ≤ prodN (mosts.take i) ∧ SupD (n + 50 * i) pen'
def Roll2 (S : List Att) (n : Nat) (i : Nat) (acc : List PyData) (so : Sto) : Prop :=
  ∃ (r : List Nat) (pen' : List PyData), acc = r.map eN ∧ so = [.lst pen'] ∧ r.length = i ∧ (∀ (j : Nat) (a : Att) (l : Nat), S[j]? = some a → r[j]? = some l → l < a.2.length + 1) ∧ SupD (n + i) pen'
def Rolls2 (S : List Att) (n : Nat) (i : Nat) (acc : List PyData) (so : Sto) : Prop :=
  ∃ (rs : List (List Nat)) (pen' : List PyData), acc = rs.map eT ∧ so = [.lst pen'] ∧ rs.length = i ∧ (∀ r ∈ rs, RollOk S r) ∧ SupD (n + 3 * i) pen'
theorem ev_cell2 {ns : List Int} {k : Nat} {Q : PyData × Sto → Prop} (q : ∀ c : Int, Q (.int c, [])) : Ev (F__law_cell [.s ns, .d (.int k)] []) Q := by
  by_cases h : (k : Int) < (ns.length : Int)
  · have hk : k < ns.length := by omega
    have e : atI ns (k : Int) = some ns[k] := by unfold atI; rw [ixN_nat hk]; simp
    simp [F__law_cell, ↓ev_start, ↓ev_bind, ↓ev_map, ↓ev_eOp, ↓ev_eUn, ↓ev_aCons, ↓ev_aStar, ↓ev_eTup, ↓ev_nLst, ↓ev_eOfN, ↓ev_iSeq, ↓ev_iRg1, ↓ev_iRg2, ↓ev_bVal, ↓ev_bNot, ↓ev_bAnd, ↓ev_bOr, ↓ev_eIf, ↓ev_eAnd, ↓ev_eOr, ↓ev_eChain, ↓ev_sRet, ↓ev_sDrop, ↓ev_sSet, ↓ev_sIf, ↓ev_sNew, ↓ev_nLc, ↓ev_nLc2, ↓ev_fCall0, ↓ev_fCall1, ↓ev_fCallS, ↓ev_oIx, ↓ev_oCall, ↓ev_oTuple, ↓ev_oAppend, ↓ev_oExtend, ↓ev_oPop, ↓ev_sOwn, ↓ev_oEq, ↓ev_eCall, ↓ev_nList, ↓ev_nRange, ↓ev_eIsi, ↓ev_oSome, ↓ev_eSl, ↓ev_scIx, ↓ev_sParDD, ↓ev_sParDN, ↓ev_sParNN, ↓ev_iZip2, ↓ev_fCallZ, ↓ev_iZip3, ↓ev_iZip4, ↓ev_iEnm, ↓ev_nAdd, ↓ev_eMinD, ↓ev_nSS, ↓ev_nCall, ev_fDef, ev_fDefN, ev_seq, ev_sFor, seq_nx, seq_ct, seq_bk, seq_rt, for_q, ret_rt, ret_nx, sIf, sRet, sRetN, sDrop, sSet, sNew, sNext, sBreak, sCont, sNone, sOwn, sParDD, sParDN, sParNN, putN, bVal, bNot, bAnd, bOr, bYes, eOp, eUn, eC, eVar, eIf, eAnd, eOr, eChain, eTup, eOfN, eCall, eSl, eMinD, nAdd, nSS, eIsi, aNil, aCons, aStar, nLst, nList, nRange, nCall, nLc, nLc2, fCall0, fCall1, fCallS, fCallZ, oIx, oCall, oTuple, oAppend, oExtend, oPop, oEq, ownAt, scLen, scIx, iSeq, iRg1, iRg2, iZip2, iZip3, iZip4, iEnm, putT, putTs, wipeS, noO_d, noO_s, noO_o, noO_n, oNo, oSome, dSl, dAdd_int, dAdd_tup, dAdd_lst, dSub_int, dMul_int, dMul_tup, dMod_int, dDiv_int, dPow_int, dShl_int, dBor_int, dLt_int, dLe_int, dGt_int, dGe_int, dEq_int, dNe_int, dNot_bool, dNeg_int, dBits_int, dIx_lst, dIx_tup, gLen_lst, gLen_tup, gTuple_lst, gTuple_tup, gMax_two, gMin_two, gInt_int, gInt_bool, seqOf_lst, seqOf_tup, dIs_none, dIs_bool, dIsNot_none, dIsNot_bool, same1_int, scV_int, scV_bool, isA_int, isA_tup, isA_str, isA_lst, atI_0, atI_1, atI_2, LIM, ev_guard, ev_some, ev_none, ev_bind, ev_map, turn_nx, turn_ct, turn_bk, turn_rt, ↓ev_eStpU, eStpU, ↓ev_wDc, ↓ev_nKeys, ↓ev_eMinX, wDc, nKeys, eMinX, ↓ev_iZ3, ↓ev_fCallN, iZ3, fCallN, ↓ev_xD, ↓ev_xN, ↓ev_sParX, xNil, xD, xN, sParX, putXs, ↓ev_nST, nST, ↓ev_dIxO, ↓ev_dInO, ↓ev_sDct, ↓ev_wLst, ↓ev_sNewW, ↓ev_sParDW, ↓ev_sParWD, dIxO, dInO, sDct, wDct, wLst, sNewW, sParDW, sParWD, putW, dctAt, h, e]
    exact q _
  · simp [F__law_cell, ↓ev_start, ↓ev_bind, ↓ev_map, ↓ev_eOp, ↓ev_eUn, ↓ev_aCons, ↓ev_aStar, ↓ev_eTup, ↓ev_nLst, ↓ev_eOfN, ↓ev_iSeq, ↓ev_iRg1, ↓ev_iRg2, ↓ev_bVal, ↓ev_bNot, ↓ev_bAnd, ↓ev_bOr, ↓ev_eIf, ↓ev_eAnd, ↓ev_eOr, ↓ev_eChain, ↓ev_sRet, ↓ev_sDrop, ↓ev_sSet, ↓ev_sIf, ↓ev_sNew, ↓ev_nLc, ↓ev_nLc2, ↓ev_fCall0, ↓ev_fCall1, ↓ev_fCallS, ↓ev_oIx, ↓ev_oCall, ↓ev_oTuple, ↓ev_oAppend, ↓ev_oExtend, ↓ev_oPop, ↓ev_sOwn, ↓ev_oEq, ↓ev_eCall, ↓ev_nList, ↓ev_nRange, ↓ev_eIsi, ↓ev_oSome, ↓ev_eSl, ↓ev_scIx, ↓ev_sParDD, ↓ev_sParDN, ↓ev_sParNN, ↓ev_iZip2, ↓ev_fCallZ, ↓ev_iZip3, ↓ev_iZip4, ↓ev_iEnm, ↓ev_nAdd, ↓ev_eMinD, ↓ev_nSS, ↓ev_nCall, ev_fDef, ev_fDefN, ev_seq, ev_sFor, seq_nx, seq_ct, seq_bk, seq_rt, for_q, ret_rt, ret_nx, sIf, sRet, sRetN, sDrop, sSet, sNew, sNext, sBreak, sCont, sNone, sOwn, sParDD, sParDN, sParNN, putN, bVal, bNot, bAnd, bOr, bYes, eOp, eUn, eC, eVar, eIf, eAnd, eOr, eChain, eTup, eOfN, eCall, eSl, eMinD, nAdd, nSS, eIsi, aNil, aCons, aStar, nLst, nList, nRange, nCall, nLc, nLc2, fCall0, fCall1, fCallS, fCallZ, oIx, oCall, oTuple, oAppend, oExtend, oPop, oEq, ownAt, scLen, scIx, iSeq, iRg1, iRg2, iZip2, iZip3, iZip4, iEnm, putT, putTs, wipeS, noO_d, noO_s, noO_o, noO_n, oNo, oSome, dSl, dAdd_int, dAdd_tup, dAdd_lst, dSub_int, dMul_int, dMul_tup, dMod_int, dDiv_int, dPow_int, dShl_int, dBor_int, dLt_int, dLe_int, dGt_int, dGe_int, dEq_int, dNe_int, dNot_bool, dNeg_int, dBits_int, dIx_lst, dIx_tup, gLen_lst, gLen_tup, gTuple_lst, gTuple_tup, gMax_two, gMin_two, gInt_int, gInt_bool, seqOf_lst, seqOf_tup, dIs_none, dIs_bool, dIsNot_none, dIsNot_bool, same1_int, scV_int, scV_bool, isA_int, isA_tup, isA_str, isA_lst, atI_0, atI_1, atI_2, LIM, ev_guard, ev_some, ev_none, ev_bind, ev_map, turn_nx, turn_ct, turn_bk, turn_rt, ↓ev_eStpU, eStpU, ↓ev_wDc, ↓ev_nKeys, ↓ev_eMinX, wDc, nKeys, eMinX, ↓ev_iZ3, ↓ev_fCallN, iZ3, fCallN, ↓ev_xD, ↓ev_xN, ↓ev_sParX, xNil, xD, xN, sParX, putXs, ↓ev_nST, nST, ↓ev_dIxO, ↓ev_dInO, ↓ev_sDct, ↓ev_wLst, ↓ev_sNewW, ↓ev_sParDW, ↓ev_sParWD, dIxO, dInO, sDct, wDct, wLst, sNewW, sParDW, sParWD, putW, dctAt, h]
    exact q _
theorem ev_source {c : Int} {Q : List PyData → Prop} (q : ∀ pen, SupD 0 pen → Q pen) : Ev (F__law_source [.d (.int c)]) Q := by
  simp [F__law_source, ↓ev_start, ↓ev_bind, ↓ev_map, ↓ev_eOp, ↓ev_eUn, ↓ev_aCons, ↓ev_aStar, ↓ev_eTup, ↓ev_nLst, ↓ev_eOfN, ↓ev_iSeq, ↓ev_iRg1, ↓ev_iRg2, ↓ev_bVal, ↓ev_bNot, ↓ev_bAnd, ↓ev_bOr, ↓ev_eIf, ↓ev_eAnd, ↓ev_eOr, ↓ev_eChain, ↓ev_sRet, ↓ev_sDrop, ↓ev_sSet, ↓ev_sIf, ↓ev_sNew, ↓ev_nLc, ↓ev_nLc2, ↓ev_fCall0, ↓ev_fCall1, ↓ev_fCallS, ↓ev_oIx, ↓ev_oCall, ↓ev_oTuple, ↓ev_oAppend, ↓ev_oExtend, ↓ev_oPop, ↓ev_sOwn, ↓ev_oEq, ↓ev_eCall, ↓ev_nList, ↓ev_nRange, ↓ev_eIsi, ↓ev_oSome, ↓ev_eSl, ↓ev_scIx, ↓ev_sParDD, ↓ev_sParDN, ↓ev_sParNN, ↓ev_iZip2, ↓ev_fCallZ, ↓ev_iZip3, ↓ev_iZip4, ↓ev_iEnm, ↓ev_nAdd, ↓ev_eMinD, ↓ev_nSS, ↓ev_nCall, ev_fDef, ev_fDefN, ev_seq, ev_sFor, seq_nx, seq_ct, seq_bk, seq_rt, for_q, ret_rt, ret_nx, sIf, sRet, sRetN, sDrop, sSet, sNew, sNext, sBreak, sCont, sNone, sOwn, sParDD, sParDN, sParNN, putN, bVal, bNot, bAnd, bOr, bYes, eOp, eUn, eC, eVar, eIf, eAnd, eOr, eChain, eTup, eOfN, eCall, eSl, eMinD, nAdd, nSS, eIsi, aNil, aCons, aStar, nLst, nList, nRange, nCall, nLc, nLc2, fCall0, fCall1, fCallS, fCallZ, oIx, oCall, oTuple, oAppend, oExtend, oPop, oEq, ownAt, scLen, scIx, iSeq, iRg1, iRg2, iZip2, iZip3, iZip4, iEnm, putT, putTs, wipeS, noO_d, noO_s, noO_o, noO_n, oNo, oSome, dSl, dAdd_int, dAdd_tup, dAdd_lst, dSub_int, dMul_int, dMul_tup, dMod_int, dDiv_int, dPow_int, dShl_int, dBor_int, dLt_int, dLe_int, dGt_int, dGe_int, dEq_int, dNe_int, dNot_bool, dNeg_int, dBits_int, dIx_lst, dIx_tup, gLen_lst, gLen_tup, gTuple_lst, gTuple_tup, gMax_two, gMin_two, gInt_int, gInt_bool, seqOf_lst, seqOf_tup, dIs_none, dIs_bool, dIsNot_none, dIsNot_bool, same1_int, scV_int, scV_bool, isA_int, isA_tup, isA_str, isA_lst, atI_0, atI_1, atI_2, LIM, ev_guard, ev_some, ev_none, ev_bind, ev_map, turn_nx, turn_ct, turn_bk, turn_rt, ↓ev_eStpU, eStpU, ↓ev_wDc, ↓ev_nKeys, ↓ev_eMinX, wDc, nKeys, eMinX, ↓ev_iZ3, ↓ev_fCallN, iZ3, fCallN, ↓ev_xD, ↓ev_xN, ↓ev_sParX, xNil, xD, xN, sParX, putXs, ↓ev_nST, nST, ↓ev_dIxO, ↓ev_dInO, ↓ev_sDct, ↓ev_wLst, ↓ev_sNewW, ↓ev_sParDW, ↓ev_sParWD, dIxO, dInO, sDct, wDct, wLst, sNewW, sParDW, sParWD, putW, dctAt]
  have h0 := Int.emod_nonneg c (show (2147483629 : Int) ≠ 0 by decide)
  have h1 := Int.emod_lt_of_pos c (show (0 : Int) < 2147483629 by decide)
  refine q _ ⟨_, _, 0, rfl, ?_, ?_, ?_, by omega, by omega⟩
  · split <;> omega
  · omega
  · omega
end MP
namespace MP
open PySem PySem.Spec PyProof.Rows L2 RL

/-! ### what is told and what is due are shown alike -/
theorem dEq_str (x : Str) : dEq (.str x) (.str x) = some (.bool true) := by
  unfold dEq
  have h : PyData.eqv (.str x) (.str x) = true := by simp [PyData.eqv]
  rw [h]
  rfl
theorem dNe_str (x : Str) : dNe (.str x) (.str x) = some (.bool false) := by
  unfold dNe
  have h : PyData.eqv (.str x) (.str x) = true := by simp [PyData.eqv]
  rw [h]
  rfl
theorem gRepr_of {d : PyData} (h : fitsB d = true) : gRepr [d] = some (.str d.shown) := if_pos h
/-- plain data of small depth and weight -/
def Fz (d : PyData) (n w : Nat) : Prop := plainD d = true ∧ d.depth ≤ n ∧ wt d ≤ w
def FzAll (ds : List PyData) (n w : Nat) : Prop := plainAll ds = true ∧ PyData.depthAll ds ≤ n ∧ wtAll ds ≤ w
theorem FzAll.nil {n w : Nat} : FzAll [] n w := ⟨rfl, Nat.zero_le _, Nat.zero_le _⟩
theorem FzAll.cons {d : PyData} {ds : List PyData} {n w v : Nat} (h : Fz d n w) (hs : FzAll ds n v) : FzAll (d :: ds) n (w + 2 + v) := by
  refine ⟨?_, ?_, ?_⟩
  · show (plainD d && plainAll ds) = true
    rw [h.1, hs.1]; rfl
  · show max d.depth (PyData.depthAll ds) ≤ n
    have := h.2.1; have := hs.2.1; omega
  · show wt d + 2 + wtAll ds ≤ _
    have := h.2.2; have := hs.2.2; omega
theorem FzAll.list {ds : List PyData} {n w : Nat} (h : FzAll ds n w) : Fz (.list ds) (n + 1) (w + 3) := ⟨h.1, Nat.succ_le_succ h.2.1, Nat.add_le_add_right h.2.2 3⟩
theorem FzAll.tuple {ds : List PyData} {n w : Nat} (h : FzAll ds n w) : Fz (.tuple ds) (n + 1) (w + 3) := ⟨h.1, Nat.succ_le_succ h.2.1, Nat.add_le_add_right h.2.2 3⟩
theorem FzAll.map {α : Type} {f : α → PyData} {n w : Nat} : ∀ {xs : List α}, (∀ x ∈ xs, Fz (f x) n w) → FzAll (xs.map f) n ((w + 2) * xs.length)
  | [], _ => ⟨rfl, Nat.zero_le _, Nat.zero_le _⟩
  | x :: xs, h => by
    have h1 := FzAll.cons (h x List.mem_cons_self) (FzAll.map (xs := xs) fun y hy => h y (List.mem_cons_of_mem _ hy))
    refine ⟨h1.1, h1.2.1, Nat.le_trans h1.2.2 ?_⟩
    rw [List.length_cons, Nat.mul_succ]
    omega
theorem Fz.mono {d : PyData} {n w m v : Nat} (h : Fz d n w) (h1 : n ≤ m) (h2 : w ≤ v) : Fz d m v := ⟨h.1, Nat.le_trans h.2.1 h1, Nat.le_trans h.2.2 h2⟩
theorem Fz.fits {d : PyData} {n w : Nat} (h : Fz d n w) (hd : isDisplay d = true) (h1 : n ≤ 50) (h2 : w ≤ 1000000) : fitsB d = true := fits_B hd h.1 (Nat.le_trans h.2.1 h1) (Nat.le_trans h.2.2 h2)
theorem fz_bool (b : Bool) : Fz (.bool b) 0 10 := ⟨rfl, Nat.le_refl _, by cases b <;> decide⟩
theorem fz_eT {ns : List Nat} (h : ∀ n ∈ ns, n < 2 ^ 30) : Fz (eT ns) 1 (34 * ns.length + 3) := ⟨(wt_eT h).1, Nat.le_of_eq (depth_eT ns), (wt_eT h).2⟩
theorem fz_eS {S : List Att} (ok : SchOk S) : Fz (eS S) 4 4000 := ⟨(wt_eS ok).1, (wt_eS ok).2.2, (wt_eS ok).2.1⟩
theorem fz_eA {a : Att} (ok : AttOk a) : Fz (eA a) 3 1000 := ⟨(wt_eA ok).1, (wt_eA ok).2.2, (wt_eA ok).2.1⟩
theorem zip_small {S : List Att} {r q : List Nat} (ok : SchOk S) (h : RollOk S r) (h2 : RollOk S q) : ∀ p ∈ r.zip q, p.1 ≤ 3 ∧ p.2 ≤ 3 := by
  intro p hp
  have := List.of_mem_zip hp
  exact ⟨roll_le ok h _ this.1, roll_le ok h2 _ this.2⟩
/-! ### the law's turns -/
abbrev Gb (ys : List (Option Sl)) : Prop := ys.all (noO 0) = true
theorem law_count (ns : List Int) : ∃ n : Nat, (if 1 < (if (3 : Int) < (ns.length : Int) then (3 : Int) else (ns.length : Int)) then (if (3 : Int) < (ns.length : Int) then (3 : Int) else (ns.length : Int)) else 1) = (n : Int) ∧ n ≤ 3 := by
  by_cases h : (3 : Int) < (ns.length : Int)
  · exact ⟨3, by rw [if_pos h]; rfl, by omega⟩
  · by_cases h1 : ns.length > 1
    · exact ⟨ns.length, by rw [if_neg h, if_pos (by omega)], by omega⟩
    · exact ⟨1, by rw [if_neg h, if_neg (by omega)]; rfl, by omega⟩
def maxN2 (p : Nat × Nat) : Nat := if p.1 < p.2 then p.2 else p.1
theorem zip_get {α β : Type} {xs : List α} {ys : List β} {i : Nat} {x : α} {y : β} (h1 : xs[i]? = some x) (h2 : ys[i]? = some y) : (xs.zip ys)[i]? = some (x, y) := List.getElem?_zip_eq_some.mpr ⟨h1, h2⟩
/-- the greater levels are a rollup that one is as fine as -/
theorem up_ok {S : List Att} {r q : List Nat} (h : RollOk S r) (h2 : RollOk S q) : RollOk S ((r.zip q).map maxN2) ∧ ∀ (i l t : Nat), r[i]? = some l → ((r.zip q).map maxN2)[i]? = some t → l ≤ t := by
  have hl := h.1.trans h2.1.symm
  refine ⟨⟨by rw [List.length_map, List.length_zip, h.1, h2.1, Nat.min_self], fun i a l ha hl2 => ?_⟩, fun i l t hr ht => ?_⟩
  · obtain ⟨p, hp, rfl⟩ := get_map hl2
    obtain ⟨e1, e2⟩ := List.getElem?_zip_eq_some.mp hp
    have b1 := h.2 i a _ ha e1
    have b2 := h2.2 i a _ ha e2
    unfold maxN2
    split <;> omega
  · obtain ⟨p, hp, rfl⟩ := get_map ht
    obtain ⟨e1, e2⟩ := List.getElem?_zip_eq_some.mp hp
    rw [hr] at e1
    have := Option.some.inj e1
    unfold maxN2
    split <;> omega
/-! ### equal tuples, any of bools -/
theorem plain_eN (ns : List Nat) : PyData.plainAll (ns.map eN) = true := by
  induction ns with
  | nil => rfl
  | cons n r ih => show (true && PyData.plainAll (r.map eN)) = true; rw [ih]; rfl
theorem plain_eT (r : List Nat) : (eT r).plain = true := plain_eN r
theorem plain_all {α : Type} {f : α → PyData} {xs : List α} (h : ∀ x ∈ xs, (f x).plain = true) : PyData.plainAll (xs.map f) = true := by
  induction xs with
  | nil => rfl
  | cons x r ih =>
    show ((f x).plain && PyData.plainAll (r.map f)) = true
    rw [h x List.mem_cons_self, ih fun y hy => h y (List.mem_cons_of_mem _ hy)]
    rfl
theorem dEq_eT (a b : List Nat) : dEq (eT a) (eT b) = some (.bool (decide (a = b))) := by
  unfold dEq
  rw [plain_eT, plain_eT, depth_eT, depth_eT, eT_eqv]
  rfl
theorem dNe_eT (a b : List Nat) : dNe (eT a) (eT b) = some (.bool (!decide (a = b))) := by
  unfold dNe
  rw [plain_eT, plain_eT, depth_eT, depth_eT, eT_eqv]
  rfl
theorem gAny_bools (bs : List Bool) : gAny [.list (bs.map .bool)] = some (.bool (bs.any id)) := by
  have h1 : PyData.plainAll (bs.map .bool) = true := plain_all fun _ _ => rfl
  have h2 : (bs.map PyData.bool).all fits63b = true := by
    rw [List.all_eq_true]
    intro d hd
    obtain ⟨b, _, rfl⟩ := List.mem_map.mp hd
    rfl
  show (if PyData.plainAll (bs.map .bool) && (bs.map PyData.bool).all fits63b then some (PyData.bool ((bs.map PyData.bool).any PyData.truthy)) else none) = _
  rw [h1, h2]
  have h3 : (bs.map PyData.bool).any PyData.truthy = bs.any id := by
    rw [List.any_map]
    rfl
  rw [h3]
  rfl
theorem eq_nil {xs : List PyData} (h : PyData.plainAll xs = true) : dEq (.list xs) (.list []) = some (.bool xs.isEmpty) := by
  unfold dEq
  have h1 : (PyData.list xs).plain = true := h
  have h2 : (PyData.list []).plain = true := rfl
  have h3 : min (PyData.list xs).depth (PyData.list []).depth ≤ 60 := Nat.le_trans (Nat.min_le_right _ _) (by decide)
  rw [h1, h2, decide_eq_true h3]
  cases xs <;> rfl
theorem neq_nil {xs : List PyData} (h : PyData.plainAll xs = true) : dNe (.list xs) (.list []) = some (.bool (!xs.isEmpty)) := by
  unfold dNe
  have h1 : (PyData.list xs).plain = true := h
  have h2 : (PyData.list []).plain = true := rfl
  have h3 : min (PyData.list xs).depth (PyData.list []).depth ≤ 60 := Nat.le_trans (Nat.min_le_right _ _) (by decide)
  rw [h1, h2, decide_eq_true h3]
  cases xs <;> rfl
theorem flat_filter2 {α : Type} (f : α → PyData) (p : α → Bool) : ∀ xs : List α, (xs.flatMap fun r => if p r = true then [f r] else []) = (xs.filter p).map f
  | [] => rfl
  | x :: xs => by
    rw [List.flatMap_cons, flat_filter2 f p xs, List.filter_cons]
    cases p x <;> simp
/-! ### slots that hold no list of one's own -/
def plB : Option Sl → Bool
  | some (.o _) => false
  | _ => true
theorem plB_d (x : PyData) : plB (some (.d x)) = true := rfl
theorem plB_n : plB none = true := rfl
theorem noO_pl {y : Option Sl} {k : Nat} (h : plB y = true) : noO k y = true := by
  cases y with
  | none => rfl
  | some s =>
    cases s with
    | o j => cases h
    | d x => rfl
    | s ns => rfl
end MP
namespace MP
open PySem PySem.Spec PyProof.Rows L2 RL

/-! ### the examples, evaluated -/
def yesB : Option (PyData × Sto) → Bool
  | some (.bool true, []) => true
  | _ => false
theorem yes_of {o : Option (PyData × Sto)} (h : yesB o = true) : o = some (.bool true, []) := by
  unfold yesB at h
  split at h
  · rfl
  · cases h
theorem sm1 : F_needed [.d (.tuple [.tuple [.int 3, .tuple []]]), .d (.tuple [.tuple [.int 0], .tuple [.int 0]])] [] = some (.tuple [.tuple [.int 0]], []) := by kernel_rfl
theorem sm2 : F_cost [.d (.tuple [.tuple [.int 3, .tuple []]]), .d (.tuple [.tuple [.int 0]]), .d (.tuple [.tuple [.int 0], .tuple [.int 0]])] [] = some (.int 6, []) := by kernel_rfl
theorem sm3 : F_best [.d (.tuple [.tuple [.int 3, .tuple []]]), .d (.tuple []), .d (.tuple [.tuple [.int 0]]), .d (.int 1)] [] = some (.tuple [.int 3, .tuple [.tuple [.int 0]]], []) := by kernel_rfl
theorem sm4 : F_best [.d (.tuple [.tuple [.int 3, .tuple []]]), .d (.tuple []), .d (.tuple []), .d (.int 2)] [] = some (.none, []) := by kernel_rfl
theorem sm5 : F_best [.d (.tuple [.tuple [.int 2, .tuple [.tuple [.int 0, .int 0]]]]), .d (.tuple []), .d (.tuple [.tuple [.int 1]]), .d (.int 1)] [] = some (.tuple [.int 1, .tuple [.tuple [.int 1]]], []) := by kernel_rfl
theorem sm6 : F_best [.d (.tuple [.tuple [.int 2, .tuple [.tuple [.int 0, .int 0]]]]), .d (.tuple [.tuple [.int 1]]), .d (.tuple [.tuple [.int 1]]), .d (.int 1)] [] = some (.tuple [.int 1, .tuple [.tuple [.int 0]]], []) := by kernel_rfl
theorem sm7 : F_best [.d (.tuple [.tuple [.int 2, .tuple [.tuple [.int 0, .int 0]]]]), .d (.tuple []), .d (.tuple [.tuple [.int 0], .tuple [.int 1]]), .d (.int 2)] [] = some (.tuple [.int 3, .tuple [.tuple [.int 0], .tuple [.int 1]]], []) := by kernel_rfl
theorem sm8 : F_needed [.d (.tuple [.tuple [.int 2, .tuple [.tuple [.int 0, .int 0]]]]), .d (.tuple [])] [] = some (.tuple [], []) := by kernel_rfl
theorem eq1 : F__law_is_equal [.d (.list [.tuple [.tuple [.int 0]], .int 6, .tuple [.int 3, .tuple [.tuple [.int 0]]], .none]), .d (.list [.tuple [.tuple [.int 0]], .int 6, .tuple [.int 3, .tuple [.tuple [.int 0]]], .none])] [] = some (.bool true, []) := by kernel_rfl
theorem eq2 : F__law_is_equal [.d (.list [.tuple [.int 1, .tuple [.tuple [.int 1]]], .tuple [.int 1, .tuple [.tuple [.int 0]]], .tuple [.int 3, .tuple [.tuple [.int 0], .tuple [.int 1]]], .tuple []]), .d (.list [.tuple [.int 1, .tuple [.tuple [.int 1]]], .tuple [.int 1, .tuple [.tuple [.int 0]]], .tuple [.int 3, .tuple [.tuple [.int 0], .tuple [.int 1]]], .tuple []])] [] = some (.bool true, []) := by kernel_rfl
theorem ok_small : F__law_small_right [] [] = some (.bool true, []) := by
  refine of_ev ?_
  simp [F__law_small_right, ↓ev_start, ↓ev_bind, ↓ev_map, ↓ev_eOp, ↓ev_eUn, ↓ev_aCons, ↓ev_aStar, ↓ev_eTup, ↓ev_nLst, ↓ev_eOfN, ↓ev_iSeq, ↓ev_iRg1, ↓ev_iRg2, ↓ev_bVal, ↓ev_bNot, ↓ev_bAnd, ↓ev_bOr, ↓ev_eIf, ↓ev_eAnd, ↓ev_eOr, ↓ev_eChain, ↓ev_sRet, ↓ev_sDrop, ↓ev_sSet, ↓ev_sIf, ↓ev_sNew, ↓ev_nLc, ↓ev_nLc2, ↓ev_fCall0, ↓ev_fCall1, ↓ev_fCallS, ↓ev_oIx, ↓ev_oCall, ↓ev_oTuple, ↓ev_oAppend, ↓ev_oExtend, ↓ev_oPop, ↓ev_sOwn, ↓ev_oEq, ↓ev_eCall, ↓ev_nList, ↓ev_nRange, ↓ev_eIsi, ↓ev_oSome, ↓ev_eSl, ↓ev_scIx, ↓ev_sParDD, ↓ev_sParDN, ↓ev_sParNN, ↓ev_iZip2, ↓ev_fCallZ, ↓ev_iZip3, ↓ev_iZip4, ↓ev_iEnm, ↓ev_nAdd, ↓ev_eMinD, ↓ev_nSS, ↓ev_nCall, ev_fDef, ev_fDefN, ev_seq, ev_sFor, seq_nx, seq_ct, seq_bk, seq_rt, for_q, ret_rt, ret_nx, sIf, sRet, sRetN, sDrop, sSet, sNew, sNext, sBreak, sCont, sNone, sOwn, sParDD, sParDN, sParNN, putN, bVal, bNot, bAnd, bOr, bYes, eOp, eUn, eC, eVar, eIf, eAnd, eOr, eChain, eTup, eOfN, eCall, eSl, eMinD, nAdd, nSS, eIsi, aNil, aCons, aStar, nLst, nList, nRange, nCall, nLc, nLc2, fCall0, fCall1, fCallS, fCallZ, oIx, oCall, oTuple, oAppend, oExtend, oPop, oEq, ownAt, scLen, scIx, iSeq, iRg1, iRg2, iZip2, iZip3, iZip4, iEnm, putT, putTs, wipeS, noO_d, noO_s, noO_o, noO_n, oNo, oSome, dSl, dAdd_int, dAdd_tup, dAdd_lst, dSub_int, dMul_int, dMul_tup, dMod_int, dDiv_int, dPow_int, dShl_int, dBor_int, dLt_int, dLe_int, dGt_int, dGe_int, dEq_int, dNe_int, dNot_bool, dNeg_int, dBits_int, dIx_lst, dIx_tup, gLen_lst, gLen_tup, gTuple_lst, gTuple_tup, gMax_two, gMin_two, gInt_int, gInt_bool, seqOf_lst, seqOf_tup, dIs_none, dIs_bool, dIsNot_none, dIsNot_bool, same1_int, scV_int, scV_bool, isA_int, isA_tup, isA_str, isA_lst, atI_0, atI_1, atI_2, LIM, ev_guard, ev_some, ev_none, ev_bind, ev_map, turn_nx, turn_ct, turn_bk, turn_rt, ↓ev_eStpU, eStpU, ↓ev_wDc, ↓ev_nKeys, ↓ev_eMinX, wDc, nKeys, eMinX, ↓ev_iZ3, ↓ev_fCallN, iZ3, fCallN, ↓ev_xD, ↓ev_xN, ↓ev_sParX, xNil, xD, xN, sParX, putXs, ↓ev_nST, nST, ↓ev_dIxO, ↓ev_dInO, ↓ev_sDct, ↓ev_wLst, ↓ev_sNewW, ↓ev_sParDW, ↓ev_sParWD, dIxO, dInO, sDct, wDct, wLst, sNewW, sParDW, sParWD, putW, dctAt, sm1, sm2, sm3, sm4, sm5, sm6, sm7, sm8, eq1, eq2]
theorem ok_first0 : F__law_first_right [.d (.int 0)] [] = some (.bool true, []) := yes_of (by decide +kernel)
theorem ok_first1 : F__law_first_right [.d (.int 1)] [] = some (.bool true, []) := yes_of (by decide +kernel)
theorem ok_first : ∀ d : Nat, d < 2 → F__law_first_right [.d (.int (d : Int))] [] = some (.bool true, []) := by
  intro d hd
  have hw : d = 0 ∨ d = 1 := by omega
  rcases hw with rfl | rfl
  · exact ok_first0
  · exact ok_first1
/-! ### the law -/
def T1I (ns : List Int) (i : Nat) (ρ : Slots) (so : Sto) : Prop := ∃ y1 : Option Sl, ρ = [some (.s ns), y1] ∧ so = []
theorem law_true (ns : List Int) (_ : ns.length ≤ 63) : F_law [.s ns] [] = some (.bool true, []) := by
  refine of_ev ?_
  obtain ⟨n, hn, h3⟩ := law_count ns
  simp [F_law, ↓ev_start, ↓ev_bind, ↓ev_map, ↓ev_eOp, ↓ev_eUn, ↓ev_aCons, ↓ev_aStar, ↓ev_eTup, ↓ev_nLst, ↓ev_eOfN, ↓ev_iSeq, ↓ev_iRg1, ↓ev_iRg2, ↓ev_bVal, ↓ev_bNot, ↓ev_bAnd, ↓ev_bOr, ↓ev_eIf, ↓ev_eAnd, ↓ev_eOr, ↓ev_eChain, ↓ev_sRet, ↓ev_sDrop, ↓ev_sSet, ↓ev_sIf, ↓ev_sNew, ↓ev_nLc, ↓ev_nLc2, ↓ev_fCall0, ↓ev_fCall1, ↓ev_fCallS, ↓ev_oIx, ↓ev_oCall, ↓ev_oTuple, ↓ev_oAppend, ↓ev_oExtend, ↓ev_oPop, ↓ev_sOwn, ↓ev_oEq, ↓ev_eCall, ↓ev_nList, ↓ev_nRange, ↓ev_eIsi, ↓ev_oSome, ↓ev_eSl, ↓ev_scIx, ↓ev_sParDD, ↓ev_sParDN, ↓ev_sParNN, ↓ev_iZip2, ↓ev_fCallZ, ↓ev_iZip3, ↓ev_iZip4, ↓ev_iEnm, ↓ev_nAdd, ↓ev_eMinD, ↓ev_nSS, ↓ev_nCall, ev_fDef, ev_fDefN, ev_seq, ev_sFor, seq_nx, seq_ct, seq_bk, seq_rt, for_q, ret_rt, ret_nx, sIf, sRet, sRetN, sDrop, sSet, sNew, sNext, sBreak, sCont, sNone, sOwn, sParDD, sParDN, sParNN, putN, bVal, bNot, bAnd, bOr, bYes, eOp, eUn, eC, eVar, eIf, eAnd, eOr, eChain, eTup, eOfN, eCall, eSl, eMinD, nAdd, nSS, eIsi, aNil, aCons, aStar, nLst, nList, nRange, nCall, nLc, nLc2, fCall0, fCall1, fCallS, fCallZ, oIx, oCall, oTuple, oAppend, oExtend, oPop, oEq, ownAt, scLen, scIx, iSeq, iRg1, iRg2, iZip2, iZip3, iZip4, iEnm, putT, putTs, wipeS, noO_d, noO_s, noO_o, noO_n, oNo, oSome, dSl, dAdd_int, dAdd_tup, dAdd_lst, dSub_int, dMul_int, dMul_tup, dMod_int, dDiv_int, dPow_int, dShl_int, dBor_int, dLt_int, dLe_int, dGt_int, dGe_int, dEq_int, dNe_int, dNot_bool, dNeg_int, dBits_int, dIx_lst, dIx_tup, gLen_lst, gLen_tup, gTuple_lst, gTuple_tup, gMax_two, gMin_two, gInt_int, gInt_bool, seqOf_lst, seqOf_tup, dIs_none, dIs_bool, dIsNot_none, dIsNot_bool, same1_int, scV_int, scV_bool, isA_int, isA_tup, isA_str, isA_lst, atI_0, atI_1, atI_2, LIM, ev_guard, ev_some, ev_none, ev_bind, ev_map, turn_nx, turn_ct, turn_bk, turn_rt, ↓ev_eStpU, eStpU, ↓ev_wDc, ↓ev_nKeys, ↓ev_eMinX, wDc, nKeys, eMinX, ↓ev_iZ3, ↓ev_fCallN, iZ3, fCallN, ↓ev_xD, ↓ev_xN, ↓ev_sParX, xNil, xD, xN, sParX, putXs, ↓ev_nST, nST, ↓ev_dIxO, ↓ev_dInO, ↓ev_sDct, ↓ev_wLst, ↓ev_sNewW, ↓ev_sParDW, ↓ev_sParWD, dIxO, dInO, sDct, wDct, wLst, sNewW, sParDW, sParWD, putW, dctAt]
  rw [hn]
  refine ⟨by omega, ?_⟩
  rw [Int.toNat_natCast]
  refine ev_forN (T1I ns) ⟨none, rfl, rfl⟩ ?_ ?_
  · rintro i ρ so hi ⟨y1, rfl, rfl⟩
    simp [B_law_1, ↓ev_start, ↓ev_bind, ↓ev_map, ↓ev_eOp, ↓ev_eUn, ↓ev_aCons, ↓ev_aStar, ↓ev_eTup, ↓ev_nLst, ↓ev_eOfN, ↓ev_iSeq, ↓ev_iRg1, ↓ev_iRg2, ↓ev_bVal, ↓ev_bNot, ↓ev_bAnd, ↓ev_bOr, ↓ev_eIf, ↓ev_eAnd, ↓ev_eOr, ↓ev_eChain, ↓ev_sRet, ↓ev_sDrop, ↓ev_sSet, ↓ev_sIf, ↓ev_sNew, ↓ev_nLc, ↓ev_nLc2, ↓ev_fCall0, ↓ev_fCall1, ↓ev_fCallS, ↓ev_oIx, ↓ev_oCall, ↓ev_oTuple, ↓ev_oAppend, ↓ev_oExtend, ↓ev_oPop, ↓ev_sOwn, ↓ev_oEq, ↓ev_eCall, ↓ev_nList, ↓ev_nRange, ↓ev_eIsi, ↓ev_oSome, ↓ev_eSl, ↓ev_scIx, ↓ev_sParDD, ↓ev_sParDN, ↓ev_sParNN, ↓ev_iZip2, ↓ev_fCallZ, ↓ev_iZip3, ↓ev_iZip4, ↓ev_iEnm, ↓ev_nAdd, ↓ev_eMinD, ↓ev_nSS, ↓ev_nCall, ev_fDef, ev_fDefN, ev_seq, ev_sFor, seq_nx, seq_ct, seq_bk, seq_rt, for_q, ret_rt, ret_nx, sIf, sRet, sRetN, sDrop, sSet, sNew, sNext, sBreak, sCont, sNone, sOwn, sParDD, sParDN, sParNN, putN, bVal, bNot, bAnd, bOr, bYes, eOp, eUn, eC, eVar, eIf, eAnd, eOr, eChain, eTup, eOfN, eCall, eSl, eMinD, nAdd, nSS, eIsi, aNil, aCons, aStar, nLst, nList, nRange, nCall, nLc, nLc2, fCall0, fCall1, fCallS, fCallZ, oIx, oCall, oTuple, oAppend, oExtend, oPop, oEq, ownAt, scLen, scIx, iSeq, iRg1, iRg2, iZip2, iZip3, iZip4, iEnm, putT, putTs, wipeS, noO_d, noO_s, noO_o, noO_n, oNo, oSome, dSl, dAdd_int, dAdd_tup, dAdd_lst, dSub_int, dMul_int, dMul_tup, dMod_int, dDiv_int, dPow_int, dShl_int, dBor_int, dLt_int, dLe_int, dGt_int, dGe_int, dEq_int, dNe_int, dNot_bool, dNeg_int, dBits_int, dIx_lst, dIx_tup, gLen_lst, gLen_tup, gTuple_lst, gTuple_tup, gMax_two, gMin_two, gInt_int, gInt_bool, seqOf_lst, seqOf_tup, dIs_none, dIs_bool, dIsNot_none, dIsNot_bool, same1_int, scV_int, scV_bool, isA_int, isA_tup, isA_str, isA_lst, atI_0, atI_1, atI_2, LIM, ev_guard, ev_some, ev_none, ev_bind, ev_map, turn_nx, turn_ct, turn_bk, turn_rt, ↓ev_eStpU, eStpU, ↓ev_wDc, ↓ev_nKeys, ↓ev_eMinX, wDc, nKeys, eMinX, ↓ev_iZ3, ↓ev_fCallN, iZ3, fCallN, ↓ev_xD, ↓ev_xN, ↓ev_sParX, xNil, xD, xN, sParX, putXs, ↓ev_nST, nST, ↓ev_dIxO, ↓ev_dInO, ↓ev_sDct, ↓ev_wLst, ↓ev_sNewW, ↓ev_sParDW, ↓ev_sParWD, dIxO, dInO, sDct, wDct, wLst, sNewW, sParDW, sParWD, putW, dctAt]
    refine ev_cell2 fun c => ?_
    simp [↓ev_start, ↓ev_bind, ↓ev_map, ↓ev_eOp, ↓ev_eUn, ↓ev_aCons, ↓ev_aStar, ↓ev_eTup, ↓ev_nLst, ↓ev_eOfN, ↓ev_iSeq, ↓ev_iRg1, ↓ev_iRg2, ↓ev_bVal, ↓ev_bNot, ↓ev_bAnd, ↓ev_bOr, ↓ev_eIf, ↓ev_eAnd, ↓ev_eOr, ↓ev_eChain, ↓ev_sRet, ↓ev_sDrop, ↓ev_sSet, ↓ev_sIf, ↓ev_sNew, ↓ev_nLc, ↓ev_nLc2, ↓ev_fCall0, ↓ev_fCall1, ↓ev_fCallS, ↓ev_oIx, ↓ev_oCall, ↓ev_oTuple, ↓ev_oAppend, ↓ev_oExtend, ↓ev_oPop, ↓ev_sOwn, ↓ev_oEq, ↓ev_eCall, ↓ev_nList, ↓ev_nRange, ↓ev_eIsi, ↓ev_oSome, ↓ev_eSl, ↓ev_scIx, ↓ev_sParDD, ↓ev_sParDN, ↓ev_sParNN, ↓ev_iZip2, ↓ev_fCallZ, ↓ev_iZip3, ↓ev_iZip4, ↓ev_iEnm, ↓ev_nAdd, ↓ev_eMinD, ↓ev_nSS, ↓ev_nCall, ev_fDef, ev_fDefN, ev_seq, ev_sFor, seq_nx, seq_ct, seq_bk, seq_rt, for_q, ret_rt, ret_nx, sIf, sRet, sRetN, sDrop, sSet, sNew, sNext, sBreak, sCont, sNone, sOwn, sParDD, sParDN, sParNN, putN, bVal, bNot, bAnd, bOr, bYes, eOp, eUn, eC, eVar, eIf, eAnd, eOr, eChain, eTup, eOfN, eCall, eSl, eMinD, nAdd, nSS, eIsi, aNil, aCons, aStar, nLst, nList, nRange, nCall, nLc, nLc2, fCall0, fCall1, fCallS, fCallZ, oIx, oCall, oTuple, oAppend, oExtend, oPop, oEq, ownAt, scLen, scIx, iSeq, iRg1, iRg2, iZip2, iZip3, iZip4, iEnm, putT, putTs, wipeS, noO_d, noO_s, noO_o, noO_n, oNo, oSome, dSl, dAdd_int, dAdd_tup, dAdd_lst, dSub_int, dMul_int, dMul_tup, dMod_int, dDiv_int, dPow_int, dShl_int, dBor_int, dLt_int, dLe_int, dGt_int, dGe_int, dEq_int, dNe_int, dNot_bool, dNeg_int, dBits_int, dIx_lst, dIx_tup, gLen_lst, gLen_tup, gTuple_lst, gTuple_tup, gMax_two, gMin_two, gInt_int, gInt_bool, seqOf_lst, seqOf_tup, dIs_none, dIs_bool, dIsNot_none, dIsNot_bool, same1_int, scV_int, scV_bool, isA_int, isA_tup, isA_str, isA_lst, atI_0, atI_1, atI_2, LIM, ev_guard, ev_some, ev_none, ev_bind, ev_map, turn_nx, turn_ct, turn_bk, turn_rt, ↓ev_eStpU, eStpU, ↓ev_wDc, ↓ev_nKeys, ↓ev_eMinX, wDc, nKeys, eMinX, ↓ev_iZ3, ↓ev_fCallN, iZ3, fCallN, ↓ev_xD, ↓ev_xN, ↓ev_sParX, xNil, xD, xN, sParX, putXs, ↓ev_nST, nST, ↓ev_dIxO, ↓ev_dInO, ↓ev_sDct, ↓ev_wLst, ↓ev_sNewW, ↓ev_sParDW, ↓ev_sParWD, dIxO, dInO, sDct, wDct, wLst, sNewW, sParDW, sParWD, putW, dctAt]
    refine ev_source fun pen hp => ?_
    simp [↓ev_start, ↓ev_bind, ↓ev_map, ↓ev_eOp, ↓ev_eUn, ↓ev_aCons, ↓ev_aStar, ↓ev_eTup, ↓ev_nLst, ↓ev_eOfN, ↓ev_iSeq, ↓ev_iRg1, ↓ev_iRg2, ↓ev_bVal, ↓ev_bNot, ↓ev_bAnd, ↓ev_bOr, ↓ev_eIf, ↓ev_eAnd, ↓ev_eOr, ↓ev_eChain, ↓ev_sRet, ↓ev_sDrop, ↓ev_sSet, ↓ev_sIf, ↓ev_sNew, ↓ev_nLc, ↓ev_nLc2, ↓ev_fCall0, ↓ev_fCall1, ↓ev_fCallS, ↓ev_oIx, ↓ev_oCall, ↓ev_oTuple, ↓ev_oAppend, ↓ev_oExtend, ↓ev_oPop, ↓ev_sOwn, ↓ev_oEq, ↓ev_eCall, ↓ev_nList, ↓ev_nRange, ↓ev_eIsi, ↓ev_oSome, ↓ev_eSl, ↓ev_scIx, ↓ev_sParDD, ↓ev_sParDN, ↓ev_sParNN, ↓ev_iZip2, ↓ev_fCallZ, ↓ev_iZip3, ↓ev_iZip4, ↓ev_iEnm, ↓ev_nAdd, ↓ev_eMinD, ↓ev_nSS, ↓ev_nCall, ev_fDef, ev_fDefN, ev_seq, ev_sFor, seq_nx, seq_ct, seq_bk, seq_rt, for_q, ret_rt, ret_nx, sIf, sRet, sRetN, sDrop, sSet, sNew, sNext, sBreak, sCont, sNone, sOwn, sParDD, sParDN, sParNN, putN, bVal, bNot, bAnd, bOr, bYes, eOp, eUn, eC, eVar, eIf, eAnd, eOr, eChain, eTup, eOfN, eCall, eSl, eMinD, nAdd, nSS, eIsi, aNil, aCons, aStar, nLst, nList, nRange, nCall, nLc, nLc2, fCall0, fCall1, fCallS, fCallZ, oIx, oCall, oTuple, oAppend, oExtend, oPop, oEq, ownAt, scLen, scIx, iSeq, iRg1, iRg2, iZip2, iZip3, iZip4, iEnm, putT, putTs, wipeS, noO_d, noO_s, noO_o, noO_n, oNo, oSome, dSl, dAdd_int, dAdd_tup, dAdd_lst, dSub_int, dMul_int, dMul_tup, dMod_int, dDiv_int, dPow_int, dShl_int, dBor_int, dLt_int, dLe_int, dGt_int, dGe_int, dEq_int, dNe_int, dNot_bool, dNeg_int, dBits_int, dIx_lst, dIx_tup, gLen_lst, gLen_tup, gTuple_lst, gTuple_tup, gMax_two, gMin_two, gInt_int, gInt_bool, seqOf_lst, seqOf_tup, dIs_none, dIs_bool, dIsNot_none, dIsNot_bool, same1_int, scV_int, scV_bool, isA_int, isA_tup, isA_str, isA_lst, atI_0, atI_1, atI_2, LIM, ev_guard, ev_some, ev_none, ev_bind, ev_map, turn_nx, turn_ct, turn_bk, turn_rt, ↓ev_eStpU, eStpU, ↓ev_wDc, ↓ev_nKeys, ↓ev_eMinX, wDc, nKeys, eMinX, ↓ev_iZ3, ↓ev_fCallN, iZ3, fCallN, ↓ev_xD, ↓ev_xN, ↓ev_sParX, xNil, xD, xN, sParX, putXs, ↓ev_nST, nST, ↓ev_dIxO, ↓ev_dInO, ↓ev_sDct, ↓ev_wLst, ↓ev_sNewW, ↓ev_sParDW, ↓ev_sParWD, dIxO, dInO, sDct, wDct, wLst, sNewW, sParDW, sParWD, putW, dctAt]
    refine ev_draw2 hp (by omega) (by omega) (by omega) fun d pen2 hd hp2 => ?_
    have e := ok_first d (by omega)
    simp [↓ev_start, ↓ev_bind, ↓ev_map, ↓ev_eOp, ↓ev_eUn, ↓ev_aCons, ↓ev_aStar, ↓ev_eTup, ↓ev_nLst, ↓ev_eOfN, ↓ev_iSeq, ↓ev_iRg1, ↓ev_iRg2, ↓ev_bVal, ↓ev_bNot, ↓ev_bAnd, ↓ev_bOr, ↓ev_eIf, ↓ev_eAnd, ↓ev_eOr, ↓ev_eChain, ↓ev_sRet, ↓ev_sDrop, ↓ev_sSet, ↓ev_sIf, ↓ev_sNew, ↓ev_nLc, ↓ev_nLc2, ↓ev_fCall0, ↓ev_fCall1, ↓ev_fCallS, ↓ev_oIx, ↓ev_oCall, ↓ev_oTuple, ↓ev_oAppend, ↓ev_oExtend, ↓ev_oPop, ↓ev_sOwn, ↓ev_oEq, ↓ev_eCall, ↓ev_nList, ↓ev_nRange, ↓ev_eIsi, ↓ev_oSome, ↓ev_eSl, ↓ev_scIx, ↓ev_sParDD, ↓ev_sParDN, ↓ev_sParNN, ↓ev_iZip2, ↓ev_fCallZ, ↓ev_iZip3, ↓ev_iZip4, ↓ev_iEnm, ↓ev_nAdd, ↓ev_eMinD, ↓ev_nSS, ↓ev_nCall, ev_fDef, ev_fDefN, ev_seq, ev_sFor, seq_nx, seq_ct, seq_bk, seq_rt, for_q, ret_rt, ret_nx, sIf, sRet, sRetN, sDrop, sSet, sNew, sNext, sBreak, sCont, sNone, sOwn, sParDD, sParDN, sParNN, putN, bVal, bNot, bAnd, bOr, bYes, eOp, eUn, eC, eVar, eIf, eAnd, eOr, eChain, eTup, eOfN, eCall, eSl, eMinD, nAdd, nSS, eIsi, aNil, aCons, aStar, nLst, nList, nRange, nCall, nLc, nLc2, fCall0, fCall1, fCallS, fCallZ, oIx, oCall, oTuple, oAppend, oExtend, oPop, oEq, ownAt, scLen, scIx, iSeq, iRg1, iRg2, iZip2, iZip3, iZip4, iEnm, putT, putTs, wipeS, noO_d, noO_s, noO_o, noO_n, oNo, oSome, dSl, dAdd_int, dAdd_tup, dAdd_lst, dSub_int, dMul_int, dMul_tup, dMod_int, dDiv_int, dPow_int, dShl_int, dBor_int, dLt_int, dLe_int, dGt_int, dGe_int, dEq_int, dNe_int, dNot_bool, dNeg_int, dBits_int, dIx_lst, dIx_tup, gLen_lst, gLen_tup, gTuple_lst, gTuple_tup, gMax_two, gMin_two, gInt_int, gInt_bool, seqOf_lst, seqOf_tup, dIs_none, dIs_bool, dIsNot_none, dIsNot_bool, same1_int, scV_int, scV_bool, isA_int, isA_tup, isA_str, isA_lst, atI_0, atI_1, atI_2, LIM, ev_guard, ev_some, ev_none, ev_bind, ev_map, turn_nx, turn_ct, turn_bk, turn_rt, ↓ev_eStpU, eStpU, ↓ev_wDc, ↓ev_nKeys, ↓ev_eMinX, wDc, nKeys, eMinX, ↓ev_iZ3, ↓ev_fCallN, iZ3, fCallN, ↓ev_xD, ↓ev_xN, ↓ev_sParX, xNil, xD, xN, sParX, putXs, ↓ev_nST, nST, ↓ev_dIxO, ↓ev_dInO, ↓ev_sDct, ↓ev_wLst, ↓ev_sNewW, ↓ev_sParDW, ↓ev_sParWD, dIxO, dInO, sDct, wDct, wLst, sNewW, sParDW, sParWD, putW, dctAt, e]
    exact ⟨_, rfl, rfl⟩
  · rintro ρ so ⟨y1, rfl, rfl⟩
    simp [↓ev_start, ↓ev_bind, ↓ev_map, ↓ev_eOp, ↓ev_eUn, ↓ev_aCons, ↓ev_aStar, ↓ev_eTup, ↓ev_nLst, ↓ev_eOfN, ↓ev_iSeq, ↓ev_iRg1, ↓ev_iRg2, ↓ev_bVal, ↓ev_bNot, ↓ev_bAnd, ↓ev_bOr, ↓ev_eIf, ↓ev_eAnd, ↓ev_eOr, ↓ev_eChain, ↓ev_sRet, ↓ev_sDrop, ↓ev_sSet, ↓ev_sIf, ↓ev_sNew, ↓ev_nLc, ↓ev_nLc2, ↓ev_fCall0, ↓ev_fCall1, ↓ev_fCallS, ↓ev_oIx, ↓ev_oCall, ↓ev_oTuple, ↓ev_oAppend, ↓ev_oExtend, ↓ev_oPop, ↓ev_sOwn, ↓ev_oEq, ↓ev_eCall, ↓ev_nList, ↓ev_nRange, ↓ev_eIsi, ↓ev_oSome, ↓ev_eSl, ↓ev_scIx, ↓ev_sParDD, ↓ev_sParDN, ↓ev_sParNN, ↓ev_iZip2, ↓ev_fCallZ, ↓ev_iZip3, ↓ev_iZip4, ↓ev_iEnm, ↓ev_nAdd, ↓ev_eMinD, ↓ev_nSS, ↓ev_nCall, ev_fDef, ev_fDefN, ev_seq, ev_sFor, seq_nx, seq_ct, seq_bk, seq_rt, for_q, ret_rt, ret_nx, sIf, sRet, sRetN, sDrop, sSet, sNew, sNext, sBreak, sCont, sNone, sOwn, sParDD, sParDN, sParNN, putN, bVal, bNot, bAnd, bOr, bYes, eOp, eUn, eC, eVar, eIf, eAnd, eOr, eChain, eTup, eOfN, eCall, eSl, eMinD, nAdd, nSS, eIsi, aNil, aCons, aStar, nLst, nList, nRange, nCall, nLc, nLc2, fCall0, fCall1, fCallS, fCallZ, oIx, oCall, oTuple, oAppend, oExtend, oPop, oEq, ownAt, scLen, scIx, iSeq, iRg1, iRg2, iZip2, iZip3, iZip4, iEnm, putT, putTs, wipeS, noO_d, noO_s, noO_o, noO_n, oNo, oSome, dSl, dAdd_int, dAdd_tup, dAdd_lst, dSub_int, dMul_int, dMul_tup, dMod_int, dDiv_int, dPow_int, dShl_int, dBor_int, dLt_int, dLe_int, dGt_int, dGe_int, dEq_int, dNe_int, dNot_bool, dNeg_int, dBits_int, dIx_lst, dIx_tup, gLen_lst, gLen_tup, gTuple_lst, gTuple_tup, gMax_two, gMin_two, gInt_int, gInt_bool, seqOf_lst, seqOf_tup, dIs_none, dIs_bool, dIsNot_none, dIsNot_bool, same1_int, scV_int, scV_bool, isA_int, isA_tup, isA_str, isA_lst, atI_0, atI_1, atI_2, LIM, ev_guard, ev_some, ev_none, ev_bind, ev_map, turn_nx, turn_ct, turn_bk, turn_rt, ↓ev_eStpU, eStpU, ↓ev_wDc, ↓ev_nKeys, ↓ev_eMinX, wDc, nKeys, eMinX, ↓ev_iZ3, ↓ev_fCallN, iZ3, fCallN, ↓ev_xD, ↓ev_xN, ↓ev_sParX, xNil, xD, xN, sParX, putXs, ↓ev_nST, nST, ↓ev_dIxO, ↓ev_dInO, ↓ev_sDct, ↓ev_wLst, ↓ev_sNewW, ↓ev_sParDW, ↓ev_sParWD, dIxO, dInO, sDct, wDct, wLst, sNewW, sParDW, sParWD, putW, dctAt, ok_small]
end MP
namespace MP
open PySem PySem.Spec PyProof.Rows L2 RL
theorem df_mk {K : PySem.W.Frag} {h : Heap} {mg : Str → Option Value} {x : Str} {st : Stmt} {f : Addr} {oc : Value} {od an : Option Addr} {osl : Array (Option Value)} {kV doc pm cdv ct : Value} (X : K.In h) (G : h.Ns mainGlobals mg)
    (a : PySem.W.nsIn K mainGlobals x = some (some (.ref f))) (l : K.lookup f = some ⟨oc, od, .func (PySem.W.fnOf x x (defArgs st) (defBody st) (defScope st) .none kV doc pm an cdv ct), osl⟩)
    (c : PySem.W.codeIn K cdv x = true) (k : PySem.W.keepIn K (.ref f) = true) : Df K mg x st := ⟨⟨f, _, fun_mk l c k, PySem.W.mg_of X G a⟩⟩
theorem law_end {K : PySem.W.Frag} {mg : Str → Option Value} {fa : Addr} (D : Df K mg "law" s_law) (e : mg "law" = some (.ref fa)) : ∃ fd, Fun K "law" "law" s_law fa fd ∧ ∀ (s : Shared) (u : Value), BindsTo s fd ⟨[u], []⟩ [("_law_script", u)] := by
  obtain ⟨f, fd, F, g⟩ := D.ex
  rw [g] at e
  cases e
  refine ⟨fd, F, ?_⟩
  obtain ⟨oc, od, kV, doc, pm, an, cdv, ct, osl, rfl, lk, hcd⟩ := F.ex
  exact fun s u => .of_eq rfl
theorem law_all {P : Program} {w : World} {K : PySem.W.Frag} {mg : Str → Option Value} {fa : Addr} (e : mg "law" = some (.ref fa)) (Z : Zs mg)
    {t_MOST_ATTRIBUTES : Tok} (m_MOST_ATTRIBUTES : mg "MOST_ATTRIBUTES" = some (.int 3 t_MOST_ATTRIBUTES))
    {t_MOST_VALUES : Tok} (m_MOST_VALUES : mg "MOST_VALUES" = some (.int 6 t_MOST_VALUES))
    {t_MOST_STEPS : Tok} (m_MOST_STEPS : mg "MOST_STEPS" = some (.int 3 t_MOST_STEPS))
    {t_MOST_CELLS : Tok} (m_MOST_CELLS : mg "MOST_CELLS" = some (.int 60 t_MOST_CELLS))
    {t_MOST_STORED : Tok} (m_MOST_STORED : mg "MOST_STORED" = some (.int 8 t_MOST_STORED))
    {t_MOST_MORE : Tok} (m_MOST_MORE : mg "MOST_MORE" = some (.int 2 t_MOST_MORE))
    (D_is_integer : Df K mg "is_integer" s_is_integer)
    (D_is_number_from : Df K mg "is_number_from" s_is_number_from)
    (D_groups_of_step : Df K mg "groups_of_step" s_groups_of_step)
    (D_is_attribute : Df K mg "is_attribute" s_is_attribute)
    (D_choices : Df K mg "choices" s_choices)
    (D_count_of_cells : Df K mg "count_of_cells" s_count_of_cells)
    (D_group_count : Df K mg "group_count" s_group_count)
    (D_has_levels_up_to : Df K mg "has_levels_up_to" s_has_levels_up_to)
    (D_rollups_of : Df K mg "rollups_of" s_rollups_of)
    (D_size_of : Df K mg "size_of" s_size_of)
    (D_is_rollup : Df K mg "is_rollup" s_is_rollup)
    (D_are_rollups : Df K mg "are_rollups" s_are_rollups)
    (D_is_scheme : Df K mg "is_scheme" s_is_scheme)
    (D_check_scheme : Df K mg "check_scheme" s_check_scheme)
    (D_check_stored : Df K mg "check_stored" s_check_stored)
    (D_sizes_for : Df K mg "sizes_for" s_sizes_for)
    (D_least_of : Df K mg "least_of" s_least_of)
    (D_least_sizes : Df K mg "least_sizes" s_least_sizes)
    (D_stored_sizes : Df K mg "stored_sizes" s_stored_sizes)
    (D_total_of : Df K mg "total_of" s_total_of)
    (D_selections : Df K mg "selections" s_selections)
    (D_check_many : Df K mg "check_many" s_check_many)
    (D_check_stored_and_all_wanted : Df K mg "check_stored_and_all_wanted" s_check_stored_and_all_wanted)
    (D_needed : Df K mg "needed" s_needed)
    (D_cost : Df K mg "cost" s_cost)
    (D_best : Df K mg "best" s_best)
    (D__law_cell : Df K mg "_law_cell" s__law_cell)
    (D__law_source : Df K mg "_law_source" s__law_source)
    (D__law_draw : Df K mg "_law_draw" s__law_draw)
    (D__law_is_equal : Df K mg "_law_is_equal" s__law_is_equal)
    (D__law_first_right : Df K mg "_law_first_right" s__law_first_right)
    (D__law_small_right : Df K mg "_law_small_right" s__law_small_right)
    (D_law : Df K mg "law" s_law)
    : ∃ fd : FuncData, (∀ (s : Shared) (u : Value), BindsTo s fd ⟨[u], []⟩ [("_law_script", u)]) ∧ ∀ base : Heap, FnG P w K mg base 9 fa fd ["_law_script"] (spF K 1 F_law) := by
  obtain ⟨fd, F, hb⟩ := law_end D_law e
  refine ⟨fd, hb, fun base => ?_⟩
  have C_is_integer := pd_is_integer (P := P) (w := w) (base := base) D_is_integer Z  
  have C_is_number_from := pd_is_number_from (P := P) (w := w) (base := base) D_is_number_from Z  C_is_integer
  have C_groups_of_step := pd_groups_of_step (P := P) (w := w) (base := base) D_groups_of_step Z  
  have C_is_attribute := pd_is_attribute (P := P) (w := w) (base := base) D_is_attribute Z m_MOST_VALUES m_MOST_STEPS C_is_number_from C_groups_of_step
  have C_choices := pd_choices (P := P) (w := w) (base := base) D_choices Z  
  have C_count_of_cells := pd_count_of_cells (P := P) (w := w) (base := base) D_count_of_cells Z  
  have C_group_count := pd_group_count (P := P) (w := w) (base := base) D_group_count Z  
  have C_has_levels_up_to := pd_has_levels_up_to (P := P) (w := w) (base := base) D_has_levels_up_to Z  
  have C_rollups_of := pd_rollups_of (P := P) (w := w) (base := base) D_rollups_of Z  C_choices
  have C_size_of := pd_size_of (P := P) (w := w) (base := base) D_size_of Z  C_group_count
  have C_is_rollup := pd_is_rollup (P := P) (w := w) (base := base) D_is_rollup Z  
  have C_are_rollups := pd_are_rollups (P := P) (w := w) (base := base) D_are_rollups Z m_MOST_STORED C_is_rollup
  have C_is_scheme := pd_is_scheme (P := P) (w := w) (base := base) D_is_scheme Z m_MOST_ATTRIBUTES m_MOST_CELLS C_is_attribute C_count_of_cells
  have C_check_scheme := pd_check_scheme (P := P) (w := w) (base := base) D_check_scheme Z  C_is_scheme
  have C_check_stored := pd_check_stored (P := P) (w := w) (base := base) D_check_stored Z  C_are_rollups
  have C_sizes_for := pd_sizes_for (P := P) (w := w) (base := base) D_sizes_for Z  C_has_levels_up_to C_size_of
  have C_least_of := pd_least_of (P := P) (w := w) (base := base) D_least_of Z  
  have C_least_sizes := pd_least_sizes (P := P) (w := w) (base := base) D_least_sizes Z  C_least_of
  have C_stored_sizes := pd_stored_sizes (P := P) (w := w) (base := base) D_stored_sizes Z  C_sizes_for C_least_sizes
  have C_total_of := pd_total_of (P := P) (w := w) (base := base) D_total_of Z  
  have C_selections := pd_selections (P := P) (w := w) (base := base) D_selections Z  
  have C_check_many := pd_check_many (P := P) (w := w) (base := base) D_check_many Z m_MOST_MORE C_is_integer
  have C_check_stored_and_all_wanted := pd_check_stored_and_all_wanted (P := P) (w := w) (base := base) D_check_stored_and_all_wanted Z  C_check_scheme C_check_stored
  have C_needed := pd_needed (P := P) (w := w) (base := base) D_needed Z  C_has_levels_up_to C_check_scheme C_check_stored
  have C_cost := pd_cost (P := P) (w := w) (base := base) D_cost Z  C_stored_sizes C_total_of C_check_stored_and_all_wanted
  have C_best := pd_best (P := P) (w := w) (base := base) D_best Z  C_rollups_of C_sizes_for C_least_sizes C_stored_sizes C_total_of C_selections C_check_many C_check_stored_and_all_wanted
  have C__law_cell := pd__law_cell (P := P) (w := w) (base := base) D__law_cell Z  
  have C__law_source := pd__law_source (P := P) (w := w) (base := base) D__law_source Z  
  have C__law_draw := pd__law_draw (P := P) (w := w) (base := base) D__law_draw Z  
  have C__law_is_equal := pd__law_is_equal (P := P) (w := w) (base := base) D__law_is_equal Z  
  have C__law_first_right := pd__law_first_right (P := P) (w := w) (base := base) D__law_first_right Z  C_needed C_cost C_best C__law_is_equal
  have C__law_small_right := pd__law_small_right (P := P) (w := w) (base := base) D__law_small_right Z  C_needed C_cost C_best C__law_is_equal
  exact pd_law F Z  C__law_cell C__law_source C__law_draw C__law_first_right C__law_small_right
theorem all_mk {P : Program} {w : World} {K : PySem.W.Frag} {h : Heap} {mg : Str → Option Value} {fa : Addr} (X : K.In h) (G : h.Ns mainGlobals mg) (e : mg "law" = some (.ref fa))
    {t_MOST_ATTRIBUTES : Tok} (m_MOST_ATTRIBUTES : PySem.W.nsIn K mainGlobals "MOST_ATTRIBUTES" = some (some (.int 3 t_MOST_ATTRIBUTES)))
    {t_MOST_VALUES : Tok} (m_MOST_VALUES : PySem.W.nsIn K mainGlobals "MOST_VALUES" = some (some (.int 6 t_MOST_VALUES)))
    {t_MOST_STEPS : Tok} (m_MOST_STEPS : PySem.W.nsIn K mainGlobals "MOST_STEPS" = some (some (.int 3 t_MOST_STEPS)))
    {t_MOST_CELLS : Tok} (m_MOST_CELLS : PySem.W.nsIn K mainGlobals "MOST_CELLS" = some (some (.int 60 t_MOST_CELLS)))
    {t_MOST_STORED : Tok} (m_MOST_STORED : PySem.W.nsIn K mainGlobals "MOST_STORED" = some (some (.int 8 t_MOST_STORED)))
    {t_MOST_MORE : Tok} (m_MOST_MORE : PySem.W.nsIn K mainGlobals "MOST_MORE" = some (some (.int 2 t_MOST_MORE)))
    (z_isinstance : PySem.W.nsIn K mainGlobals "isinstance" = some none)
    (z_int : PySem.W.nsIn K mainGlobals "int" = some none)
    (z_bool : PySem.W.nsIn K mainGlobals "bool" = some none)
    (z_tuple : PySem.W.nsIn K mainGlobals "tuple" = some none)
    (z_list : PySem.W.nsIn K mainGlobals "list" = some none)
    (z_set : PySem.W.nsIn K mainGlobals "set" = some none)
    (z_len : PySem.W.nsIn K mainGlobals "len" = some none)
    (z_all : PySem.W.nsIn K mainGlobals "all" = some none)
    (z_zip : PySem.W.nsIn K mainGlobals "zip" = some none)
    (z_sorted : PySem.W.nsIn K mainGlobals "sorted" = some none)
    (z_range : PySem.W.nsIn K mainGlobals "range" = some none)
    (z_max : PySem.W.nsIn K mainGlobals "max" = some none)
    (z_min : PySem.W.nsIn K mainGlobals "min" = some none)
    (z_sum : PySem.W.nsIn K mainGlobals "sum" = some none)
    (z_repr : PySem.W.nsIn K mainGlobals "repr" = some none)
    (z_any : PySem.W.nsIn K mainGlobals "any" = some none)
    (z_enumerate : PySem.W.nsIn K mainGlobals "enumerate" = some none)
    (z_str : PySem.W.nsIn K mainGlobals "str" = some none)
    {f_is_integer : Addr} {od_is_integer an_is_integer : Option Addr} {sl_is_integer : Array (Option Value)} {oc_is_integer kV_is_integer dc_is_integer pm_is_integer cd_is_integer ct_is_integer : Value}
    (a_is_integer : PySem.W.nsIn K mainGlobals "is_integer" = some (some (.ref f_is_integer))) (l_is_integer : K.lookup f_is_integer = some ⟨oc_is_integer, od_is_integer, .func (PySem.W.fnOf "is_integer" "is_integer" (defArgs s_is_integer) (defBody s_is_integer) (defScope s_is_integer) .none kV_is_integer dc_is_integer pm_is_integer an_is_integer cd_is_integer ct_is_integer), sl_is_integer⟩)
    (c_is_integer : PySem.W.codeIn K cd_is_integer "is_integer" = true) (k_is_integer : PySem.W.keepIn K (.ref f_is_integer) = true)
    {f_is_number_from : Addr} {od_is_number_from an_is_number_from : Option Addr} {sl_is_number_from : Array (Option Value)} {oc_is_number_from kV_is_number_from dc_is_number_from pm_is_number_from cd_is_number_from ct_is_number_from : Value}
    (a_is_number_from : PySem.W.nsIn K mainGlobals "is_number_from" = some (some (.ref f_is_number_from))) (l_is_number_from : K.lookup f_is_number_from = some ⟨oc_is_number_from, od_is_number_from, .func (PySem.W.fnOf "is_number_from" "is_number_from" (defArgs s_is_number_from) (defBody s_is_number_from) (defScope s_is_number_from) .none kV_is_number_from dc_is_number_from pm_is_number_from an_is_number_from cd_is_number_from ct_is_number_from), sl_is_number_from⟩)
    (c_is_number_from : PySem.W.codeIn K cd_is_number_from "is_number_from" = true) (k_is_number_from : PySem.W.keepIn K (.ref f_is_number_from) = true)
    {f_groups_of_step : Addr} {od_groups_of_step an_groups_of_step : Option Addr} {sl_groups_of_step : Array (Option Value)} {oc_groups_of_step kV_groups_of_step dc_groups_of_step pm_groups_of_step cd_groups_of_step ct_groups_of_step : Value}
    (a_groups_of_step : PySem.W.nsIn K mainGlobals "groups_of_step" = some (some (.ref f_groups_of_step))) (l_groups_of_step : K.lookup f_groups_of_step = some ⟨oc_groups_of_step, od_groups_of_step, .func (PySem.W.fnOf "groups_of_step" "groups_of_step" (defArgs s_groups_of_step) (defBody s_groups_of_step) (defScope s_groups_of_step) .none kV_groups_of_step dc_groups_of_step pm_groups_of_step an_groups_of_step cd_groups_of_step ct_groups_of_step), sl_groups_of_step⟩)
    (c_groups_of_step : PySem.W.codeIn K cd_groups_of_step "groups_of_step" = true) (k_groups_of_step : PySem.W.keepIn K (.ref f_groups_of_step) = true)
    {f_is_attribute : Addr} {od_is_attribute an_is_attribute : Option Addr} {sl_is_attribute : Array (Option Value)} {oc_is_attribute kV_is_attribute dc_is_attribute pm_is_attribute cd_is_attribute ct_is_attribute : Value}
    (a_is_attribute : PySem.W.nsIn K mainGlobals "is_attribute" = some (some (.ref f_is_attribute))) (l_is_attribute : K.lookup f_is_attribute = some ⟨oc_is_attribute, od_is_attribute, .func (PySem.W.fnOf "is_attribute" "is_attribute" (defArgs s_is_attribute) (defBody s_is_attribute) (defScope s_is_attribute) .none kV_is_attribute dc_is_attribute pm_is_attribute an_is_attribute cd_is_attribute ct_is_attribute), sl_is_attribute⟩)
    (c_is_attribute : PySem.W.codeIn K cd_is_attribute "is_attribute" = true) (k_is_attribute : PySem.W.keepIn K (.ref f_is_attribute) = true)
    {f_choices : Addr} {od_choices an_choices : Option Addr} {sl_choices : Array (Option Value)} {oc_choices kV_choices dc_choices pm_choices cd_choices ct_choices : Value}
    (a_choices : PySem.W.nsIn K mainGlobals "choices" = some (some (.ref f_choices))) (l_choices : K.lookup f_choices = some ⟨oc_choices, od_choices, .func (PySem.W.fnOf "choices" "choices" (defArgs s_choices) (defBody s_choices) (defScope s_choices) .none kV_choices dc_choices pm_choices an_choices cd_choices ct_choices), sl_choices⟩)
    (c_choices : PySem.W.codeIn K cd_choices "choices" = true) (k_choices : PySem.W.keepIn K (.ref f_choices) = true)
    {f_count_of_cells : Addr} {od_count_of_cells an_count_of_cells : Option Addr} {sl_count_of_cells : Array (Option Value)} {oc_count_of_cells kV_count_of_cells dc_count_of_cells pm_count_of_cells cd_count_of_cells ct_count_of_cells : Value}
    (a_count_of_cells : PySem.W.nsIn K mainGlobals "count_of_cells" = some (some (.ref f_count_of_cells))) (l_count_of_cells : K.lookup f_count_of_cells = some ⟨oc_count_of_cells, od_count_of_cells, .func (PySem.W.fnOf "count_of_cells" "count_of_cells" (defArgs s_count_of_cells) (defBody s_count_of_cells) (defScope s_count_of_cells) .none kV_count_of_cells dc_count_of_cells pm_count_of_cells an_count_of_cells cd_count_of_cells ct_count_of_cells), sl_count_of_cells⟩)
    (c_count_of_cells : PySem.W.codeIn K cd_count_of_cells "count_of_cells" = true) (k_count_of_cells : PySem.W.keepIn K (.ref f_count_of_cells) = true)
    {f_group_count : Addr} {od_group_count an_group_count : Option Addr} {sl_group_count : Array (Option Value)} {oc_group_count kV_group_count dc_group_count pm_group_count cd_group_count ct_group_count : Value}
    (a_group_count : PySem.W.nsIn K mainGlobals "group_count" = some (some (.ref f_group_count))) (l_group_count : K.lookup f_group_count = some ⟨oc_group_count, od_group_count, .func (PySem.W.fnOf "group_count" "group_count" (defArgs s_group_count) (defBody s_group_count) (defScope s_group_count) .none kV_group_count dc_group_count pm_group_count an_group_count cd_group_count ct_group_count), sl_group_count⟩)
    (c_group_count : PySem.W.codeIn K cd_group_count "group_count" = true) (k_group_count : PySem.W.keepIn K (.ref f_group_count) = true)
    {f_has_levels_up_to : Addr} {od_has_levels_up_to an_has_levels_up_to : Option Addr} {sl_has_levels_up_to : Array (Option Value)} {oc_has_levels_up_to kV_has_levels_up_to dc_has_levels_up_to pm_has_levels_up_to cd_has_levels_up_to ct_has_levels_up_to : Value}
    (a_has_levels_up_to : PySem.W.nsIn K mainGlobals "has_levels_up_to" = some (some (.ref f_has_levels_up_to))) (l_has_levels_up_to : K.lookup f_has_levels_up_to = some ⟨oc_has_levels_up_to, od_has_levels_up_to, .func (PySem.W.fnOf "has_levels_up_to" "has_levels_up_to" (defArgs s_has_levels_up_to) (defBody s_has_levels_up_to) (defScope s_has_levels_up_to) .none kV_has_levels_up_to dc_has_levels_up_to pm_has_levels_up_to an_has_levels_up_to cd_has_levels_up_to ct_has_levels_up_to), sl_has_levels_up_to⟩)
    (c_has_levels_up_to : PySem.W.codeIn K cd_has_levels_up_to "has_levels_up_to" = true) (k_has_levels_up_to : PySem.W.keepIn K (.ref f_has_levels_up_to) = true)
    {f_rollups_of : Addr} {od_rollups_of an_rollups_of : Option Addr} {sl_rollups_of : Array (Option Value)} {oc_rollups_of kV_rollups_of dc_rollups_of pm_rollups_of cd_rollups_of ct_rollups_of : Value}
    (a_rollups_of : PySem.W.nsIn K mainGlobals "rollups_of" = some (some (.ref f_rollups_of))) (l_rollups_of : K.lookup f_rollups_of = some ⟨oc_rollups_of, od_rollups_of, .func (PySem.W.fnOf "rollups_of" "rollups_of" (defArgs s_rollups_of) (defBody s_rollups_of) (defScope s_rollups_of) .none kV_rollups_of dc_rollups_of pm_rollups_of an_rollups_of cd_rollups_of ct_rollups_of), sl_rollups_of⟩)
    (c_rollups_of : PySem.W.codeIn K cd_rollups_of "rollups_of" = true) (k_rollups_of : PySem.W.keepIn K (.ref f_rollups_of) = true)
    {f_size_of : Addr} {od_size_of an_size_of : Option Addr} {sl_size_of : Array (Option Value)} {oc_size_of kV_size_of dc_size_of pm_size_of cd_size_of ct_size_of : Value}
    (a_size_of : PySem.W.nsIn K mainGlobals "size_of" = some (some (.ref f_size_of))) (l_size_of : K.lookup f_size_of = some ⟨oc_size_of, od_size_of, .func (PySem.W.fnOf "size_of" "size_of" (defArgs s_size_of) (defBody s_size_of) (defScope s_size_of) .none kV_size_of dc_size_of pm_size_of an_size_of cd_size_of ct_size_of), sl_size_of⟩)
    (c_size_of : PySem.W.codeIn K cd_size_of "size_of" = true) (k_size_of : PySem.W.keepIn K (.ref f_size_of) = true)
    {f_is_rollup : Addr} {od_is_rollup an_is_rollup : Option Addr} {sl_is_rollup : Array (Option Value)} {oc_is_rollup kV_is_rollup dc_is_rollup pm_is_rollup cd_is_rollup ct_is_rollup : Value}
    (a_is_rollup : PySem.W.nsIn K mainGlobals "is_rollup" = some (some (.ref f_is_rollup))) (l_is_rollup : K.lookup f_is_rollup = some ⟨oc_is_rollup, od_is_rollup, .func (PySem.W.fnOf "is_rollup" "is_rollup" (defArgs s_is_rollup) (defBody s_is_rollup) (defScope s_is_rollup) .none kV_is_rollup dc_is_rollup pm_is_rollup an_is_rollup cd_is_rollup ct_is_rollup), sl_is_rollup⟩)
    (c_is_rollup : PySem.W.codeIn K cd_is_rollup "is_rollup" = true) (k_is_rollup : PySem.W.keepIn K (.ref f_is_rollup) = true)
    {f_are_rollups : Addr} {od_are_rollups an_are_rollups : Option Addr} {sl_are_rollups : Array (Option Value)} {oc_are_rollups kV_are_rollups dc_are_rollups pm_are_rollups cd_are_rollups ct_are_rollups : Value}
    (a_are_rollups : PySem.W.nsIn K mainGlobals "are_rollups" = some (some (.ref f_are_rollups))) (l_are_rollups : K.lookup f_are_rollups = some ⟨oc_are_rollups, od_are_rollups, .func (PySem.W.fnOf "are_rollups" "are_rollups" (defArgs s_are_rollups) (defBody s_are_rollups) (defScope s_are_rollups) .none kV_are_rollups dc_are_rollups pm_are_rollups an_are_rollups cd_are_rollups ct_are_rollups), sl_are_rollups⟩)
    (c_are_rollups : PySem.W.codeIn K cd_are_rollups "are_rollups" = true) (k_are_rollups : PySem.W.keepIn K (.ref f_are_rollups) = true)
    {f_is_scheme : Addr} {od_is_scheme an_is_scheme : Option Addr} {sl_is_scheme : Array (Option Value)} {oc_is_scheme kV_is_scheme dc_is_scheme pm_is_scheme cd_is_scheme ct_is_scheme : Value}
    (a_is_scheme : PySem.W.nsIn K mainGlobals "is_scheme" = some (some (.ref f_is_scheme))) (l_is_scheme : K.lookup f_is_scheme = some ⟨oc_is_scheme, od_is_scheme, .func (PySem.W.fnOf "is_scheme" "is_scheme" (defArgs s_is_scheme) (defBody s_is_scheme) (defScope s_is_scheme) .none kV_is_scheme dc_is_scheme pm_is_scheme an_is_scheme cd_is_scheme ct_is_scheme), sl_is_scheme⟩)
    (c_is_scheme : PySem.W.codeIn K cd_is_scheme "is_scheme" = true) (k_is_scheme : PySem.W.keepIn K (.ref f_is_scheme) = true)
    {f_check_scheme : Addr} {od_check_scheme an_check_scheme : Option Addr} {sl_check_scheme : Array (Option Value)} {oc_check_scheme kV_check_scheme dc_check_scheme pm_check_scheme cd_check_scheme ct_check_scheme : Value}
    (a_check_scheme : PySem.W.nsIn K mainGlobals "check_scheme" = some (some (.ref f_check_scheme))) (l_check_scheme : K.lookup f_check_scheme = some ⟨oc_check_scheme, od_check_scheme, .func (PySem.W.fnOf "check_scheme" "check_scheme" (defArgs s_check_scheme) (defBody s_check_scheme) (defScope s_check_scheme) .none kV_check_scheme dc_check_scheme pm_check_scheme an_check_scheme cd_check_scheme ct_check_scheme), sl_check_scheme⟩)
    (c_check_scheme : PySem.W.codeIn K cd_check_scheme "check_scheme" = true) (k_check_scheme : PySem.W.keepIn K (.ref f_check_scheme) = true)
    {f_check_stored : Addr} {od_check_stored an_check_stored : Option Addr} {sl_check_stored : Array (Option Value)} {oc_check_stored kV_check_stored dc_check_stored pm_check_stored cd_check_stored ct_check_stored : Value}
    (a_check_stored : PySem.W.nsIn K mainGlobals "check_stored" = some (some (.ref f_check_stored))) (l_check_stored : K.lookup f_check_stored = some ⟨oc_check_stored, od_check_stored, .func (PySem.W.fnOf "check_stored" "check_stored" (defArgs s_check_stored) (defBody s_check_stored) (defScope s_check_stored) .none kV_check_stored dc_check_stored pm_check_stored an_check_stored cd_check_stored ct_check_stored), sl_check_stored⟩)
    (c_check_stored : PySem.W.codeIn K cd_check_stored "check_stored" = true) (k_check_stored : PySem.W.keepIn K (.ref f_check_stored) = true)
    {f_sizes_for : Addr} {od_sizes_for an_sizes_for : Option Addr} {sl_sizes_for : Array (Option Value)} {oc_sizes_for kV_sizes_for dc_sizes_for pm_sizes_for cd_sizes_for ct_sizes_for : Value}
    (a_sizes_for : PySem.W.nsIn K mainGlobals "sizes_for" = some (some (.ref f_sizes_for))) (l_sizes_for : K.lookup f_sizes_for = some ⟨oc_sizes_for, od_sizes_for, .func (PySem.W.fnOf "sizes_for" "sizes_for" (defArgs s_sizes_for) (defBody s_sizes_for) (defScope s_sizes_for) .none kV_sizes_for dc_sizes_for pm_sizes_for an_sizes_for cd_sizes_for ct_sizes_for), sl_sizes_for⟩)
    (c_sizes_for : PySem.W.codeIn K cd_sizes_for "sizes_for" = true) (k_sizes_for : PySem.W.keepIn K (.ref f_sizes_for) = true)
    {f_least_of : Addr} {od_least_of an_least_of : Option Addr} {sl_least_of : Array (Option Value)} {oc_least_of kV_least_of dc_least_of pm_least_of cd_least_of ct_least_of : Value}
    (a_least_of : PySem.W.nsIn K mainGlobals "least_of" = some (some (.ref f_least_of))) (l_least_of : K.lookup f_least_of = some ⟨oc_least_of, od_least_of, .func (PySem.W.fnOf "least_of" "least_of" (defArgs s_least_of) (defBody s_least_of) (defScope s_least_of) .none kV_least_of dc_least_of pm_least_of an_least_of cd_least_of ct_least_of), sl_least_of⟩)
    (c_least_of : PySem.W.codeIn K cd_least_of "least_of" = true) (k_least_of : PySem.W.keepIn K (.ref f_least_of) = true)
    {f_least_sizes : Addr} {od_least_sizes an_least_sizes : Option Addr} {sl_least_sizes : Array (Option Value)} {oc_least_sizes kV_least_sizes dc_least_sizes pm_least_sizes cd_least_sizes ct_least_sizes : Value}
    (a_least_sizes : PySem.W.nsIn K mainGlobals "least_sizes" = some (some (.ref f_least_sizes))) (l_least_sizes : K.lookup f_least_sizes = some ⟨oc_least_sizes, od_least_sizes, .func (PySem.W.fnOf "least_sizes" "least_sizes" (defArgs s_least_sizes) (defBody s_least_sizes) (defScope s_least_sizes) .none kV_least_sizes dc_least_sizes pm_least_sizes an_least_sizes cd_least_sizes ct_least_sizes), sl_least_sizes⟩)
    (c_least_sizes : PySem.W.codeIn K cd_least_sizes "least_sizes" = true) (k_least_sizes : PySem.W.keepIn K (.ref f_least_sizes) = true)
    {f_stored_sizes : Addr} {od_stored_sizes an_stored_sizes : Option Addr} {sl_stored_sizes : Array (Option Value)} {oc_stored_sizes kV_stored_sizes dc_stored_sizes pm_stored_sizes cd_stored_sizes ct_stored_sizes : Value}
    (a_stored_sizes : PySem.W.nsIn K mainGlobals "stored_sizes" = some (some (.ref f_stored_sizes))) (l_stored_sizes : K.lookup f_stored_sizes = some ⟨oc_stored_sizes, od_stored_sizes, .func (PySem.W.fnOf "stored_sizes" "stored_sizes" (defArgs s_stored_sizes) (defBody s_stored_sizes) (defScope s_stored_sizes) .none kV_stored_sizes dc_stored_sizes pm_stored_sizes an_stored_sizes cd_stored_sizes ct_stored_sizes), sl_stored_sizes⟩)
    (c_stored_sizes : PySem.W.codeIn K cd_stored_sizes "stored_sizes" = true) (k_stored_sizes : PySem.W.keepIn K (.ref f_stored_sizes) = true)
    {f_total_of : Addr} {od_total_of an_total_of : Option Addr} {sl_total_of : Array (Option Value)} {oc_total_of kV_total_of dc_total_of pm_total_of cd_total_of ct_total_of : Value}
    (a_total_of : PySem.W.nsIn K mainGlobals "total_of" = some (some (.ref f_total_of))) (l_total_of : K.lookup f_total_of = some ⟨oc_total_of, od_total_of, .func (PySem.W.fnOf "total_of" "total_of" (defArgs s_total_of) (defBody s_total_of) (defScope s_total_of) .none kV_total_of dc_total_of pm_total_of an_total_of cd_total_of ct_total_of), sl_total_of⟩)
    (c_total_of : PySem.W.codeIn K cd_total_of "total_of" = true) (k_total_of : PySem.W.keepIn K (.ref f_total_of) = true)
    {f_selections : Addr} {od_selections an_selections : Option Addr} {sl_selections : Array (Option Value)} {oc_selections kV_selections dc_selections pm_selections cd_selections ct_selections : Value}
    (a_selections : PySem.W.nsIn K mainGlobals "selections" = some (some (.ref f_selections))) (l_selections : K.lookup f_selections = some ⟨oc_selections, od_selections, .func (PySem.W.fnOf "selections" "selections" (defArgs s_selections) (defBody s_selections) (defScope s_selections) .none kV_selections dc_selections pm_selections an_selections cd_selections ct_selections), sl_selections⟩)
    (c_selections : PySem.W.codeIn K cd_selections "selections" = true) (k_selections : PySem.W.keepIn K (.ref f_selections) = true)
    {f_check_many : Addr} {od_check_many an_check_many : Option Addr} {sl_check_many : Array (Option Value)} {oc_check_many kV_check_many dc_check_many pm_check_many cd_check_many ct_check_many : Value}
    (a_check_many : PySem.W.nsIn K mainGlobals "check_many" = some (some (.ref f_check_many))) (l_check_many : K.lookup f_check_many = some ⟨oc_check_many, od_check_many, .func (PySem.W.fnOf "check_many" "check_many" (defArgs s_check_many) (defBody s_check_many) (defScope s_check_many) .none kV_check_many dc_check_many pm_check_many an_check_many cd_check_many ct_check_many), sl_check_many⟩)
    (c_check_many : PySem.W.codeIn K cd_check_many "check_many" = true) (k_check_many : PySem.W.keepIn K (.ref f_check_many) = true)
    {f_check_stored_and_all_wanted : Addr} {od_check_stored_and_all_wanted an_check_stored_and_all_wanted : Option Addr} {sl_check_stored_and_all_wanted : Array (Option Value)} {oc_check_stored_and_all_wanted kV_check_stored_and_all_wanted dc_check_stored_and_all_wanted pm_check_stored_and_all_wanted cd_check_stored_and_all_wanted ct_check_stored_and_all_wanted : Value}
    (a_check_stored_and_all_wanted : PySem.W.nsIn K mainGlobals "check_stored_and_all_wanted" = some (some (.ref f_check_stored_and_all_wanted))) (l_check_stored_and_all_wanted : K.lookup f_check_stored_and_all_wanted = some ⟨oc_check_stored_and_all_wanted, od_check_stored_and_all_wanted, .func (PySem.W.fnOf "check_stored_and_all_wanted" "check_stored_and_all_wanted" (defArgs s_check_stored_and_all_wanted) (defBody s_check_stored_and_all_wanted) (defScope s_check_stored_and_all_wanted) .none kV_check_stored_and_all_wanted dc_check_stored_and_all_wanted pm_check_stored_and_all_wanted an_check_stored_and_all_wanted cd_check_stored_and_all_wanted ct_check_stored_and_all_wanted), sl_check_stored_and_all_wanted⟩)
    (c_check_stored_and_all_wanted : PySem.W.codeIn K cd_check_stored_and_all_wanted "check_stored_and_all_wanted" = true) (k_check_stored_and_all_wanted : PySem.W.keepIn K (.ref f_check_stored_and_all_wanted) = true)
    {f_needed : Addr} {od_needed an_needed : Option Addr} {sl_needed : Array (Option Value)} {oc_needed kV_needed dc_needed pm_needed cd_needed ct_needed : Value}
    (a_needed : PySem.W.nsIn K mainGlobals "needed" = some (some (.ref f_needed))) (l_needed : K.lookup f_needed = some ⟨oc_needed, od_needed, .func (PySem.W.fnOf "needed" "needed" (defArgs s_needed) (defBody s_needed) (defScope s_needed) .none kV_needed dc_needed pm_needed an_needed cd_needed ct_needed), sl_needed⟩)
    (c_needed : PySem.W.codeIn K cd_needed "needed" = true) (k_needed : PySem.W.keepIn K (.ref f_needed) = true)
    {f_cost : Addr} {od_cost an_cost : Option Addr} {sl_cost : Array (Option Value)} {oc_cost kV_cost dc_cost pm_cost cd_cost ct_cost : Value}
    (a_cost : PySem.W.nsIn K mainGlobals "cost" = some (some (.ref f_cost))) (l_cost : K.lookup f_cost = some ⟨oc_cost, od_cost, .func (PySem.W.fnOf "cost" "cost" (defArgs s_cost) (defBody s_cost) (defScope s_cost) .none kV_cost dc_cost pm_cost an_cost cd_cost ct_cost), sl_cost⟩)
    (c_cost : PySem.W.codeIn K cd_cost "cost" = true) (k_cost : PySem.W.keepIn K (.ref f_cost) = true)
    {f_best : Addr} {od_best an_best : Option Addr} {sl_best : Array (Option Value)} {oc_best kV_best dc_best pm_best cd_best ct_best : Value}
    (a_best : PySem.W.nsIn K mainGlobals "best" = some (some (.ref f_best))) (l_best : K.lookup f_best = some ⟨oc_best, od_best, .func (PySem.W.fnOf "best" "best" (defArgs s_best) (defBody s_best) (defScope s_best) .none kV_best dc_best pm_best an_best cd_best ct_best), sl_best⟩)
    (c_best : PySem.W.codeIn K cd_best "best" = true) (k_best : PySem.W.keepIn K (.ref f_best) = true)
    {f__law_cell : Addr} {od__law_cell an__law_cell : Option Addr} {sl__law_cell : Array (Option Value)} {oc__law_cell kV__law_cell dc__law_cell pm__law_cell cd__law_cell ct__law_cell : Value}
    (a__law_cell : PySem.W.nsIn K mainGlobals "_law_cell" = some (some (.ref f__law_cell))) (l__law_cell : K.lookup f__law_cell = some ⟨oc__law_cell, od__law_cell, .func (PySem.W.fnOf "_law_cell" "_law_cell" (defArgs s__law_cell) (defBody s__law_cell) (defScope s__law_cell) .none kV__law_cell dc__law_cell pm__law_cell an__law_cell cd__law_cell ct__law_cell), sl__law_cell⟩)
    (c__law_cell : PySem.W.codeIn K cd__law_cell "_law_cell" = true) (k__law_cell : PySem.W.keepIn K (.ref f__law_cell) = true)
    {f__law_source : Addr} {od__law_source an__law_source : Option Addr} {sl__law_source : Array (Option Value)} {oc__law_source kV__law_source dc__law_source pm__law_source cd__law_source ct__law_source : Value}
    (a__law_source : PySem.W.nsIn K mainGlobals "_law_source" = some (some (.ref f__law_source))) (l__law_source : K.lookup f__law_source = some ⟨oc__law_source, od__law_source, .func (PySem.W.fnOf "_law_source" "_law_source" (defArgs s__law_source) (defBody s__law_source) (defScope s__law_source) .none kV__law_source dc__law_source pm__law_source an__law_source cd__law_source ct__law_source), sl__law_source⟩)
    (c__law_source : PySem.W.codeIn K cd__law_source "_law_source" = true) (k__law_source : PySem.W.keepIn K (.ref f__law_source) = true)
    {f__law_draw : Addr} {od__law_draw an__law_draw : Option Addr} {sl__law_draw : Array (Option Value)} {oc__law_draw kV__law_draw dc__law_draw pm__law_draw cd__law_draw ct__law_draw : Value}
    (a__law_draw : PySem.W.nsIn K mainGlobals "_law_draw" = some (some (.ref f__law_draw))) (l__law_draw : K.lookup f__law_draw = some ⟨oc__law_draw, od__law_draw, .func (PySem.W.fnOf "_law_draw" "_law_draw" (defArgs s__law_draw) (defBody s__law_draw) (defScope s__law_draw) .none kV__law_draw dc__law_draw pm__law_draw an__law_draw cd__law_draw ct__law_draw), sl__law_draw⟩)
    (c__law_draw : PySem.W.codeIn K cd__law_draw "_law_draw" = true) (k__law_draw : PySem.W.keepIn K (.ref f__law_draw) = true)
    {f__law_is_equal : Addr} {od__law_is_equal an__law_is_equal : Option Addr} {sl__law_is_equal : Array (Option Value)} {oc__law_is_equal kV__law_is_equal dc__law_is_equal pm__law_is_equal cd__law_is_equal ct__law_is_equal : Value}
    (a__law_is_equal : PySem.W.nsIn K mainGlobals "_law_is_equal" = some (some (.ref f__law_is_equal))) (l__law_is_equal : K.lookup f__law_is_equal = some ⟨oc__law_is_equal, od__law_is_equal, .func (PySem.W.fnOf "_law_is_equal" "_law_is_equal" (defArgs s__law_is_equal) (defBody s__law_is_equal) (defScope s__law_is_equal) .none kV__law_is_equal dc__law_is_equal pm__law_is_equal an__law_is_equal cd__law_is_equal ct__law_is_equal), sl__law_is_equal⟩)
    (c__law_is_equal : PySem.W.codeIn K cd__law_is_equal "_law_is_equal" = true) (k__law_is_equal : PySem.W.keepIn K (.ref f__law_is_equal) = true)
    {f__law_first_right : Addr} {od__law_first_right an__law_first_right : Option Addr} {sl__law_first_right : Array (Option Value)} {oc__law_first_right kV__law_first_right dc__law_first_right pm__law_first_right cd__law_first_right ct__law_first_right : Value}
    (a__law_first_right : PySem.W.nsIn K mainGlobals "_law_first_right" = some (some (.ref f__law_first_right))) (l__law_first_right : K.lookup f__law_first_right = some ⟨oc__law_first_right, od__law_first_right, .func (PySem.W.fnOf "_law_first_right" "_law_first_right" (defArgs s__law_first_right) (defBody s__law_first_right) (defScope s__law_first_right) .none kV__law_first_right dc__law_first_right pm__law_first_right an__law_first_right cd__law_first_right ct__law_first_right), sl__law_first_right⟩)
    (c__law_first_right : PySem.W.codeIn K cd__law_first_right "_law_first_right" = true) (k__law_first_right : PySem.W.keepIn K (.ref f__law_first_right) = true)
    {f__law_small_right : Addr} {od__law_small_right an__law_small_right : Option Addr} {sl__law_small_right : Array (Option Value)} {oc__law_small_right kV__law_small_right dc__law_small_right pm__law_small_right cd__law_small_right ct__law_small_right : Value}
    (a__law_small_right : PySem.W.nsIn K mainGlobals "_law_small_right" = some (some (.ref f__law_small_right))) (l__law_small_right : K.lookup f__law_small_right = some ⟨oc__law_small_right, od__law_small_right, .func (PySem.W.fnOf "_law_small_right" "_law_small_right" (defArgs s__law_small_right) (defBody s__law_small_right) (defScope s__law_small_right) .none kV__law_small_right dc__law_small_right pm__law_small_right an__law_small_right cd__law_small_right ct__law_small_right), sl__law_small_right⟩)
    (c__law_small_right : PySem.W.codeIn K cd__law_small_right "_law_small_right" = true) (k__law_small_right : PySem.W.keepIn K (.ref f__law_small_right) = true)
    {f_law : Addr} {od_law an_law : Option Addr} {sl_law : Array (Option Value)} {oc_law kV_law dc_law pm_law cd_law ct_law : Value}
    (a_law : PySem.W.nsIn K mainGlobals "law" = some (some (.ref f_law))) (l_law : K.lookup f_law = some ⟨oc_law, od_law, .func (PySem.W.fnOf "law" "law" (defArgs s_law) (defBody s_law) (defScope s_law) .none kV_law dc_law pm_law an_law cd_law ct_law), sl_law⟩)
    (c_law : PySem.W.codeIn K cd_law "law" = true) (k_law : PySem.W.keepIn K (.ref f_law) = true)
    : ∃ fd : FuncData, (∀ (s : Shared) (u : Value), BindsTo s fd ⟨[u], []⟩ [("_law_script", u)]) ∧ ∀ base : Heap, K.In base → base.Ns mainGlobals mg → FnG P w K mg base 9 fa fd ["_law_script"] (spF K 1 F_law) := by
  have Z : Zs mg := ⟨PySem.W.mg_none_of X G z_isinstance, PySem.W.mg_none_of X G z_int, PySem.W.mg_none_of X G z_bool, PySem.W.mg_none_of X G z_tuple, PySem.W.mg_none_of X G z_list, PySem.W.mg_none_of X G z_set, PySem.W.mg_none_of X G z_len, PySem.W.mg_none_of X G z_all, PySem.W.mg_none_of X G z_zip, PySem.W.mg_none_of X G z_sorted, PySem.W.mg_none_of X G z_range, PySem.W.mg_none_of X G z_max, PySem.W.mg_none_of X G z_min, PySem.W.mg_none_of X G z_sum, PySem.W.mg_none_of X G z_repr, PySem.W.mg_none_of X G z_any, PySem.W.mg_none_of X G z_enumerate, PySem.W.mg_none_of X G z_str⟩
  obtain ⟨fd, hb, hF⟩ := law_all (P := P) (w := w) e Z (PySem.W.mg_of X G m_MOST_ATTRIBUTES) (PySem.W.mg_of X G m_MOST_VALUES) (PySem.W.mg_of X G m_MOST_STEPS) (PySem.W.mg_of X G m_MOST_CELLS) (PySem.W.mg_of X G m_MOST_STORED) (PySem.W.mg_of X G m_MOST_MORE) (df_mk X G a_is_integer l_is_integer c_is_integer k_is_integer) (df_mk X G a_is_number_from l_is_number_from c_is_number_from k_is_number_from) (df_mk X G a_groups_of_step l_groups_of_step c_groups_of_step k_groups_of_step) (df_mk X G a_is_attribute l_is_attribute c_is_attribute k_is_attribute) (df_mk X G a_choices l_choices c_choices k_choices) (df_mk X G a_count_of_cells l_count_of_cells c_count_of_cells k_count_of_cells) (df_mk X G a_group_count l_group_count c_group_count k_group_count) (df_mk X G a_has_levels_up_to l_has_levels_up_to c_has_levels_up_to k_has_levels_up_to) (df_mk X G a_rollups_of l_rollups_of c_rollups_of k_rollups_of) (df_mk X G a_size_of l_size_of c_size_of k_size_of) (df_mk X G a_is_rollup l_is_rollup c_is_rollup k_is_rollup) (df_mk X G a_are_rollups l_are_rollups c_are_rollups k_are_rollups) (df_mk X G a_is_scheme l_is_scheme c_is_scheme k_is_scheme) (df_mk X G a_check_scheme l_check_scheme c_check_scheme k_check_scheme) (df_mk X G a_check_stored l_check_stored c_check_stored k_check_stored) (df_mk X G a_sizes_for l_sizes_for c_sizes_for k_sizes_for) (df_mk X G a_least_of l_least_of c_least_of k_least_of) (df_mk X G a_least_sizes l_least_sizes c_least_sizes k_least_sizes) (df_mk X G a_stored_sizes l_stored_sizes c_stored_sizes k_stored_sizes) (df_mk X G a_total_of l_total_of c_total_of k_total_of) (df_mk X G a_selections l_selections c_selections k_selections) (df_mk X G a_check_many l_check_many c_check_many k_check_many) (df_mk X G a_check_stored_and_all_wanted l_check_stored_and_all_wanted c_check_stored_and_all_wanted k_check_stored_and_all_wanted) (df_mk X G a_needed l_needed c_needed k_needed) (df_mk X G a_cost l_cost c_cost k_cost) (df_mk X G a_best l_best c_best k_best) (df_mk X G a__law_cell l__law_cell c__law_cell k__law_cell) (df_mk X G a__law_source l__law_source c__law_source k__law_source) (df_mk X G a__law_draw l__law_draw c__law_draw k__law_draw) (df_mk X G a__law_is_equal l__law_is_equal c__law_is_equal k__law_is_equal) (df_mk X G a__law_first_right l__law_first_right c__law_first_right k__law_first_right) (df_mk X G a__law_small_right l__law_small_right c__law_small_right k__law_small_right) (df_mk X G a_law l_law c_law k_law)
  exact ⟨fd, hb, fun base _ _ => hF base⟩
end MP
open PySem PySem.W PyProof.Rows
set_option maxHeartbeats 0 in
theorem PySem.Challenge.cw_rolluplevels_k33_plans_by_hand_holds : PySem.Challenge.rw_rolluplevels_k33_plans_by_hand.Holds := by
  w_on; o_law; k_head; (case hw => w_witness2)
  k_fill
  refine RL.walkG (l := PySem.Challenge.rw_rolluplevels_k33_plans_by_hand) (n := 63) (k := 9) (x := "_law_script") (sp := fun K => MP.spF K 1 MP.F_law) rfl (by decide) rfl ⟨rfl, by decide, by decide⟩ (fun w h Y => PySem.W.kIn_of Y) ?F (fun K H a ns hl hS => MP.law_sp (MP.law_true ns hl) hS _)
  case F =>
    intro w mg fa h KX G hmg
    refine' MP.all_mk KX G hmg ?m_MOST_ATTRIBUTES ?m_MOST_VALUES ?m_MOST_STEPS ?m_MOST_CELLS ?m_MOST_STORED ?m_MOST_MORE ?z_isinstance ?z_int ?z_bool ?z_tuple ?z_list ?z_set ?z_len ?z_all ?z_zip ?z_sorted ?z_range ?z_max ?z_min ?z_sum ?z_repr ?z_any ?z_enumerate ?z_str ?a_is_integer ?l_is_integer ?c_is_integer ?k_is_integer ?a_is_number_from ?l_is_number_from ?c_is_number_from ?k_is_number_from ?a_groups_of_step ?l_groups_of_step ?c_groups_of_step ?k_groups_of_step ?a_is_attribute ?l_is_attribute ?c_is_attribute ?k_is_attribute ?a_choices ?l_choices ?c_choices ?k_choices ?a_count_of_cells ?l_count_of_cells ?c_count_of_cells ?k_count_of_cells ?a_group_count ?l_group_count ?c_group_count ?k_group_count ?a_has_levels_up_to ?l_has_levels_up_to ?c_has_levels_up_to ?k_has_levels_up_to ?a_rollups_of ?l_rollups_of ?c_rollups_of ?k_rollups_of ?a_size_of ?l_size_of ?c_size_of ?k_size_of ?a_is_rollup ?l_is_rollup ?c_is_rollup ?k_is_rollup ?a_are_rollups ?l_are_rollups ?c_are_rollups ?k_are_rollups ?a_is_scheme ?l_is_scheme ?c_is_scheme ?k_is_scheme ?a_check_scheme ?l_check_scheme ?c_check_scheme ?k_check_scheme ?a_check_stored ?l_check_stored ?c_check_stored ?k_check_stored ?a_sizes_for ?l_sizes_for ?c_sizes_for ?k_sizes_for ?a_least_of ?l_least_of ?c_least_of ?k_least_of ?a_least_sizes ?l_least_sizes ?c_least_sizes ?k_least_sizes ?a_stored_sizes ?l_stored_sizes ?c_stored_sizes ?k_stored_sizes ?a_total_of ?l_total_of ?c_total_of ?k_total_of ?a_selections ?l_selections ?c_selections ?k_selections ?a_check_many ?l_check_many ?c_check_many ?k_check_many ?a_check_stored_and_all_wanted ?l_check_stored_and_all_wanted ?c_check_stored_and_all_wanted ?k_check_stored_and_all_wanted ?a_needed ?l_needed ?c_needed ?k_needed ?a_cost ?l_cost ?c_cost ?k_cost ?a_best ?l_best ?c_best ?k_best ?a__law_cell ?l__law_cell ?c__law_cell ?k__law_cell ?a__law_source ?l__law_source ?c__law_source ?k__law_source ?a__law_draw ?l__law_draw ?c__law_draw ?k__law_draw ?a__law_is_equal ?l__law_is_equal ?c__law_is_equal ?k__law_is_equal ?a__law_first_right ?l__law_first_right ?c__law_first_right ?k__law_first_right ?a__law_small_right ?l__law_small_right ?c__law_small_right ?k__law_small_right ?a_law ?l_law ?c_law ?k_law
    (case m_MOST_ATTRIBUTES => k_is)
    (case m_MOST_VALUES => k_is)
    (case m_MOST_STEPS => k_is)
    (case m_MOST_CELLS => k_is)
    (case m_MOST_STORED => k_is)
    (case m_MOST_MORE => k_is)
    (case z_isinstance => k_is); (case z_int => k_is); (case z_bool => k_is); (case z_tuple => k_is); (case z_list => k_is); (case z_set => k_is); (case z_len => k_is); (case z_all => k_is); (case z_zip => k_is); (case z_sorted => k_is); (case z_range => k_is); (case z_max => k_is); (case z_min => k_is); (case z_sum => k_is); (case z_repr => k_is); (case z_any => k_is); (case z_enumerate => k_is); (case z_str => k_is)
    (case a_is_integer => k_is); (case l_is_integer => k_is); (case c_is_integer => k_is); (case k_is_integer => k_is)
    (case a_is_number_from => k_is); (case l_is_number_from => k_is); (case c_is_number_from => k_is); (case k_is_number_from => k_is)
    (case a_groups_of_step => k_is); (case l_groups_of_step => k_is); (case c_groups_of_step => k_is); (case k_groups_of_step => k_is)
    (case a_is_attribute => k_is); (case l_is_attribute => k_is); (case c_is_attribute => k_is); (case k_is_attribute => k_is)
    (case a_choices => k_is); (case l_choices => k_is); (case c_choices => k_is); (case k_choices => k_is)
    (case a_count_of_cells => k_is); (case l_count_of_cells => k_is); (case c_count_of_cells => k_is); (case k_count_of_cells => k_is)
    (case a_group_count => k_is); (case l_group_count => k_is); (case c_group_count => k_is); (case k_group_count => k_is)
    (case a_has_levels_up_to => k_is); (case l_has_levels_up_to => k_is); (case c_has_levels_up_to => k_is); (case k_has_levels_up_to => k_is)
    (case a_rollups_of => k_is); (case l_rollups_of => k_is); (case c_rollups_of => k_is); (case k_rollups_of => k_is)
    (case a_size_of => k_is); (case l_size_of => k_is); (case c_size_of => k_is); (case k_size_of => k_is)
    (case a_is_rollup => k_is); (case l_is_rollup => k_is); (case c_is_rollup => k_is); (case k_is_rollup => k_is)
    (case a_are_rollups => k_is); (case l_are_rollups => k_is); (case c_are_rollups => k_is); (case k_are_rollups => k_is)
    (case a_is_scheme => k_is); (case l_is_scheme => k_is); (case c_is_scheme => k_is); (case k_is_scheme => k_is)
    (case a_check_scheme => k_is); (case l_check_scheme => k_is); (case c_check_scheme => k_is); (case k_check_scheme => k_is)
    (case a_check_stored => k_is); (case l_check_stored => k_is); (case c_check_stored => k_is); (case k_check_stored => k_is)
    (case a_sizes_for => k_is); (case l_sizes_for => k_is); (case c_sizes_for => k_is); (case k_sizes_for => k_is)
    (case a_least_of => k_is); (case l_least_of => k_is); (case c_least_of => k_is); (case k_least_of => k_is)
    (case a_least_sizes => k_is); (case l_least_sizes => k_is); (case c_least_sizes => k_is); (case k_least_sizes => k_is)
    (case a_stored_sizes => k_is); (case l_stored_sizes => k_is); (case c_stored_sizes => k_is); (case k_stored_sizes => k_is)
    (case a_total_of => k_is); (case l_total_of => k_is); (case c_total_of => k_is); (case k_total_of => k_is)
    (case a_selections => k_is); (case l_selections => k_is); (case c_selections => k_is); (case k_selections => k_is)
    (case a_check_many => k_is); (case l_check_many => k_is); (case c_check_many => k_is); (case k_check_many => k_is)
    (case a_check_stored_and_all_wanted => k_is); (case l_check_stored_and_all_wanted => k_is); (case c_check_stored_and_all_wanted => k_is); (case k_check_stored_and_all_wanted => k_is)
    (case a_needed => k_is); (case l_needed => k_is); (case c_needed => k_is); (case k_needed => k_is)
    (case a_cost => k_is); (case l_cost => k_is); (case c_cost => k_is); (case k_cost => k_is)
    (case a_best => k_is); (case l_best => k_is); (case c_best => k_is); (case k_best => k_is)
    (case a__law_cell => k_is); (case l__law_cell => k_is); (case c__law_cell => k_is); (case k__law_cell => k_is)
    (case a__law_source => k_is); (case l__law_source => k_is); (case c__law_source => k_is); (case k__law_source => k_is)
    (case a__law_draw => k_is); (case l__law_draw => k_is); (case c__law_draw => k_is); (case k__law_draw => k_is)
    (case a__law_is_equal => k_is); (case l__law_is_equal => k_is); (case c__law_is_equal => k_is); (case k__law_is_equal => k_is)
    (case a__law_first_right => k_is); (case l__law_first_right => k_is); (case c__law_first_right => k_is); (case k__law_first_right => k_is)
    (case a__law_small_right => k_is); (case l__law_small_right => k_is); (case c__law_small_right => k_is); (case k__law_small_right => k_is)
    (case a_law => k_is); (case l_law => k_is); (case c_law => k_is); (case k_law => k_is)
