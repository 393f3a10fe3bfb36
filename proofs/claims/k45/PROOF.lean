import PyProof.Rows.All
import Wide.All
import OpenK.AllK
import Wide.FinOn
import HandS.Words
import HandS.Head0
import HandS.Head1
import HandS.Head2
import HandS.HeadEnd
import HandS.HeadHook1
import HandS.HeadHook2
import HandS.HeadHook4
import HandS.Call
import KE.DataMinMax
import KE.GoesMore
import KE.GoesZip
import HandS.ForMost
import HandS.Walk
import HandS.Zip
import HandS.Conv
import HandS.IsInst
import HandS.Strs
import HandS.SetFor
import HandS.Wide
import HandS.Flow
import HandS.TupMul
import HandS.TupAny
import HandS.Codes
import HandS.Star
import HandS.Dict
import KE.KDictKeyed
import HandS.Lambda
import KE.DataEq
import KE.LtData
import KE.DataCmp
import KE.DataAny
import KE.DataFind
import KE.DataIsa
import HandS.Deep
import HandS.TupSets
import KE.KIndexOf
import KE.DatumIndex
import HandS.WideBits
import HandS.SortKw
import HandS.Style
import HandS.WordsExc
import HandS.TryOnly
import HandS.ExcOwn
import HandS.RaiseMore
import KE.KUnpackStar
import HandS.Text
import HandS.StrMore
import HandS.FStr
import HandS.ExcIs
import PyProof.StrBlock2
import HandS.TryMany
import HandS.EndTab
import HandS.Defaults
import PyProof.ReprDict
import PyProof.InstSpecial
import HandS.Iter
import HandS.Property
import HandS.HotCalls
import HandS.GenList
import KE.GoesEnum
import PySem.Challenge.RW_rolluplevels_k45_cubes_made
set_option Elab.async false
set_option linter.all false
set_option maxRecDepth 100000
set_option maxHeartbeats 4000000
namespace MP
open PySem PySem.Spec PyProof.Rows L2
/-! ### the head by one run: what the end leans on, looked up in the heap behind the top -/
/-- the objects that these name, some steps on -/
def reach (g : Addr → Option Obj) : Nat → List Addr → List Addr
  | 0, as => as
  | n + 1, as => as ++ reach g n (as.flatMap fun a => match g a with
    | some o => He.refsD o
    | none => [])
abbrev FnW : Type := Option (Str × Str × Arguments × FuncBody × Scope × Addr × List (Str × Addr) × Addr)
def fnWA (K : PySem.W.Frag) (a : Addr) : FnW := match K.lookup a with
  | some ⟨_, _, .func fd, _⟩ => some (fd.name, fd.qualname, fd.params, fd.body, fd.scope, fd.globals, fd.closure, fd.builtins)
  | _ => none
/-- a def: where it stands, what it is -/
structure DfO where
  adr : PySem.W.Frag → Addr
  name : Str
  qual : Str
  st : Stmt
  dfl : List He.Dv
def DfO.val (d : DfO) : FnW := some (d.name, d.qual, defArgs d.st, .stmts (defBody d.st), defScope d.st, mainGlobals, [], builtinsNs)
def DfO.ok (K : PySem.W.Frag) (d : DfO) : Bool := PySem.W.keepIn K (.ref (d.adr K)) && (match K.lookup (d.adr K) with
  | some ⟨_, _, .func fd, _⟩ => PySem.W.codeIn K fd.code d.qual && He.dflB K fd.defaults (d.dfl.map (He.Dv.v K))
  | _ => false)
abbrev ObO : Type := Bool × List FnW
def obsO (cs : List (PySem.W.Frag → Bool)) (fn : List DfO) (K : PySem.W.Frag) : ObO := ((cs.all fun c => c K) && fn.all fun d => d.ok K, fn.map fun d => fnWA K (d.adr K))
def valO (fn : List DfO) : ObO := (true, fn.map DfO.val)
/-! ### looks -/
def gaB (x : Str) (K : PySem.W.Frag) : Bool := (He.Fa.glo x).ok K
def freeB (x : Str) (K : PySem.W.Frag) : Bool := (He.Fa.free x).ok K
def intB (x : Str) (i : Int) (K : PySem.W.Frag) : Bool := (He.Fa.int x i).ok K
/-- the class C of that name -/
def insB (x : Str) (K : PySem.W.Frag) : Bool :=
  decide (PySem.W.nsIn K mainGlobals x = some (some (.ref (He.ga K x)))) && ((He.Fa.cls x).ok K && (decide (PySem.W.findIn K (.ref (He.ga K x)) "__class__" = some (some (.builtin "object.__class__"))) &&
  (decide (PySem.W.specialIn K (.builtin "object.__class__") "__get__" = some (some (.builtin "getset_descriptor.__get__"))) && (decide (PySem.W.takesIn K (.builtin "object.__class__") = some true) && (decide (PySem.W.mroIn K (He.ga K x) (.type "object") = some true) &&
  ((["int", "str", "tuple", "list", "bool"].all fun T => decide (PySem.W.mroIn K (He.ga K x) (.type T) = some false)) && (["attributes", "states", "limit"].all fun f => decide (PySem.W.findIn K (.ref (He.ga K x)) (Str.ofString f) = some none))))))))
def madeB (x : Str) (K : PySem.W.Frag) : Bool := PySem.W.makesIn K (He.ga K x) && (decide (PySem.W.findIn K (.ref (He.ga K x)) "__init__" = some (some (.ref (He.ma K (He.ga K x) "__init__")))) && (PySem.W.isFn K (.ref (He.ma K (He.ga K x) "__init__")) && PySem.W.keepIn K (.ref (He.ga K x))))
def methB (x m : Str) (K : PySem.W.Frag) : Bool := (He.Fa.meth x m).ok K
/-- the getter of the property that stands under that name -/
def getA (x m : Str) (K : PySem.W.Frag) : Addr := match PySem.W.recIn K (He.ma K (He.ga K x) m) "property" with
  | some (.ref g :: _) => g
  | _ => 0
def propB (x m : Str) (K : PySem.W.Frag) : Bool := decide (PySem.W.findIn K (.ref (He.ga K x)) m = some (some (.ref (He.ma K (He.ga K x) m)))) && (decide (PySem.W.specialIn K (.ref (He.ma K (He.ga K x) m)) "__get__" = some (some (.builtin "property.__get__"))) && (decide (PySem.W.takesIn K (.ref (He.ma K (He.ga K x) m)) = some true) &&
  (match PySem.W.recIn K (He.ma K (He.ga K x) m) "property" with
    | some (.ref _ :: _) => true
    | _ => false)))
/-! ### where a def makes lambdas: its table stands off the part that is known -/
def tabB (x : Str) (K : PySem.W.Frag) : Bool := match PySem.W.tabIn K x with
  | some p => (K.lookup p.2).isNone
  | none => false
end MP
namespace MP
open PySem PySem.Spec PyProof.Rows L2
/-! ### the tables of several defs stand apart -/
def tabsB (xs : List Str) (K : PySem.W.Frag) : Bool := decide ((xs.map fun x => (PySem.W.tabIn K x).map (·.2)).Nodup)
/-! ### the end looked at in parts, each by a run of its own (less memory at once) -/
abbrev Part : Type := List (PySem.W.Frag → Bool) × List DfO
abbrev Kfn : Type := (Addr → Option Obj) → PySem.W.Frag
def kT (n : Nat) : Kfn := fun g => He.frT g (reach g n [mainGlobals])
theorem kT_in {n : Nat} {h : Heap} : (kT n h.get?).In h := He.frT_in
def obsK (kf : Kfn) (l : List Part) (g : Addr → Option Obj) : List ObO := l.map fun p => obsO p.1 p.2 (kf g)
theorem obsK_at {kf : Kfn} (l : List Part) (g : Addr → Option Obj) : obsK kf l g = (l.map fun p => valO p.2) ↔ ∀ p ∈ l, obsO p.1 p.2 (kf g) = valO p.2 := by
  unfold obsK
  exact List.map_inj_left
def hookK (kf : Kfn) (hin : ∀ h : Heap, (kf h.get?).In h) (l : List Part) : PySem.W.Hook where
  α := List ObO
  obs := fun s => obsK kf l s.heap.get?
  val := fun _ => l.map fun p => valO p.2
  says := fun _ h => ∃ K : PySem.W.Frag, K.In h ∧ ∀ p ∈ l, obsO p.1 p.2 K = valO p.2
  of := fun _ s e => ⟨kf s.heap.get?, hin _, fun p hp => (obsK_at l _).mp e p hp⟩
  keeps := fun _ _ _ ⟨K, hK, c⟩ k => ⟨K, PySem.W.Frag.In.keeps hK k, c⟩
def obK (kf : Kfn) (l : List Part) (s : PySem.W.SharedT) : List ObO := obsK kf l (HandSHeadRun.getT s)
theorem obK_eq {kf : Kfn} {hin : ∀ h : Heap, (kf h.get?).In h} {l : List Part} (s : PySem.W.SharedT) : obK kf l s = (hookK kf hin l).obs s.abs := by
  have e : HandSHeadRun.getT s = s.abs.heap.get? := funext (HandSHeadRun.getT_eq s)
  unfold obK
  rw [e]
  rfl
theorem run_app {r : PySem.W.OpenRow} {q : Program} {kf : Kfn} {hin : ∀ h : Heap, (kf h.get?).In h} {l1 l2 : List Part} {M : Nat} {loose : List Str} {w : World} (h1 : HandSHeadRun.RunEq r q (hookK kf hin l1) (obK kf l1) M loose w) (h2 : HandSHeadRun.RunEq r q (hookK kf hin l2) (obK kf l2) M loose w) :
    HandSHeadRun.RunEq r q (hookK kf hin (l1 ++ l2)) (obK kf (l1 ++ l2)) M loose w := by
  intro os
  obtain ⟨s, e, f1⟩ := Option.map_eq_some_iff.mp (h1 os)
  obtain ⟨s', e', f2⟩ := Option.map_eq_some_iff.mp (h2 os)
  have es : s = s' := Option.some.inj (e.symm.trans e')
  subst es
  refine Option.map_eq_some_iff.mpr ⟨s, e, ?_⟩
  have g1 : obK kf l1 s = l1.map fun p => valO p.2 := congrArg (fun z => z.2.2) f1
  have g2 : obK kf l2 s = l2.map fun p => valO p.2 := congrArg (fun z => z.2.2) f2
  have g3 : obK kf (l1 ++ l2) s = (l1 ++ l2).map fun p => valO p.2 := by
    unfold obK obsK at g1 g2 ⊢
    rw [List.map_append, List.map_append, g1, g2]
  have a1 := congrArg (fun z => z.1) f1
  have a2 := congrArg (fun z => z.2.1) f1
  exact Prod.ext a1 (Prod.ext a2 g3)
theorem obsO_app {a1 a2 : List (PySem.W.Frag → Bool)} {b1 b2 : List DfO} {K : PySem.W.Frag} (h1 : obsO a1 b1 K = valO b1) (h2 : obsO a2 b2 K = valO b2) : obsO (a1 ++ a2) (b1 ++ b2) K = valO (b1 ++ b2) := by
  have x1 : ((a1.all fun c => c K) && b1.all fun d => d.ok K) = true := congrArg (fun z : ObO => z.1) h1
  have x2 : ((a2.all fun c => c K) && b2.all fun d => d.ok K) = true := congrArg (fun z : ObO => z.1) h2
  have y1 : b1.map (fun d => fnWA K (d.adr K)) = b1.map DfO.val := congrArg (fun z : ObO => z.2) h1
  have y2 : b2.map (fun d => fnWA K (d.adr K)) = b2.map DfO.val := congrArg (fun z : ObO => z.2) h2
  simp only [Bool.and_eq_true] at x1 x2
  unfold obsO valO
  rw [List.all_append, List.all_append, List.map_append, List.map_append, x1.1, x1.2, x2.1, x2.2, y1, y2]
  rfl
/-- the looks, cut into k + 1 parts -/
def cutP (a b : Nat) : Nat → List (PySem.W.Frag → Bool) → List DfO → List Part
  | 0, cs, fn => [(cs, fn)]
  | k + 1, cs, fn => (cs.take a, fn.take b) :: cutP a b k (cs.drop a) (fn.drop b)
theorem all_parts {K : PySem.W.Frag} {a b : Nat} : ∀ {k : Nat} {cs : List (PySem.W.Frag → Bool)} {fn : List DfO}, (∀ p ∈ cutP a b k cs fn, obsO p.1 p.2 K = valO p.2) → obsO cs fn K = valO fn
  | 0, cs, fn, h => h _ (.head _)
  | k + 1, cs, fn, h => by
    have z := obsO_app (h _ (.head _)) (all_parts fun p hp => h p (.tail _ hp))
    rw [List.take_append_drop, List.take_append_drop] at z
    exact z
end MP
namespace MP
open PySem PySem.Spec PyProof.Rows L2
def topS (i : Nat) : Stmt := PySem.Challenge.pw_rolluplevels_k45_cubes_made.main.body.getD i (.Pass ⟨0, 0, 0, 0⟩)
abbrev s__wall : Stmt := topS 0
abbrev s_is_integer : Stmt := topS 23
abbrev s_is_number_from : Stmt := topS 24
abbrev s_are_integers : Stmt := topS 25
abbrev s_are_numbers_below : Stmt := topS 26
abbrev s_written : Stmt := topS 27
abbrev s_groups_of_step : Stmt := topS 33
abbrev s_is_attribute : Stmt := topS 34
abbrev s_count_of_cells : Stmt := topS 35
abbrev s_group_count : Stmt := topS 36
abbrev s_group_counts : Stmt := topS 37
abbrev s_groups_above : Stmt := topS 38
abbrev s_finest : Stmt := topS 39
abbrev s_size_of : Stmt := topS 40
abbrev s_place_of : Stmt := topS 41
abbrev s_is_rollup : Stmt := topS 42
abbrev s_is_cell : Stmt := topS 43
abbrev s_is_scheme : Stmt := topS 47
abbrev s_check_scheme : Stmt := topS 44
abbrev s_check_rollup : Stmt := topS 45
abbrev s_check_cell : Stmt := topS 46
abbrev s_is_table_of : Stmt := topS 50
abbrev s_turned : Stmt := topS 51
abbrev s_added_up : Stmt := topS 52
abbrev s_sums_at : Stmt := topS 53
abbrev s_no_amounts : Stmt := topS 54
abbrev s_with_more : Stmt := topS 55
abbrev s_check_put : Stmt := topS 56
abbrev s_check_table : Stmt := topS 57
abbrev s__law_cell : Stmt := topS 62
abbrev s__law_draws : Stmt := topS 63
abbrev s__law_is_same : Stmt := topS 64
abbrev s__law_attribute : Stmt := topS 65
abbrev s__law_scheme : Stmt := topS 66
abbrev s__law_below : Stmt := topS 67
abbrev s__law_fine_cells : Stmt := topS 68
abbrev s__law_table : Stmt := topS 69
abbrev s__law_no_schemes : Stmt := topS 70
abbrev s_Cube_total : Stmt := inClass (topS 60) 4
abbrev s_Cube_len : Stmt := inClass (topS 60) 17
abbrev s_Cube_repr : Stmt := inClass (topS 60) 19
abbrev s__law_said : Stmt := topS 71
abbrev s_Cube_scheme : Stmt := inClass (topS 60) 1
abbrev s_Cube_table : Stmt := inClass (topS 60) 2
abbrev s_Cube_changes : Stmt := inClass (topS 60) 5
abbrev s__law_told : Stmt := topS 72
abbrev s__law_due : Stmt := topS 73
abbrev s__law_no_tables : Stmt := topS 74
abbrev s_Cube : Stmt := inClass (topS 60) 0
abbrev s_law : Stmt := topS 75
abbrev fnL : List DfO := [⟨(fun K => He.ga K "_wall"), "_wall", "_wall", s__wall, []⟩,
  ⟨(fun K => He.ga K "is_integer"), "is_integer", "is_integer", s_is_integer, []⟩,
  ⟨(fun K => He.ga K "is_number_from"), "is_number_from", "is_number_from", s_is_number_from, []⟩,
  ⟨(fun K => He.ga K "are_integers"), "are_integers", "are_integers", s_are_integers, []⟩,
  ⟨(fun K => He.ga K "are_numbers_below"), "are_numbers_below", "are_numbers_below", s_are_numbers_below, []⟩,
  ⟨(fun K => He.ga K "written"), "written", "written", s_written, []⟩,
  ⟨(fun K => He.ga K "groups_of_step"), "groups_of_step", "groups_of_step", s_groups_of_step, []⟩,
  ⟨(fun K => He.ga K "is_attribute"), "is_attribute", "is_attribute", s_is_attribute, []⟩,
  ⟨(fun K => He.ga K "count_of_cells"), "count_of_cells", "count_of_cells", s_count_of_cells, []⟩,
  ⟨(fun K => He.ga K "group_count"), "group_count", "group_count", s_group_count, []⟩,
  ⟨(fun K => He.ga K "group_counts"), "group_counts", "group_counts", s_group_counts, []⟩,
  ⟨(fun K => He.ga K "groups_above"), "groups_above", "groups_above", s_groups_above, []⟩,
  ⟨(fun K => He.ga K "finest"), "finest", "finest", s_finest, []⟩,
  ⟨(fun K => He.ga K "size_of"), "size_of", "size_of", s_size_of, []⟩,
  ⟨(fun K => He.ga K "place_of"), "place_of", "place_of", s_place_of, []⟩,
  ⟨(fun K => He.ga K "is_rollup"), "is_rollup", "is_rollup", s_is_rollup, []⟩,
  ⟨(fun K => He.ga K "is_cell"), "is_cell", "is_cell", s_is_cell, []⟩,
  ⟨(fun K => He.ga K "is_scheme"), "is_scheme", "is_scheme", s_is_scheme, []⟩,
  ⟨(fun K => He.ga K "check_scheme"), "check_scheme", "check_scheme", s_check_scheme, []⟩,
  ⟨(fun K => He.ga K "check_rollup"), "check_rollup", "check_rollup", s_check_rollup, []⟩,
  ⟨(fun K => He.ga K "check_cell"), "check_cell", "check_cell", s_check_cell, []⟩,
  ⟨(fun K => He.ga K "is_table_of"), "is_table_of", "is_table_of", s_is_table_of, []⟩,
  ⟨(fun K => He.ga K "turned"), "turned", "turned", s_turned, []⟩,
  ⟨(fun K => He.ga K "added_up"), "added_up", "added_up", s_added_up, []⟩,
  ⟨(fun K => He.ga K "sums_at"), "sums_at", "sums_at", s_sums_at, []⟩,
  ⟨(fun K => He.ga K "no_amounts"), "no_amounts", "no_amounts", s_no_amounts, []⟩,
  ⟨(fun K => He.ga K "with_more"), "with_more", "with_more", s_with_more, []⟩,
  ⟨(fun K => He.ga K "check_put"), "check_put", "check_put", s_check_put, []⟩,
  ⟨(fun K => He.ga K "check_table"), "check_table", "check_table", s_check_table, []⟩,
  ⟨(fun K => He.ga K "_law_cell"), "_law_cell", "_law_cell", s__law_cell, []⟩,
  ⟨(fun K => He.ga K "_law_draws"), "_law_draws", "_law_draws", s__law_draws, []⟩,
  ⟨(fun K => He.ga K "_law_is_same"), "_law_is_same", "_law_is_same", s__law_is_same, []⟩,
  ⟨(fun K => He.ga K "_law_attribute"), "_law_attribute", "_law_attribute", s__law_attribute, []⟩,
  ⟨(fun K => He.ga K "_law_scheme"), "_law_scheme", "_law_scheme", s__law_scheme, []⟩,
  ⟨(fun K => He.ga K "_law_below"), "_law_below", "_law_below", s__law_below, []⟩,
  ⟨(fun K => He.ga K "_law_fine_cells"), "_law_fine_cells", "_law_fine_cells", s__law_fine_cells, []⟩,
  ⟨(fun K => He.ga K "_law_table"), "_law_table", "_law_table", s__law_table, []⟩,
  ⟨(fun K => He.ga K "_law_no_schemes"), "_law_no_schemes", "_law_no_schemes", s__law_no_schemes, []⟩,
  ⟨(fun K => He.ga K "_law_said"), "_law_said", "_law_said", s__law_said, []⟩,
  ⟨(fun K => He.ga K "_law_told"), "_law_told", "_law_told", s__law_told, []⟩,
  ⟨(fun K => He.ga K "_law_due"), "_law_due", "_law_due", s__law_due, []⟩,
  ⟨(fun K => He.ga K "_law_no_tables"), "_law_no_tables", "_law_no_tables", s__law_no_tables, []⟩,
  ⟨(fun K => He.ga K "law"), "law", "law", s_law, []⟩,
  ⟨(fun K => He.ma K (He.ga K "Cube") "__init__"), "__init__", "Cube.__init__", s_Cube, [.non]⟩,
  ⟨(getA "Cube" "total"), "total", "Cube.total", s_Cube_total, []⟩,
  ⟨(fun K => He.ma K (He.ga K "Cube") "__len__"), "__len__", "Cube.__len__", s_Cube_len, []⟩,
  ⟨(fun K => He.ma K (He.ga K "Cube") "__repr__"), "__repr__", "Cube.__repr__", s_Cube_repr, []⟩,
  ⟨(getA "Cube" "scheme"), "scheme", "Cube.scheme", s_Cube_scheme, []⟩,
  ⟨(getA "Cube" "table"), "table", "Cube.table", s_Cube_table, []⟩,
  ⟨(getA "Cube" "changes"), "changes", "Cube.changes", s_Cube_changes, []⟩]
abbrev csL : List (PySem.W.Frag → Bool) := [fun K => decide (PySem.W.nsIn K mainGlobals "AmountError" = some (some (.ref (He.ga K "AmountError")))),
  fun K => decide (PySem.W.subIn K (.ref (He.ga K "AmountError")) (.type "BaseException") = some true),
  fun K => decide (PySem.W.typeIn K (.ref (He.ga K "AmountError")) = some (.type "type")),
  fun K => decide (PySem.W.nsIn K mainGlobals "CellError" = some (some (.ref (He.ga K "CellError")))),
  fun K => decide (PySem.W.subIn K (.ref (He.ga K "CellError")) (.type "BaseException") = some true),
  fun K => decide (PySem.W.typeIn K (.ref (He.ga K "CellError")) = some (.type "type")),
  fun K => decide (PySem.W.nsIn K mainGlobals "CubeError" = some (some (.ref (He.ga K "CubeError")))),
  fun K => decide (PySem.W.subIn K (.ref (He.ga K "CubeError")) (.type "BaseException") = some true),
  fun K => decide (PySem.W.typeIn K (.ref (He.ga K "CubeError")) = some (.type "type")),
  fun K => decide (PySem.W.nsIn K mainGlobals "LevelsError" = some (some (.ref (He.ga K "LevelsError")))),
  fun K => decide (PySem.W.subIn K (.ref (He.ga K "LevelsError")) (.type "BaseException") = some true),
  fun K => decide (PySem.W.typeIn K (.ref (He.ga K "LevelsError")) = some (.type "type")),
  fun K => decide (PySem.W.nsIn K mainGlobals "LimitError" = some (some (.ref (He.ga K "LimitError")))),
  fun K => decide (PySem.W.subIn K (.ref (He.ga K "LimitError")) (.type "BaseException") = some true),
  fun K => decide (PySem.W.typeIn K (.ref (He.ga K "LimitError")) = some (.type "type")),
  fun K => decide (PySem.W.nsIn K mainGlobals "MatchError" = some (some (.ref (He.ga K "MatchError")))),
  fun K => decide (PySem.W.subIn K (.ref (He.ga K "MatchError")) (.type "BaseException") = some true),
  fun K => decide (PySem.W.typeIn K (.ref (He.ga K "MatchError")) = some (.type "type")),
  fun K => decide (PySem.W.nsIn K mainGlobals "NothingDone" = some (some (.ref (He.ga K "NothingDone")))),
  fun K => decide (PySem.W.subIn K (.ref (He.ga K "NothingDone")) (.type "BaseException") = some true),
  fun K => decide (PySem.W.typeIn K (.ref (He.ga K "NothingDone")) = some (.type "type")),
  fun K => decide (PySem.W.nsIn K mainGlobals "NumberError" = some (some (.ref (He.ga K "NumberError")))),
  fun K => decide (PySem.W.subIn K (.ref (He.ga K "NumberError")) (.type "BaseException") = some true),
  fun K => decide (PySem.W.typeIn K (.ref (He.ga K "NumberError")) = some (.type "type")),
  fun K => decide (PySem.W.nsIn K mainGlobals "OrderError" = some (some (.ref (He.ga K "OrderError")))),
  fun K => decide (PySem.W.subIn K (.ref (He.ga K "OrderError")) (.type "BaseException") = some true),
  fun K => decide (PySem.W.typeIn K (.ref (He.ga K "OrderError")) = some (.type "type")),
  fun K => decide (PySem.W.nsIn K mainGlobals "PlaceError" = some (some (.ref (He.ga K "PlaceError")))),
  fun K => decide (PySem.W.subIn K (.ref (He.ga K "PlaceError")) (.type "BaseException") = some true),
  fun K => decide (PySem.W.typeIn K (.ref (He.ga K "PlaceError")) = some (.type "type")),
  fun K => decide (PySem.W.nsIn K mainGlobals "ReportError" = some (some (.ref (He.ga K "ReportError")))),
  fun K => decide (PySem.W.subIn K (.ref (He.ga K "ReportError")) (.type "BaseException") = some true),
  fun K => decide (PySem.W.typeIn K (.ref (He.ga K "ReportError")) = some (.type "type")),
  fun K => decide (PySem.W.nsIn K mainGlobals "RollupError" = some (some (.ref (He.ga K "RollupError")))),
  fun K => decide (PySem.W.subIn K (.ref (He.ga K "RollupError")) (.type "BaseException") = some true),
  fun K => decide (PySem.W.typeIn K (.ref (He.ga K "RollupError")) = some (.type "type")),
  fun K => decide (PySem.W.nsIn K mainGlobals "SchemeError" = some (some (.ref (He.ga K "SchemeError")))),
  fun K => decide (PySem.W.subIn K (.ref (He.ga K "SchemeError")) (.type "BaseException") = some true),
  fun K => decide (PySem.W.typeIn K (.ref (He.ga K "SchemeError")) = some (.type "type")),
  fun K => decide (PySem.W.nsIn K mainGlobals "StoredError" = some (some (.ref (He.ga K "StoredError")))),
  fun K => decide (PySem.W.subIn K (.ref (He.ga K "StoredError")) (.type "BaseException") = some true),
  fun K => decide (PySem.W.typeIn K (.ref (He.ga K "StoredError")) = some (.type "type")),
  fun K => decide (PySem.W.nsIn K mainGlobals "SumsError" = some (some (.ref (He.ga K "SumsError")))),
  fun K => decide (PySem.W.subIn K (.ref (He.ga K "SumsError")) (.type "BaseException") = some true),
  fun K => decide (PySem.W.typeIn K (.ref (He.ga K "SumsError")) = some (.type "type")),
  fun K => decide (PySem.W.nsIn K mainGlobals "TableError" = some (some (.ref (He.ga K "TableError")))),
  fun K => decide (PySem.W.subIn K (.ref (He.ga K "TableError")) (.type "BaseException") = some true),
  fun K => decide (PySem.W.typeIn K (.ref (He.ga K "TableError")) = some (.type "type")),
  fun K => decide (PySem.W.nsIn K mainGlobals "TextError" = some (some (.ref (He.ga K "TextError")))),
  fun K => decide (PySem.W.subIn K (.ref (He.ga K "TextError")) (.type "BaseException") = some true),
  fun K => decide (PySem.W.typeIn K (.ref (He.ga K "TextError")) = some (.type "type")),
  fun K => decide (PySem.W.nsIn K mainGlobals "Unknown" = some (some (.ref (He.ga K "Unknown")))),
  fun K => decide (PySem.W.subIn K (.ref (He.ga K "Unknown")) (.type "BaseException") = some true),
  fun K => decide (PySem.W.typeIn K (.ref (He.ga K "Unknown")) = some (.type "type")),
  fun K => decide (PySem.W.excIn K (He.ga K "AmountError") [.type "ValueError", .type "Exception", .type "BaseException", .type "object"] "ValueError.__new__" = true),
  fun K => decide (PySem.W.keepIn K (.ref (He.ga K "AmountError")) = true),
  fun K => decide (PySem.W.excIn K (He.ga K "CellError") [.type "ValueError", .type "Exception", .type "BaseException", .type "object"] "ValueError.__new__" = true),
  fun K => decide (PySem.W.keepIn K (.ref (He.ga K "CellError")) = true),
  fun K => decide (PySem.W.excIn K (He.ga K "RollupError") [.type "ValueError", .type "Exception", .type "BaseException", .type "object"] "ValueError.__new__" = true),
  fun K => decide (PySem.W.keepIn K (.ref (He.ga K "RollupError")) = true),
  fun K => decide (PySem.W.excIn K (He.ga K "SchemeError") [.type "ValueError", .type "Exception", .type "BaseException", .type "object"] "ValueError.__new__" = true),
  fun K => decide (PySem.W.keepIn K (.ref (He.ga K "SchemeError")) = true),
  fun K => decide (PySem.W.excIn K (He.ga K "TableError") [.type "ValueError", .type "Exception", .type "BaseException", .type "object"] "ValueError.__new__" = true),
  fun K => decide (PySem.W.keepIn K (.ref (He.ga K "TableError")) = true),
  fun K => decide (PySem.W.hasDictIn K (He.ga K "AmountError") = true),
  fun K => decide (PySem.W.hasDictIn K (He.ga K "CellError") = true),
  fun K => decide (PySem.W.hasDictIn K (He.ga K "CubeError") = true),
  fun K => decide (PySem.W.hasDictIn K (He.ga K "LevelsError") = true),
  fun K => decide (PySem.W.hasDictIn K (He.ga K "LimitError") = true),
  fun K => decide (PySem.W.hasDictIn K (He.ga K "MatchError") = true),
  fun K => decide (PySem.W.hasDictIn K (He.ga K "NothingDone") = true),
  fun K => decide (PySem.W.hasDictIn K (He.ga K "NumberError") = true),
  fun K => decide (PySem.W.hasDictIn K (He.ga K "OrderError") = true),
  fun K => decide (PySem.W.hasDictIn K (He.ga K "PlaceError") = true),
  fun K => decide (PySem.W.hasDictIn K (He.ga K "ReportError") = true),
  fun K => decide (PySem.W.hasDictIn K (He.ga K "RollupError") = true),
  fun K => decide (PySem.W.hasDictIn K (He.ga K "SchemeError") = true),
  fun K => decide (PySem.W.hasDictIn K (He.ga K "StoredError") = true),
  fun K => decide (PySem.W.hasDictIn K (He.ga K "SumsError") = true),
  fun K => decide (PySem.W.hasDictIn K (He.ga K "TableError") = true),
  fun K => decide (PySem.W.hasDictIn K (He.ga K "TextError") = true),
  fun K => decide (PySem.W.hasDictIn K (He.ga K "Unknown") = true),
  fun K => decide (PySem.W.subIn K (.ref (He.ga K "SchemeError")) (.ref (He.ga K "Unknown")) = some false),
  fun K => decide (PySem.W.subIn K (.ref (He.ga K "SchemeError")) (.ref (He.ga K "LimitError")) = some false),
  fun K => decide (PySem.W.subIn K (.ref (He.ga K "SchemeError")) (.ref (He.ga K "LevelsError")) = some true),
  fun K => decide (PySem.W.subIn K (.ref (He.ga K "SchemeError")) (.ref (He.ga K "SchemeError")) = some true),
  fun K => decide (PySem.W.subIn K (.ref (He.ga K "SchemeError")) (.ref (He.ga K "RollupError")) = some false),
  fun K => decide (PySem.W.subIn K (.ref (He.ga K "SchemeError")) (.ref (He.ga K "CellError")) = some false),
  fun K => decide (PySem.W.subIn K (.ref (He.ga K "SchemeError")) (.ref (He.ga K "TableError")) = some false),
  fun K => decide (PySem.W.subIn K (.ref (He.ga K "SchemeError")) (.ref (He.ga K "StoredError")) = some false),
  fun K => decide (PySem.W.subIn K (.ref (He.ga K "SchemeError")) (.ref (He.ga K "ReportError")) = some false),
  fun K => decide (PySem.W.subIn K (.ref (He.ga K "SchemeError")) (.ref (He.ga K "NumberError")) = some false),
  fun K => decide (PySem.W.subIn K (.ref (He.ga K "SchemeError")) (.ref (He.ga K "AmountError")) = some false),
  fun K => decide (PySem.W.subIn K (.ref (He.ga K "SchemeError")) (.ref (He.ga K "CubeError")) = some false),
  fun K => decide (PySem.W.subIn K (.ref (He.ga K "SchemeError")) (.ref (He.ga K "MatchError")) = some false),
  fun K => decide (PySem.W.subIn K (.ref (He.ga K "SchemeError")) (.ref (He.ga K "PlaceError")) = some false),
  fun K => decide (PySem.W.subIn K (.ref (He.ga K "SchemeError")) (.ref (He.ga K "TextError")) = some false),
  fun K => decide (PySem.W.subIn K (.ref (He.ga K "SchemeError")) (.ref (He.ga K "NothingDone")) = some false),
  fun K => decide (PySem.W.subIn K (.ref (He.ga K "SchemeError")) (.ref (He.ga K "OrderError")) = some false),
  fun K => decide (PySem.W.subIn K (.ref (He.ga K "SchemeError")) (.ref (He.ga K "SumsError")) = some false),
  fun K => decide (PySem.W.subIn K (.ref (He.ga K "TableError")) (.ref (He.ga K "Unknown")) = some false),
  fun K => decide (PySem.W.subIn K (.ref (He.ga K "TableError")) (.ref (He.ga K "LimitError")) = some false),
  fun K => decide (PySem.W.subIn K (.ref (He.ga K "TableError")) (.ref (He.ga K "LevelsError")) = some true),
  fun K => decide (PySem.W.subIn K (.ref (He.ga K "TableError")) (.ref (He.ga K "SchemeError")) = some false),
  fun K => decide (PySem.W.subIn K (.ref (He.ga K "TableError")) (.ref (He.ga K "RollupError")) = some false),
  fun K => decide (PySem.W.subIn K (.ref (He.ga K "TableError")) (.ref (He.ga K "CellError")) = some false),
  fun K => decide (PySem.W.subIn K (.ref (He.ga K "TableError")) (.ref (He.ga K "TableError")) = some true),
  fun K => decide (PySem.W.subIn K (.ref (He.ga K "TableError")) (.ref (He.ga K "StoredError")) = some false),
  fun K => decide (PySem.W.subIn K (.ref (He.ga K "TableError")) (.ref (He.ga K "ReportError")) = some false),
  fun K => decide (PySem.W.subIn K (.ref (He.ga K "TableError")) (.ref (He.ga K "NumberError")) = some false),
  fun K => decide (PySem.W.subIn K (.ref (He.ga K "TableError")) (.ref (He.ga K "AmountError")) = some false),
  fun K => decide (PySem.W.subIn K (.ref (He.ga K "TableError")) (.ref (He.ga K "CubeError")) = some false),
  fun K => decide (PySem.W.subIn K (.ref (He.ga K "TableError")) (.ref (He.ga K "MatchError")) = some false),
  fun K => decide (PySem.W.subIn K (.ref (He.ga K "TableError")) (.ref (He.ga K "PlaceError")) = some false),
  fun K => decide (PySem.W.subIn K (.ref (He.ga K "TableError")) (.ref (He.ga K "TextError")) = some false),
  fun K => decide (PySem.W.subIn K (.ref (He.ga K "TableError")) (.ref (He.ga K "NothingDone")) = some false),
  fun K => decide (PySem.W.subIn K (.ref (He.ga K "TableError")) (.ref (He.ga K "OrderError")) = some false),
  fun K => decide (PySem.W.subIn K (.ref (He.ga K "TableError")) (.ref (He.ga K "SumsError")) = some false),
  fun K => decide (PySem.W.subIn K (.ref (He.ga K "RollupError")) (.ref (He.ga K "RollupError")) = some true),
  fun K => decide (PySem.W.subIn K (.ref (He.ga K "CellError")) (.ref (He.ga K "CellError")) = some true),
  fun K => decide (PySem.W.subIn K (.ref (He.ga K "StoredError")) (.ref (He.ga K "StoredError")) = some true),
  fun K => decide (PySem.W.subIn K (.ref (He.ga K "ReportError")) (.ref (He.ga K "ReportError")) = some true),
  fun K => decide (PySem.W.subIn K (.ref (He.ga K "NumberError")) (.ref (He.ga K "NumberError")) = some true),
  fun K => decide (PySem.W.subIn K (.ref (He.ga K "AmountError")) (.ref (He.ga K "AmountError")) = some true),
  fun K => decide (PySem.W.subIn K (.ref (He.ga K "CubeError")) (.ref (He.ga K "CubeError")) = some true),
  fun K => decide (PySem.W.subIn K (.ref (He.ga K "MatchError")) (.ref (He.ga K "MatchError")) = some true),
  fun K => decide (PySem.W.subIn K (.ref (He.ga K "PlaceError")) (.ref (He.ga K "PlaceError")) = some true),
  fun K => decide (PySem.W.subIn K (.ref (He.ga K "TextError")) (.ref (He.ga K "TextError")) = some true),
  fun K => decide (PySem.W.subIn K (.ref (He.ga K "NothingDone")) (.ref (He.ga K "NothingDone")) = some true),
  fun K => decide (PySem.W.subIn K (.ref (He.ga K "OrderError")) (.ref (He.ga K "OrderError")) = some true),
  fun K => decide (PySem.W.subIn K (.ref (He.ga K "SumsError")) (.ref (He.ga K "SumsError")) = some true),
  fun K => decide (PySem.W.findIn K (.ref (He.ga K "SchemeError")) "__getattribute__" = some (some (.builtin "BaseException.__getattribute__"))),
  fun K => decide (PySem.W.findIn K (.ref (He.ga K "SchemeError")) "__getattr__" = some none),
  fun K => decide (PySem.W.findIn K (.ref (He.ga K "SchemeError")) "__class__" = some (some (.builtin "object.__class__"))),
  fun K => decide (PySem.W.mroIn K (He.ga K "SchemeError") (.type "object") = some true),
  fun K => decide (PySem.W.findIn K (.ref (He.ga K "TableError")) "__getattribute__" = some (some (.builtin "BaseException.__getattribute__"))),
  fun K => decide (PySem.W.findIn K (.ref (He.ga K "TableError")) "__getattr__" = some none),
  fun K => decide (PySem.W.findIn K (.ref (He.ga K "TableError")) "__class__" = some (some (.builtin "object.__class__"))),
  fun K => decide (PySem.W.mroIn K (He.ga K "TableError") (.type "object") = some true),
  fun K => decide (PySem.W.specialIn K (.builtin "object.__class__") "__get__" = some (some (.builtin "getset_descriptor.__get__"))),
  fun K => decide (PySem.W.takesIn K (.builtin "object.__class__") = some true),
  tabB "law",
  tabsB (["law"] : List Str),
  freeB "isinstance",
  freeB "int",
  freeB "bool",
  freeB "tuple",
  freeB "list",
  freeB "set",
  freeB "len",
  freeB "all",
  freeB "zip",
  freeB "sorted",
  freeB "range",
  freeB "max",
  freeB "min",
  freeB "sum",
  freeB "repr",
  freeB "any",
  freeB "enumerate",
  freeB "str",
  freeB "abs",
  freeB "divmod",
  freeB "ValueError",
  freeB "TypeError",
  freeB "super",
  intB "PART_DIGITS" 60,
  intB "PART" 1000000000000000000000000000000000000000000000000000000000000,
  intB "MOST_ATTRIBUTES" 3,
  intB "MOST_VALUES" 6,
  intB "MOST_STEPS" 3,
  intB "MOST_CELLS" 60,
  intB "MOST_PUT" 1000000,
  gaB "_wall",
  gaB "is_integer",
  gaB "is_number_from",
  gaB "are_integers",
  gaB "are_numbers_below",
  gaB "written",
  gaB "groups_of_step",
  gaB "is_attribute",
  gaB "count_of_cells",
  gaB "group_count",
  gaB "group_counts",
  gaB "groups_above",
  gaB "finest",
  gaB "size_of",
  gaB "place_of",
  gaB "is_rollup",
  gaB "is_cell",
  gaB "is_scheme",
  gaB "check_scheme",
  gaB "check_rollup",
  gaB "check_cell",
  gaB "is_table_of",
  gaB "turned",
  gaB "added_up",
  gaB "sums_at",
  gaB "no_amounts",
  gaB "with_more",
  gaB "check_put",
  gaB "check_table",
  gaB "_law_cell",
  gaB "_law_draws",
  gaB "_law_is_same",
  gaB "_law_attribute",
  gaB "_law_scheme",
  gaB "_law_below",
  gaB "_law_fine_cells",
  gaB "_law_table",
  gaB "_law_no_schemes",
  gaB "_law_said",
  gaB "_law_told",
  gaB "_law_due",
  gaB "_law_no_tables",
  gaB "law",
  insB "Cube",
  madeB "Cube",
  propB "Cube" "total",
  methB "Cube" "__len__",
  methB "Cube" "__repr__",
  propB "Cube" "scheme",
  propB "Cube" "table",
  propB "Cube" "changes"]
abbrev rowR : PySem.W.OpenRow := PySem.W.OpenLaw.row PySem.Challenge.rw_rolluplevels_k45_cubes_made
abbrev pt1 : List Part := [(csL.take 28, fnL.take 7)]
abbrev pt2 : List Part := [((csL.drop 28).take 28, (fnL.drop 7).take 7)]
abbrev pt3 : List Part := [(((csL.drop 28).drop 28).take 28, ((fnL.drop 7).drop 7).take 7)]
abbrev pt4 : List Part := [((((csL.drop 28).drop 28).drop 28).take 28, (((fnL.drop 7).drop 7).drop 7).take 7)]
abbrev pt5 : List Part := [(((((csL.drop 28).drop 28).drop 28).drop 28).take 28, ((((fnL.drop 7).drop 7).drop 7).drop 7).take 7)]
abbrev pt6 : List Part := [((((((csL.drop 28).drop 28).drop 28).drop 28).drop 28).take 28, (((((fnL.drop 7).drop 7).drop 7).drop 7).drop 7).take 7)]
abbrev pt7 : List Part := [(((((((csL.drop 28).drop 28).drop 28).drop 28).drop 28).drop 28).take 28, ((((((fnL.drop 7).drop 7).drop 7).drop 7).drop 7).drop 7).take 7)]
abbrev pt8 : List Part := [((((((((csL.drop 28).drop 28).drop 28).drop 28).drop 28).drop 28).drop 28), (((((((fnL.drop 7).drop 7).drop 7).drop 7).drop 7).drop 7).drop 7))]
def namesL : List Str := (["_wall", "LevelsError", "SchemeError", "RollupError", "CellError", "OrderError", "TableError", "SumsError", "StoredError", "ReportError", "NumberError", "AmountError", "CubeError", "MatchError", "PlaceError", "TextError", "NothingDone", "Unknown", "LimitError", "PART_DIGITS"] : List Str) ++ (["PART", "is_integer", "is_number_from", "are_integers", "are_numbers_below", "written", "MOST_ATTRIBUTES", "MOST_VALUES", "MOST_STEPS", "MOST_CELLS", "groups_of_step", "is_attribute", "count_of_cells", "group_count", "group_counts", "groups_above", "finest", "size_of", "place_of", "is_rollup"] : List Str) ++ (["is_cell", "check_scheme", "check_rollup", "check_cell", "is_scheme", "MOST_PUT", "is_table_of", "turned", "added_up", "sums_at", "no_amounts", "with_more", "check_put", "check_table", "MOST_TIMES", "Cube", "_law_cell", "_law_draws", "_law_is_same", "_law_attribute"] : List Str) ++ (["_law_scheme", "_law_below", "_law_fine_cells", "_law_table", "_law_no_schemes", "_law_said", "_law_told", "_law_due", "_law_no_tables"] : List Str)
theorem run_top1 (w : World) : HandSHeadRun.RunEq rowR (PySem.W.view rowR.prog [75]) (hookK (kT 5) (fun _ => kT_in) pt1) (obK (kT 5) pt1) 12000 namesL w := by
  intro os
  kernel_rfl
theorem run_top2 (w : World) : HandSHeadRun.RunEq rowR (PySem.W.view rowR.prog [75]) (hookK (kT 5) (fun _ => kT_in) pt2) (obK (kT 5) pt2) 12000 namesL w := by
  intro os
  kernel_rfl
theorem run_top3 (w : World) : HandSHeadRun.RunEq rowR (PySem.W.view rowR.prog [75]) (hookK (kT 5) (fun _ => kT_in) pt3) (obK (kT 5) pt3) 12000 namesL w := by
  intro os
  kernel_rfl
theorem run_top4 (w : World) : HandSHeadRun.RunEq rowR (PySem.W.view rowR.prog [75]) (hookK (kT 5) (fun _ => kT_in) pt4) (obK (kT 5) pt4) 12000 namesL w := by
  intro os
  kernel_rfl
theorem run_top5 (w : World) : HandSHeadRun.RunEq rowR (PySem.W.view rowR.prog [75]) (hookK (kT 5) (fun _ => kT_in) pt5) (obK (kT 5) pt5) 12000 namesL w := by
  intro os
  kernel_rfl
theorem run_top6 (w : World) : HandSHeadRun.RunEq rowR (PySem.W.view rowR.prog [75]) (hookK (kT 5) (fun _ => kT_in) pt6) (obK (kT 5) pt6) 12000 namesL w := by
  intro os
  kernel_rfl
theorem run_top7 (w : World) : HandSHeadRun.RunEq rowR (PySem.W.view rowR.prog [75]) (hookK (kT 5) (fun _ => kT_in) pt7) (obK (kT 5) pt7) 12000 namesL w := by
  intro os
  kernel_rfl
theorem run_top8 (w : World) : HandSHeadRun.RunEq rowR (PySem.W.view rowR.prog [75]) (hookK (kT 5) (fun _ => kT_in) pt8) (obK (kT 5) pt8) 12000 namesL w := by
  intro os
  kernel_rfl
abbrev hkL : PySem.W.Hook := hookK (kT 5) (fun _ => kT_in) (pt1 ++ (pt2 ++ (pt3 ++ (pt4 ++ (pt5 ++ (pt6 ++ (pt7 ++ (pt8))))))))
abbrev obL : PySem.W.SharedT → List ObO := obK (kT 5) (pt1 ++ (pt2 ++ (pt3 ++ (pt4 ++ (pt5 ++ (pt6 ++ (pt7 ++ (pt8))))))))
theorem run_top (w : World) : HandSHeadRun.RunEq rowR (PySem.W.view rowR.prog [75]) hkL obL 12000 namesL w := (run_app (run_top1 w) (run_app (run_top2 w) (run_app (run_top3 w) (run_app (run_top4 w) (run_app (run_top5 w) (run_app (run_top6 w) (run_app (run_top7 w) (run_top8 w))))))))
theorem obL_eq (s : PySem.W.SharedT) : obL s = hkL.obs s.abs := obK_eq s
end MP
namespace RL
open PySem PySem.Spec PyProof.Rows L2
/-! ### repr of nested data, where nothing is being shown already -/
/-! ### max of a tuple, of a list of ints, told as a fold -/
def rMaxD (K : PySem.W.Frag) : List V → Hp → VK → Prop := fun vs H Q =>
  ∃ (a : Addr) (n : Int) (ns : List Int), vs = [V.ref a] ∧ (SqT K H a ((n :: ns).map V.int) ∨ SqL K H a ((n :: ns).map V.int)) ∧ Q (.int (ns.foldl max n)) H
theorem readsAll_ints {h : Heap} : ∀ {ns : List Int} {us : List Value}, Vals (ns.map V.int) us → ∃ as, ReadsAll h us (ns.map PyData.int) as
  | [], _, r => by cases r; exact ⟨_, .nil⟩
  | n :: ns, _, r => by
    cases r with
    | cons r1 r2 =>
      obtain ⟨t, rfl⟩ := r1
      obtain ⟨as, q⟩ := readsAll_ints r2
      exact ⟨_, .cons (.int n t) q⟩
theorem alike_ints (ns : List Int) : PySem.W.AlikeAll (ns.map PyData.int) := by
  refine ⟨fun x hx y hy => ?_, fun x hx => ?_⟩
  · obtain ⟨a, _, rfl⟩ := List.mem_map.mp hx
    obtain ⟨b, _, rfl⟩ := List.mem_map.mp hy
    rfl
  · obtain ⟨a, _, rfl⟩ := List.mem_map.mp hx
    exact fun z => nomatch z
theorem depth_ints : ∀ ns : List Int, PyData.depthAll (ns.map PyData.int) = 0
  | [] => rfl
  | n :: ns => by
    show max (PyData.depth (.int n)) (PyData.depthAll (ns.map PyData.int)) = 0
    rw [depth_ints ns]
    rfl
theorem cr_maxD {X : Cx} (hc : X.calm = true) (hu : X.A.units + 64 < cLine) : CallR X (.builtin "max") (rMaxD X.K) := by
  intro pins s σ H vs us Q I r h
  obtain ⟨a, n, ns, rfl, hs, q⟩ := h
  rw [Vals.ref1 r]
  have hd : PyData.depthAll (PyData.int n :: ns.map PyData.int) = 0 := depth_ints (n :: ns)
  have fin : ∀ (v : Value) (h' : Heap) (tk : Nat) (bs : List Addr), Reads h' v (PySem.W.maxD (.int n) (ns.map PyData.int)) bs → (∀ b o, s.heap.get? b = some o → h'.get? b = some o) →
      EP X pins σ Q v { s with heap := h', toks := tk } := fun v h' tk bs rd hk => by
    rw [PySem.W.maxD_ints] at rd
    cases rd with
    | int i t => exact ⟨.int _, H, I.kept hk, ⟨t, rfl⟩, q⟩
  rcases hs with hs | hs
  · obtain ⟨its, rv, hl, _⟩ := I.tuple hs
    obtain ⟨as, rd⟩ := readsAll_ints (h := s.heap) rv
    exact PySem.W.max_tuple_data (I.ok.hd hc) hl (by simpa using rd) (alike_ints (n :: ns)) (by rw [hd]; omega) fun _ v h' tk bs _ r hk => fin v h' tk bs r hk
  · obtain ⟨its, rv, hl, _⟩ := I.list hs
    obtain ⟨as, rd⟩ := readsAll_ints (h := s.heap) rv
    exact PySem.W.max_list_data (I.ok.hd hc) hl.isList (by simpa using rd) (alike_ints (n :: ns)) (by rw [hd]; omega) fun _ v h' tk bs _ r hk => fin v h' tk bs r hk
/-! ### set(t) of a tuple of ints -/
/-! ### zip of a tuple and a list -/
def ItzM (K : PySem.W.Frag) (a b : Addr) : It :=
  ⟨fun i H => ∃ (xs ys : List V) (x y : V), SqT K H a xs ∧ SqL K H b ys ∧ xs[i]? = some x ∧ ys[i]? = some y,
    fun i H v H' => ∃ T x y, v = .ref T ∧ H T = none ∧ H' = upd H T (.tup [x, y]) ∧ (∀ xs, SqT K H a xs → xs[i]? = some x) ∧ ∀ ys, SqL K H b ys → ys[i]? = some y,
    fun i H => ∃ xs ys : List V, SqT K H a xs ∧ SqL K H b ys ∧ i ≤ xs.length ∧ i ≤ ys.length ∧ (i = xs.length ∨ i = ys.length)⟩
theorem sepM {z TI TO i1 i2 a b : Addr} (D : ZipApart z TI TO i1 i2 a b) : ZipSep2 z TI TO i1 i2 [i1, a] [i2, b] where
  TIz := D.TIz
  TOz := D.TOz
  TITO := D.TITO
  TIi1 := D.TIi1
  mem1 := by simp
  zf1 := by simp only [List.mem_cons, List.not_mem_nil, or_false, not_or]; exact ⟨D.i1z.symm, D.l1z.symm⟩
  Tf1 := by simp only [List.mem_cons, List.not_mem_nil, or_false, not_or]; exact ⟨D.TOi1, D.l1TO.symm⟩
  TIi2 := D.TIi2
  mem2 := by simp
  zf2 := by simp only [List.mem_cons, List.not_mem_nil, or_false, not_or]; exact ⟨D.i2z.symm, D.l2z.symm⟩
  Tf2 := by simp only [List.mem_cons, List.not_mem_nil, or_false, not_or]; exact ⟨D.TOi2, D.l2TO.symm⟩
  sep1_2 := by simp only [List.mem_cons, List.not_mem_nil, or_false, not_or]; exact ⟨D.i12, D.l2i1.symm⟩
  sep2_1 := by simp only [List.mem_cons, List.not_mem_nil, or_false, not_or]; exact ⟨D.i12.symm, D.l1i2.symm⟩
theorem turn_zipM {P : Program} {w : World} {K : PySem.W.Frag} {elts : List Expr} {kk : Nat} {tpos : Pos} {a b z TI TO i1 i2 : Addr} (D : ZipApart z TI TO i1 i2 a b) :
    Turn P w K (.Tuple elts kk tpos) (ItzM K a b) [z, TI, TO, i1, i2] z
      (fun i h => IsZip h z TI TO .none ∧ IsPair h TI (.ref i1) (.ref i2) ∧ (∃ x y, IsPair h TO x y) ∧ h.IsTupleIter i1 a i ∧ h.IsListIter i2 b i) where
  mem := List.mem_cons_self
  obj := fun i h st c hc => by
    obtain ⟨hz, hTI, ⟨x, y, hTO⟩, ⟨o1, e1, _, d1⟩, ⟨o2, e2, _, d2⟩⟩ := st
    simp only [List.mem_cons, List.not_mem_nil, or_false] at hc
    rcases hc with rfl | rfl | rfl | rfl | rfl
    · exact ⟨_, hz, fun _ q => nomatch q⟩
    · exact ⟨_, hTI, fun _ q => nomatch q⟩
    · exact ⟨_, hTO, fun _ q => nomatch q⟩
    · exact ⟨o1, e1, fun _ q => by rw [d1] at q; cases q⟩
    · exact ⟨o2, e2, fun _ q => by rw [d2] at q; cases q⟩
  keep := fun i h h' st k => by
    obtain ⟨hz, hTI, ⟨x, y, hTO⟩, h1, h2⟩ := st
    have m1 : i1 ∈ [z, TI, TO, i1, i2] := by simp
    have m2 : i2 ∈ [z, TI, TO, i1, i2] := by simp
    exact ⟨k z (by simp) _ hz, k TI (by simp) _ hTI, ⟨x, y, k TO (by simp) _ hTO⟩, h1.at (k i1 m1), h2.at (k i2 m2)⟩
  item := by
    intro X hP hw hK hc i pins s σ H E I hf st hg
    subst hP hw hK
    obtain ⟨hz, hTI, ⟨x0, y0, hTO⟩, h1, h2⟩ := st
    obtain ⟨xs, ys, x, y, qx, qy, gx, gy⟩ := hg
    obtain ⟨its, rv, p, _⟩ := I.tuple qx
    obtain ⟨its2, rv2, p2, _⟩ := I.list qy
    have lx := rv.length
    have ly := rv2.length
    obtain ⟨bx, _⟩ := List.getElem?_eq_some_iff.mp gx
    obtain ⟨byy, _⟩ := List.getElem?_eq_some_iff.mp gy
    have hzl : z < s.heap.objs.size := Heap.lt_size hz
    have hh : X.A.in1.handled = none := I.ok.hd hc
    refine wpAny_pyNext_zipD2_item (sepM D) (Draws.tuple hh i1 a D.l1i1 its.toArray) (Draws.list hh i2 b D.l2i2 its2.toArray) hz hTI hTO ⟨h1, p⟩ ⟨h2, p2.isList⟩ (by simp; omega) (by simp; omega) fun u u2 h' tk g1 g2 z' TO' s1 s2 hT hsz hk => ?_
    obtain ⟨w1, hw1, ru⟩ := rv.get gx
    obtain ⟨w2, hw2, ru2⟩ := rv2.get gy
    have e1 : w1 = u := by
      have g1' : its[i]? = some u := by simpa using g1
      exact Option.some.inj (hw1.symm.trans g1')
    have e2 : w2 = u2 := by
      have g2' : its2[i]? = some u2 := by simpa using g2
      exact Option.some.inj (hw2.symm.trans g2')
    subst e1 e2
    refine ⟨_, rfl, wpAny_letOwnedTupleGo_zip (s := { s with heap := h', toks := tk }) z' fun h'' z'' sb => ?_⟩
    have hT2 : h''.get? s.heap.objs.size = some { cls := .type "tuple", data := .seq #[w1, w2] } := (sb.2 _ (Nat.ne_of_gt hzl)).trans hT
    have new : ObjOk X.prog X.w (upd H s.heap.objs.size (.tup [x, y])) h'' s.heap.objs.size (.tup [x, y]) :=
      ⟨by show 2 ≤ sizeLine; decide, [w1, w2], .cons ru (.cons ru2 .nil), ⟨_, hT2, rfl, _, rfl⟩⟩
    have far : ∀ c o, c ∉ [z, TI, TO, i1, i2] → s.heap.get? c = some o → h''.get? c = some o := fun c o hb q => by
      simp only [List.mem_cons, List.not_mem_nil, or_false, not_or] at hb
      exact (sb.2 c hb.1).trans (hk c o hb.1 hb.2.2.1 hb.2.2.2.1 hb.2.2.2.2 q)
    have I1 := I.turnedNew (t' := tk) (ch := [z, TI, TO, i1, i2]) far hf (Nat.le_refl _) new
    refine ⟨.ref s.heap.objs.size, _, I1, rfl, ⟨_, x, y, rfl, I.hok.fresh (Nat.le_refl _), rfl, fun l hl => by rw [I.tuple_inj hl qx]; exact gx, fun l hl => by rw [I.list_inj hl qy]; exact gy⟩, ⟨z'', ?_, ⟨w1, w2, ?_⟩, ?_, ?_⟩, fun c hcm => ?_⟩
    · exact (sb.2 _ D.TIz).trans (hk _ _ D.TIz D.TITO D.TIi1 D.TIi2 hTI)
    · exact (sb.2 _ D.TOz).trans TO'
    · exact s1.1.at fun o q => (sb.2 _ D.i1z).trans q
    · exact s2.1.at fun o q => (sb.2 _ D.i2z).trans q
    · have hlt : c < s.heap.objs.size := by
        simp only [List.mem_cons, List.not_mem_nil, or_false] at hcm
        rcases hcm with rfl | rfl | rfl | rfl | rfl
        · exact hzl
        · exact Heap.lt_size hTI
        · exact Heap.lt_size hTO
        · obtain ⟨_, e, _⟩ := h1; exact Heap.lt_size e
        · obtain ⟨_, e, _⟩ := h2; exact Heap.lt_size e
      rw [upd_ne (Nat.ne_of_lt hlt)]
      exact (hf c hcm).1
  done := by
    intro X hP hw hK hc i pins s σ H E I hf st hg
    subst hP hw hK
    obtain ⟨hz, hTI, ⟨x0, y0, hTO⟩, h1, h2⟩ := st
    obtain ⟨xs, ys, qx, qy, le1, le2, hend⟩ := hg
    obtain ⟨its, rv, p, _⟩ := I.tuple qx
    obtain ⟨its2, rv2, p2, _⟩ := I.list qy
    have lx := rv.length
    have ly := rv2.length
    have hh : X.A.in1.handled = none := I.ok.hd hc
    refine wpAny_pyNext_zipD2_end (sepM D) (Draws.tuple hh i1 a D.l1i1 its.toArray) (Draws.list hh i2 b D.l2i2 its2.toArray) hz hTI hTO ⟨h1, p⟩ ⟨h2, p2.isList⟩ (by simp; omega) (by simp; omega) (by simp; omega) fun h' tk hk => ?_
    refine ⟨rfl, I.turnedL (t' := tk) (ch := [z, TI, TO, i1, i2]) (fun c o hb q => ?_) hf⟩
    simp only [List.mem_cons, List.not_mem_nil, or_false, not_or] at hb
    exact hk c o hb.1 hb.2.2.1 hb.2.2.2.1 hb.2.2.2.2 q
  self := fun A i s Q E st h => wpAny_pyIter_zip st.1 h
def iZipM (K : PySem.W.Frag) (ta : TA) : TI := fun σ H R => ta σ H fun vs H1 => ∃ a b xs ys, vs = [.ref a, .ref b] ∧ SqT K H1 a xs ∧ SqL K H1 b ys ∧ R (ItzM K a b) H1
theorem pi_zipM {X : Cx} {e e2 : Expr} {ta : TA} {p pos tpos : Pos} {elts : List Expr} {kk : Nat} (hg : Gl X "zip") (hm : X.mg "zip" = none) (ha : PA X [e, e2] ta)
    (hs : starEach [e, e2] X.env = (false, eval e X.env) :: starEach [e2] X.env := by rfl) (hpl : (backTo pos (starEach [e2] X.env)).any (·.1) = false := by rfl) :
    PI X (.Tuple elts kk tpos) (.Call (.Name "zip" p) [e, e2] [] pos) (iZipM X.K ta) := by
  refine ⟨fun pins s σ H R I h => Call_ (ld_blt I hg hm PyProof.Rows.boot_zip (PyProof.Rows.callWith_type1 (thn (ha.run pos pins s σ H _ I h) ?_) hs hpl))⟩
  intro us s1 ⟨vs, H1, I1, r1, a, b, xs, ys, ex, qx, qy, q⟩
  subst ex
  cases r1 with
  | cons ra rr =>
    cases rr with
    | cons rb rr =>
      cases rr
      cases ra
      cases rb
      obtain ⟨its, rv, p1, _⟩ := I1.tuple qx
      obtain ⟨its2, rv2, p2, _⟩ := I1.list qy
      obtain ⟨o1, ho1, _⟩ := id p1
      refine zip_begins2 (begins_tuple a its.toArray) (begins_list b its2.toArray) p1 p2.isList fun h' hz hTI hTO h1 h2 hsz hk => wpAny_pyIter_zip hz ?_
      have D := PySem.W.ktu_apart s1.heap.objs.size a b (Heap.lt_size ho1) p2.lt
      refine ⟨s1.heap.objs.size + 4, [s1.heap.objs.size + 4, s1.heap.objs.size + 2, s1.heap.objs.size + 3, s1.heap.objs.size, s1.heap.objs.size + 1], _, _, H1, rfl, I1.kept (t' := s1.toks) hk, turn_zipM D, ⟨hz, hTI, ⟨_, _, hTO⟩, ⟨_, h1, rfl, rfl⟩, ⟨_, h2, rfl, rfl⟩⟩, fun c hcm => ?_, q⟩
      have hle : s1.heap.objs.size ≤ c := by
        simp only [List.mem_cons, List.not_mem_nil, or_false] at hcm
        rcases hcm with rfl | rfl | rfl | rfl | rfl
        · exact Nat.le_add_right _ _
        · exact Nat.le_add_right _ _
        · exact Nat.le_add_right _ _
        · exact Nat.le_refl _
        · exact Nat.le_add_right _ _
      exact I1.fpOk hle (I1.hok.fresh hle)
section
variable {K : PySem.W.Frag} {a b : Addr} {xs ys : List V}
theorem walk_zipM (hl : xs.length = ys.length) : Walk (ItzM K a b) xs.length (fun H => SqT K H a xs ∧ SqL K H b ys) (YPair (fun i => xs[i]?) (fun i => ys[i]?)) := by
  refine ⟨fun i _ hi q => ?_, fun _ q => ⟨xs, ys, q.1, q.2, Nat.le_refl _, by omega, .inl rfl⟩, fun i H v H' _ q y => ?_⟩
  · have h2 : i < ys.length := by omega
    exact ⟨xs, ys, xs[i], ys[i], q.1, q.2, by simp [hi], by simp [h2]⟩
  · obtain ⟨T, x, z, h1, h2, h3, h4, h5⟩ := y
    exact ⟨T, x, z, h1, h2, h3, h4 xs q.1, h5 ys q.2⟩
theorem walk_zipT (hl : xs.length = ys.length) : Walk (RZ.ItzT K a b) xs.length (fun H => SqT K H a xs ∧ SqT K H b ys) (YPair (fun i => xs[i]?) (fun i => ys[i]?)) := by
  refine ⟨fun i _ hi q => ?_, fun _ q => ⟨xs, ys, q.1, q.2, .inl (Nat.le_refl _)⟩, fun i H v H' _ q y => ?_⟩
  · have h2 : i < ys.length := by omega
    exact ⟨xs, ys, xs[i], ys[i], q.1, q.2, by simp [hi], by simp [h2]⟩
  · obtain ⟨T, x, z, h1, h2, h3, h4, h5⟩ := y
    exact ⟨T, x, z, h1, h2, h3, h4 xs q.1, h5 ys q.2⟩
end
end RL
namespace RL
open PySem PySem.Spec PyProof.Rows L2
/-! ### zip of several tuples of one length -/
theorem forIn_zipIdx {β : Type} {M : Model} {A : Around} {E : Value → Shared → Prop} (body : Value × Nat → β → Sem (ForInStep β)) (b0 : β) (Iv : Nat → Shared → Prop) (Q : β → Shared → Prop) :
    ∀ (xs : List Value) (k : Nat) (s : Shared), Iv k s → (∀ j x s, xs[j]? = some x → Iv (k + j) s → wpAny M A (body (x, k + j) b0) (fun r s' => r = .yield b0 ∧ Iv (k + j + 1) s') E s) →
      (∀ s', Iv (k + xs.length) s' → Q b0 s') → wpAny M A (forIn (xs.zipIdx k) b0 body) Q E s
  | [], k, s, h0, _, hd => by
    simp only [List.zipIdx_nil, List.forIn_nil]
    exact wpAny_pure (hd s (by simpa using h0))
  | x :: xs, k, s, h0, hs, hd => by
    simp only [List.zipIdx_cons, List.forIn_cons]
    refine wpAny_bind (wpAny_mono (hs 0 x s rfl (by simpa using h0)) (fun r s' ⟨e, h1⟩ => ?_) fun _ _ z => z)
    subst e
    refine forIn_zipIdx body b0 Iv Q xs (k + 1) s' (by simpa using h1) (fun j y s2 hj h2 => ?_) fun s2 h2 => hd s2 ?_
    · have e1 : k + 1 + j = k + (j + 1) := by omega
      rw [e1] at h2 ⊢
      exact hs (j + 1) y s2 (by simpa using hj) h2
    · rw [List.length_cons]
      have e1 : k + (xs.length + 1) = k + 1 + xs.length := by omega
      rw [e1]
      exact h2
abbrev tupN (h : Heap) (T : Addr) (vs : List Value) : Prop := h.get? T = some { cls := .type "tuple", data := .seq vs.toArray }
structure ZA (z TI TO : Addr) (its src : List Addr) : Prop where
  TIz : TI ≠ z
  TOz : TO ≠ z
  TITO : TI ≠ TO
  iz : ∀ t ∈ its, t ≠ z
  iTI : ∀ t ∈ its, t ≠ TI
  iTO : ∀ t ∈ its, t ≠ TO
  nd : its.Nodup
  sz : ∀ l ∈ src, l ≠ z
  sTO : ∀ l ∈ src, l ≠ TO
  si : ∀ l ∈ src, ∀ t ∈ its, l ≠ t
  len : its.length = src.length
/-! ### zip of four tuples begins -/
theorem nne {a b : Nat} (h : a < b ∨ b < a) : a ≠ b := by omega
/-! ### over the layer -/
def ItzN (K : PySem.W.Frag) (src : List Addr) : It :=
  ⟨fun i H => ∃ xss : List (List V), xss.length = src.length ∧ ∀ (k : Nat) (l : Addr) (xs : List V), src[k]? = some l → xss[k]? = some xs → SqT K H l xs ∧ i < xs.length,
    fun i H v H' => ∃ (T : Addr) (ys : List V), v = .ref T ∧ H T = none ∧ H' = upd H T (.tup ys) ∧ ys.length = src.length ∧ ∀ (k : Nat) (l : Addr) (xs : List V), src[k]? = some l → SqT K H l xs → xs[i]? = ys[k]?,
    fun i H => ∃ (l0 : Addr) (xs : List V), src[0]? = some l0 ∧ SqT K H l0 xs ∧ i = xs.length⟩
def iZip4 (K : PySem.W.Frag) (ta : TA) : TI := fun σ H R => ta σ H fun vs H1 => ∃ a b c d x1 x2 x3 x4, vs = [.ref a, .ref b, .ref c, .ref d] ∧ SqT K H1 a x1 ∧ SqT K H1 b x2 ∧ SqT K H1 c x3 ∧ SqT K H1 d x4 ∧ R (ItzN K [a, b, c, d]) H1
end RL
namespace RL
open PySem PySem.Spec PyProof.Rows L2
/-! ### a def's promise where nothing is being shown (guards): for the defs that call repr -/
structure FnG (P : Program) (w : World) (K : PySem.W.Frag) (mg : Str → Option Value) (base : Heap) (k : Nat) (f : Addr) (fd : FuncData) (ps : List Str) (sp : Sp) : Prop where
  len : ∀ vs H Q E, sp vs H Q E → vs.length = ps.length
  run : ∀ (A : Around) (outer : List Env) (s : Shared) (H : Hp) (args : Args) (us : List Value) (vs : List V) (Q : VK) (E : XK),
    A.guards = some [] → Room k A → Env0 P w K mg base A outer s H → BindsTo s fd args (ps.zip us) → Vals vs us → sp vs H Q E → codeAny (model P w) A (.call (.ref f) args) (CR CX0 outer P w H s Q E) s
theorem guards_deeper {A : Around} {env : Env} (h : A.guards = some []) : (A.deeper env).guards = some [] := h
section
variable {P : Program} {w : World} {K : PySem.W.Frag} {mg : Str → Option Value} {base : Heap} {k : Nat} {f : Addr} {fd : FuncData} {N ps : List Str} {sp : Sp}
theorem fnG {x qual : Str} {st : Stmt} (F : Fun K x qual st f fd) (S : FnScope N ps (defScope st)) (len : ∀ vs H Q E, sp vs H Q E → vs.length = ps.length)
    (hbody : ∀ (cdv : Value) (A : Around) (outer : List Env) (s : Shared) (H : Hp) (vs : List V) (Q : VK) (E : XK), A.guards = some [] → Room k (A.deeper (envOfC qual (defScope st) s.heap.objs.size f cdv)) → sp vs H Q E →
      ∃ t, PSs (cxOf CX0 P w K mg base N qual (defScope st) f cdv A outer s H E).nox (defBody st) t ∧ t { nx := fun _ H' => Q .non H', rt := Q } (start N vs) H) : FnG P w K mg base (k + 1) f fd ps sp := by
  obtain ⟨oc, od, kV, doc, pm, an, cdv, ct, osl, rfl, lk, hcd⟩ := F.ex
  refine ⟨len, ?_⟩
  intro A outer s H args us vs Q E gd room e0 bnd rel want
  have old : ∀ b o, base.get? b = some o → s.heap.get? b = some o := fun b o e => (e0.bs b o e).1
  refine codeAny_call_function room.depth (e0.mod.kin.keeps old _ _ lk) rfl S.co S.gen rfl (PySem.W.codeRec_of (e0.mod.kin.keeps old) hcd) (bnd _ _ _ _ ?_)
  refine wpAny_newFunctionEnv_cells S.kind ?_ ?_
  · rintro ⟨n, v⟩ hy
    cases S.par n (List.of_mem_zip hy).1 with
    | inl q => exact .inl q
    | inr q => exact .inr ⟨q, PySem.W.cellsFrom_some _ _ _ (.inl q)⟩
  · rintro env rfl s1 x
    obtain ⟨t, ht, ht2⟩ := hbody cdv A outer s H vs Q E gd (room.deeper _) want
    refine ⟨(e0.mod.nolimit.keeps old).keeps x.toInCall.keep, codeAny_func ?_⟩
    have I := inv_start (CX := CX0) (P := P) (w := w) (E := E) S room.hd e0 (len _ _ _ _ want) rel x
    refine wpAny_mono (ht.nox.run [] s1 (start N vs) H _ I ht2) ?_ fun _ _ z => z
    rintro (_ | _ | _ | u) s' hs
    · obtain ⟨σ', H', J, q⟩ := hs
      exact ⟨V.non, H', J.os, J.bare, J.base, J.hok, rfl, q⟩
    · obtain ⟨_, _, _, q⟩ := hs
      exact q.elim
    · obtain ⟨_, _, _, q⟩ := hs
      exact q.elim
    · obtain ⟨v, σ', H', J, rv, q⟩ := hs
      exact ⟨v, H', J.os, J.bare, J.base, J.hok, rv, q⟩
end
section
variable {X : Cx} {k : Nat} {f : Addr} {fd : FuncData} {ps : List Str} {sp : Sp} {x : Str} {p pos : Pos} {e : Expr} {es : List Expr} {t : TA}
theorem pe_callG (F : FnG X.prog X.w X.K X.mg X.base k f fd ps sp) (gd : X.A.guards = some []) (hr : Room k X.A) (hg : Gl X x) (hm : X.mg x = some (.ref f)) (hk : PySem.W.keepIn X.K (.ref f) = true) (hb : Binds X.K fd ps [])
    (ha : PA X (e :: es) t) (hdb : (x == ("__debug__" : Str)) = false := by decide) (he : starEach (e :: es) X.env = (false, eval e X.env) :: starEach es X.env := by rfl) (hpl : (backTo pos (starEach es X.env)).any (·.1) = false := by rfl) :
    PE X (.Call (.Name x p) (e :: es) [] pos) (tCall sp [] E0 t) := by
  constructor
  intro pins s σ H Q I h
  refine wpAny_Call_Name_kw (ld_glob I hg hm (PySem.W.callWith_K (h₀ := X.base) I.ok.mod.kin hk (thn (ha.run pos pins s σ H _ I h) ?_) he hpl) hdb)
  rintro us s1 ⟨vs, H1, I1, r, q⟩
  rw [List.append_nil] at q
  have hl : us.length = ps.length := by rw [← r.length]; exact F.len _ _ _ _ q
  have bb := hb s1 us I1.kIn (by rw [List.append_nil]; exact hl)
  rw [List.append_nil] at bb
  refine ⟨I1.kIn, wpAny_call (codeAny_mono (F.run X.A X.stack s1 H1 ⟨us, []⟩ us vs Q E0 gd hr I1.env0 bb r q) ?_)⟩
  rintro (e | fl) s' hq
  · exact hq.elim
  · cases fl with
    | ret u => exact I1.after hq
    | next => exact hq.elim
    | brk => exact hq.elim
    | cont => exact hq.elim
end
/-! ### the law's own call, at the caller's place, where no guard stands -/
end RL
namespace RL
open PySem PySem.Spec PyProof.Rows L2
/-! ### heaps: what was tracked stays; tuples stay -/
theorem same_new {H : Hp} {p : Addr} {o : HO} (h : H p = none) : Same H (upd H p o) := fun b x e => by
  rw [upd_ne (ne_of_none e h)]
  exact e
theorem Same.back {H H' : Hp} {p : Addr} (e : Same H H') (h : H' p = none) : H p = none := e.free h
def TupO : HO → Prop
  | .tup _ => True
  | .frz _ (.tup _) => True
  | _ => False
/-- all tuples stay -/
def TS (H H' : Hp) : Prop := ∀ b o, TupO o → H b = some o → H' b = some o
theorem TS.refl (H : Hp) : TS H H := fun _ _ _ h => h
theorem TS.trans {H H1 H2 : Hp} (a : TS H H1) (b : TS H1 H2) : TS H H2 := fun c o t h => b c o t (a c o t h)
theorem TS.lst {H H' : Hp} {a : Addr} {xs ys : List V} (e : TS H H') (h : H a = some (.lst xs)) : TS H (upd H' a (.lst ys)) := fun b o t hb => by
  have ne : b ≠ a := ne_of hb h (fun z => by rw [z] at t; exact t)
  rw [upd_ne ne]
  exact e b o t hb
theorem TS.new {H H' : Hp} {p : Addr} {o : HO} (e : TS H H') (h : H p = none) : TS H (upd H' p o) := fun b x t eb => by
  rw [upd_ne (ne_of_none eb h)]
  exact e b x t eb
theorem TS.sq {K : PySem.W.Frag} {H H' : Hp} {a : Addr} {xs : List V} (e : TS H H') (h : SqT K H a xs) : SqT K H' a xs := by
  rcases h with (h | ⟨o, h⟩) | h
  · exact .inl (.inl (e _ _ trivial h))
  · exact .inl (.inr ⟨o, e _ _ trivial h⟩)
  · exact .inr h
/-- all but one object stay -/
def But (a : Addr) (H H' : Hp) : Prop := ∀ b o, b ≠ a → H b = some o → H' b = some o
theorem But.refl (a : Addr) (H : Hp) : But a H H := fun _ _ _ h => h
theorem But.trans {a : Addr} {H H1 H2 : Hp} (x : But a H H1) (y : But a H1 H2) : But a H H2 := fun c o n h => y c o n (x c o n h)
theorem But.upd {a : Addr} {H H' : Hp} {o : HO} (e : But a H H') : But a H (L2.upd H' a o) := fun b u n h => by
  rw [upd_ne n]
  exact e b u n h
/-- but for one list, all stays -/
theorem But.seq {K : PySem.W.Frag} {a b : Addr} {H H' : Hp} {xs : List V} (e : But a H H') (n : b ≠ a) (h : SqL K H b xs) : SqL K H' b xs := by
  rcases h with (h | ⟨o, h⟩) | h
  · exact .inl (.inl (e _ _ n h))
  · exact .inl (.inr ⟨o, e _ _ n h⟩)
  · exact .inr h
theorem But.new {a p : Addr} {H H' : Hp} {o : HO} (e : But a H H') (h : H p = none) : But a H (L2.upd H' p o) := fun b u n hb => by
  rw [upd_ne (ne_of_none hb h)]
  exact e b u n hb
theorem But.back {a p : Addr} {H H' : Hp} (e : But a H H') (n : p ≠ a) (h : H' p = none) : H p = none := by
  cases q : H p with
  | none => rfl
  | some o => rw [e p o n q] at h; cases h
/-! ### data made of tuples alone -/
section
variable {K : PySem.W.Frag} {H : Hp}
theorem DpAll.length : ∀ {vs : List V} {ds : List PyData}, DpAll K H vs ds → vs.length = ds.length
  | _, _, .nil => rfl
  | _, _, .cons _ h => by simp [DpAll.length h]
theorem DpAll.get : ∀ {vs : List V} {ds : List PyData} {i : Nat} {v : V}, DpAll K H vs ds → vs[i]? = some v → ∃ d, ds[i]? = some d ∧ Dp K H v d
  | _, _, _, _, .nil, h => by simp at h
  | _, _, 0, _, .cons h1 _, h => by
    have e := Option.some.inj (show some _ = some _ from h)
    subst e
    exact ⟨_, rfl, h1⟩
  | _, _, i + 1, _, .cons _ h2, h => DpAll.get (i := i) h2 (by simpa using h)
theorem DpAll.snoc : ∀ {vs : List V} {ds : List PyData} {v : V} {d : PyData}, DpAll K H vs ds → Dp K H v d → DpAll K H (vs ++ [v]) (ds ++ [d])
  | _, _, _, _, .nil, h => .cons h .nil
  | _, _, _, _, .cons h1 h2, h => .cons h1 (DpAll.snoc h2 h)
end
/-! ### numbers, tuples of numbers, attributes, schemes -/
abbrev vN (n : Nat) : V := V.int (n : Int)
abbrev Att := Nat × List (List Nat)
def eN (n : Nat) : PyData := .int (n : Int)
def eT (ns : List Nat) : PyData := .tuple (ns.map eN)
def eSt (ss : List (List Nat)) : PyData := .tuple (ss.map eT)
def eA (a : Att) : PyData := .tuple [eN a.1, eSt a.2]
def eS (S : List Att) : PyData := .tuple (S.map eA)
/-! ### what a def hands back, all that was tracked as it was -/
def ret (H : Hp) (v : V) (Q : VK) : Prop := ∀ H', Same H H' → Q v H'
def retL (H : Hp) (xs : List V) (Q : VK) : Prop := ∀ H' p, Same H H' → H p = none → H' p = some (.lst xs) → Q (.ref p) H'
def retD (K : PySem.W.Frag) (H : Hp) (d : PyData) (Q : VK) : Prop := ∀ H' v, Same H H' → Dp K H' v d → Q v H'
theorem ret.mono {H H1 : Hp} {v : V} {Q : VK} (e : Same H H1) (h : ret H v Q) : ret H1 v Q := fun H2 e2 => h H2 (e.trans e2)
theorem retL.mono {H H1 : Hp} {xs : List V} {Q : VK} (e : Same H H1) (h : retL H xs Q) : retL H1 xs Q := fun H2 p e2 n q => h H2 p (e.trans e2) (e.free n) q
theorem retD.mono {K : PySem.W.Frag} {H H1 : Hp} {d : PyData} {Q : VK} (e : Same H H1) (h : retD K H d Q) : retD K H1 d Q := fun H2 v e2 q => h H2 v (e.trans e2) q
/-! ### the reading of a comprehension -/
end RL
namespace RL
open PySem PySem.Spec PyProof.Rows L2
/-! ### a def as it stands behind the top; the built-ins' names that the top has not bound -/
structure Df (K : PySem.W.Frag) (mg : Str → Option Value) (x : Str) (st : Stmt) : Prop where
  ex : ∃ f fd, Fun K x x st f fd ∧ mg x = some (.ref f)
theorem Df.cal {P : Program} {w : World} {K : PySem.W.Frag} {mg : Str → Option Value} {base : Heap} {x : Str} {st : Stmt} {N ps : List Str} {k : Nat} {sp : Sp} (D : Df K mg x st) (S : FnScope N ps (defScope st))
    (hb : ∀ (kV doc pm : Value) (an : Option Addr) (cdv ct : Value) (us : List Value), us.length = ps.length → bindArgs (PySem.W.fnOf x x (defArgs st) (defBody st) (defScope st) .none kV doc pm an cdv ct) ⟨us, []⟩ = pure (ps.zip us))
    (len : ∀ vs H Q E, sp vs H Q E → vs.length = ps.length)
    (hbody : ∀ (f : Addr) (cdv : Value) (A : Around) (outer : List Env) (s : Shared) (H : Hp) (vs : List V) (Q : VK) (E : XK), Room k (A.deeper (envOfC x (defScope st) s.heap.objs.size f cdv)) → sp vs H Q E →
      ∃ t, PSs (cxOf CX0 P w K mg base N x (defScope st) f cdv A outer s H E).nox (defBody st) t ∧ t { nx := fun _ H' => Q .non H', rt := Q } (start N vs) H) : C8.Cal P w K mg base (k + 1) x sp [] := by
  obtain ⟨f, fd, F, g⟩ := D.ex
  exact ⟨⟨f, fd, ps, [], F.ok S len (hbody f), g, F.kp, F.binds hb, .nil⟩⟩
structure Zs (mg : Str → Option Value) : Prop where
  z_isinstance : mg "isinstance" = none
  z_int : mg "int" = none
  z_bool : mg "bool" = none
  z_tuple : mg "tuple" = none
  z_list : mg "list" = none
  z_set : mg "set" = none
  z_len : mg "len" = none
  z_all : mg "all" = none
  z_zip : mg "zip" = none
  z_sorted : mg "sorted" = none
  z_range : mg "range" = none
  z_max : mg "max" = none
  z_min : mg "min" = none
  z_sum : mg "sum" = none
  z_repr : mg "repr" = none
  z_any : mg "any" = none
  z_enumerate : mg "enumerate" = none
  z_str : mg "str" = none
  z_abs : mg "abs" = none
  z_divmod : mg "divmod" = none
  z_ValueError : mg "ValueError" = none
  z_TypeError : mg "TypeError" = none
  z_super : mg "super" = none
theorem get_map {α β : Type} {f : α → β} {xs : List α} {i : Nat} {y : β} (h : (xs.map f)[i]? = some y) : ∃ x, xs[i]? = some x ∧ y = f x := by
  rw [List.getElem?_map] at h
  obtain ⟨x, hx, e⟩ := Option.map_eq_some_iff.mp h
  exact ⟨x, hx, e.symm⟩
theorem getD_of {α : Type} {xs : List α} {i : Nat} {x d : α} (h : xs[i]? = some x) : xs.getD i d = x := by
  rw [List.getD_eq_getElem?_getD, h]
  rfl
/-! ### rules whose reading names the written part, for a comprehension's block -/
end RL
namespace RL
open PySem
/-! ### steps, attributes, schemes, rollups: the mathematics -/
/-- the greatest of the numbers, one more -/
def top1 (s : List Nat) : Nat := s.foldl max 0 + 1
def StepOk (below : Nat) (s : List Nat) : Prop := s.length = below ∧ ∃ m, 0 < m ∧ m < below ∧ ∀ g, g ∈ s ↔ g < m
theorem foldl_max_le : ∀ (s : List Nat) (a : Nat), a ≤ s.foldl max a ∧ (∀ g ∈ s, g ≤ s.foldl max a) ∧ (s.foldl max a = a ∨ s.foldl max a ∈ s)
  | [], a => ⟨Nat.le_refl _, by simp, .inl rfl⟩
  | x :: s, a => by
    obtain ⟨h1, h2, h3⟩ := foldl_max_le s (max a x)
    refine ⟨by rw [List.foldl_cons]; omega, fun g hg => ?_, ?_⟩
    · rw [List.foldl_cons]
      rcases List.mem_cons.mp hg with e | m
      · omega
      · exact h2 g m
    · rw [List.foldl_cons]
      rcases h3 with e | m
      · by_cases hax : a ≤ x
        · rw [e, Nat.max_eq_right hax]; exact .inr List.mem_cons_self
        · rw [e]; left; omega
      · exact .inr (List.mem_cons_of_mem _ m)
theorem top1_of {s : List Nat} {m : Nat} (h0 : 0 < m) (h : ∀ g, g ∈ s ↔ g < m) : top1 s = m := by
  obtain ⟨h1, h2, h3⟩ := foldl_max_le s 0
  unfold top1
  have a := h2 (m - 1) ((h _).mpr (by omega))
  rcases h3 with e | e
  · omega
  · have := (h _).mp e; omega
def StepsOk : Nat → List (List Nat) → Prop
  | _, [] => True
  | b, s :: r => StepOk b s ∧ StepsOk (top1 s) r
def AttOk (a : Att) : Prop := 1 ≤ a.1 ∧ a.1 ≤ 6 ∧ a.2.length ≤ 3 ∧ StepsOk a.1 a.2
def prodN (ns : List Nat) : Nat := ns.foldl (· * ·) 1
def SchOk (S : List Att) : Prop := 1 ≤ S.length ∧ S.length ≤ 3 ∧ (∀ a ∈ S, AttOk a) ∧ prodN (S.map (·.1)) ≤ 60
/-- a rollup of the scheme -/
def RollOk (S : List Att) (r : List Nat) : Prop := r.length = S.length ∧ ∀ (i : Nat) (a : Att) (l : Nat), S[i]? = some a → r[i]? = some l → l < a.2.length + 1
theorem foldl_max_int : ∀ (s : List Nat) (a : Nat), (s.map fun (n : Nat) => (n : Int)).foldl max (a : Int) = ((s.foldl max a : Nat) : Int)
  | [], _ => rfl
  | x :: s, a => by
    rw [List.map_cons, List.foldl_cons, List.foldl_cons]
    have e : max (a : Int) (x : Int) = ((max a x : Nat) : Int) := by omega
    rw [e]
    exact foldl_max_int s (max a x)
end RL
namespace RL
open PySem PySem.Spec PyProof.Rows L2
/-! ### the pen: a list of three numbers, from which the law draws; n bounds the third -/
def Pen (H : Hp) (a : Addr) (n : Nat) : Prop := ∃ (p q : Int) (c : Nat), H a = some (.lst [.int p, .int q, vN c]) ∧ 0 ≤ p ∧ 0 ≤ q ∧ q < 2147483648 ∧ c ≤ n
theorem Pen.mono {H : Hp} {a : Addr} {n m : Nat} (h : Pen H a n) (l : n ≤ m) : Pen H a m := by
  obtain ⟨p, q, c, e, h1, h2, h3, h4⟩ := h
  exact ⟨p, q, c, e, h1, h2, h3, by omega⟩
theorem Pen.same {H H' : Hp} {a : Addr} {n : Nat} (h : Pen H a n) (s : Same H H') : Pen H' a n := by
  obtain ⟨p, q, c, e, h1⟩ := h
  exact ⟨p, q, c, s _ _ e, h1⟩
theorem Pen.at {H H' : Hp} {a : Addr} {n : Nat} (h : Pen H a n) (s : ∀ o, H a = some o → H' a = some o) : Pen H' a n := by
  obtain ⟨p, q, c, e, h1⟩ := h
  exact ⟨p, q, c, s _ e, h1⟩
/-- a new object that is not the pen's -/
theorem Pen.ne {H : Hp} {a p : Addr} {n : Nat} (h : Pen H a n) (hp : H p = none) : p ≠ a := by
  obtain ⟨_, _, _, e, _⟩ := h
  exact (ne_of_none e hp).symm
theorem Pen.upd {H : Hp} {a p : Addr} {n : Nat} {o : HO} (h : Pen H a n) (ne : p ≠ a) : Pen (L2.upd H p o) a n := h.at fun o e => by rw [upd_ne ne.symm]; exact e
/-- steps that lead from b groups to g -/
def StepsTo : Nat → List (List Nat) → Nat → Prop
  | b, [], g => b = g
  | b, s :: r, g => StepOk b s ∧ StepsTo (top1 s) r g
theorem StepsTo.ok : ∀ {ss : List (List Nat)} {b g : Nat}, StepsTo b ss g → StepsOk b ss
  | [], _, _, _ => trivial
  | _ :: _, _, _, h => ⟨h.1, StepsTo.ok h.2⟩
theorem StepsTo.snoc : ∀ {ss : List (List Nat)} {b g : Nat} {s : List Nat}, StepsTo b ss g → StepOk g s → StepsTo b (ss ++ [s]) (top1 s)
  | [], b, g, s, h, hs => by
    have e : b = g := h
    subst e
    exact ⟨hs, rfl⟩
  | _ :: _, _, _, _, h, hs => ⟨h.1, StepsTo.snoc h.2 hs⟩
theorem ixN_nat {n d : Nat} (h : d < n) : ixN n (d : Int) = some d := by
  unfold ixN
  rw [if_pos (by omega), if_pos (by omega)]
  simp
end RL
namespace RL
open PySem PySem.Spec PyProof.Rows L2
/-! ### how long the text of data is -/
mutual
def wt : PyData → Nat
  | .none => 4
  | .bool _ => 5
  | .int i => i.natAbs.log2 + 2
  | .str _ => 0
  | .list ds => wtAll ds + 3
  | .tuple ds => wtAll ds + 3
  | .dict _ => 0
def wtAll : List PyData → Nat
  | [] => 0
  | d :: ds => wt d + 2 + wtAll ds
end
mutual
def plainD : PyData → Bool
  | .none => true
  | .bool _ => true
  | .int i => decide (i.natAbs.log2 < 1920)
  | .str _ => false
  | .list ds => plainAll ds
  | .tuple ds => plainAll ds
  | .dict _ => false
def plainAll : List PyData → Bool
  | [] => true
  | d :: ds => plainD d && plainAll ds
end
theorem int_len (i : Int) : (Str.ofString (toString i)).length ≤ i.natAbs.log2 + 2 := by
  have h := int_text_length_le (a := i) (k := i.natAbs.log2 + 1) (Nat.succ_pos _) (Nat.lt_succ_self _)
  have e : (Str.ofString (toString i)).length = (toString i).length := PySem.ofString_length _
  omega
theorem plain_cons {d : PyData} {ds : List PyData} (h : plainAll (d :: ds) = true) : plainD d = true ∧ plainAll ds = true := by
  have : (plainD d && plainAll ds) = true := h
  simpa using this
mutual
theorem shown_le : ∀ d : PyData, plainD d = true → d.shown.length ≤ wt d
  | .none, _ => by simp only [PyData.shown]; decide
  | .bool b, _ => by cases b <;> (simp only [PyData.shown]; decide)
  | .int i, _ => by simp only [PyData.shown]; exact int_len i
  | .str _, h => by cases h
  | .list ds, h => by
    simp only [PyData.shown]
    have h1 := listText_len_le (PyData.shownAll ds)
    have h2 := shownAll_le ds h
    show _ ≤ wtAll ds + 3
    omega
  | .tuple ds, h => by
    simp only [PyData.shown]
    have h1 := tupleText_len_le (PyData.shownAll ds)
    have h2 := shownAll_le ds h
    show _ ≤ wtAll ds + 3
    omega
  | .dict _, h => by cases h
theorem shownAll_le : ∀ ds : List PyData, plainAll ds = true → ((PyData.shownAll ds).map (·.length)).sum + 2 * (PyData.shownAll ds).length ≤ wtAll ds
  | [], _ => by simp only [PyData.shownAll]; decide
  | d :: ds, h => by
    obtain ⟨h1, h2⟩ := plain_cons h
    have a := shown_le d h1
    have b := shownAll_le ds h2
    simp only [PyData.shownAll, List.map_cons, List.sum_cons, List.length_cons]
    show _ ≤ wt d + 2 + wtAll ds
    omega
end
mutual
theorem showable_of : ∀ d : PyData, plainD d = true → d.showable = true ∧ d.hasDict = false ∧ d.canLay0 = true
  | .none, _ => ⟨rfl, rfl, rfl⟩
  | .bool _, _ => ⟨rfl, rfl, rfl⟩
  | .int _, h => ⟨h, rfl, rfl⟩
  | .str _, h => by cases h
  | .list ds, h => showableAll_of ds h
  | .tuple ds, h => showableAll_of ds h
  | .dict _, h => by cases h
theorem showableAll_of : ∀ ds : List PyData, plainAll ds = true → PyData.showableAll ds = true ∧ PyData.hasDictAll ds = false ∧ PyData.canLayAll0 ds = true
  | [], _ => ⟨rfl, rfl, rfl⟩
  | d :: ds, h => by
    obtain ⟨h1, h2⟩ := plain_cons h
    obtain ⟨a1, a2, a3⟩ := showable_of d h1
    obtain ⟨b1, b2, b3⟩ := showableAll_of ds h2
    refine ⟨?_, ?_, ?_⟩
    · show (d.showable && PyData.showableAll ds) = true
      rw [a1, b1]; rfl
    · show (d.hasDict || PyData.hasDictAll ds) = false
      rw [a2, b2]; rfl
    · show (d.canLay0 && PyData.canLayAll0 ds) = true
      rw [a3, b3]; rfl
end
/-! tuples of small numbers -/
theorem log2_lt {n : Nat} (h : n < 2 ^ 30) : n.log2 < 30 := by
  by_cases h0 : n = 0
  · subst h0; decide
  · exact (Nat.log2_lt h0).mpr h
/-- all that the texts' rule asks of data -/
structure Fits (d : PyData) : Prop where
  disp : isDisplay d = true
  sh : d.showable = true
  nd : d.hasDict = false
  dp : d.depth ≤ 50
  sz : d.shown.length ≤ sizeLine
theorem Fits.of {d : PyData} (h1 : isDisplay d = true) (h2 : plainD d = true) (h3 : d.depth ≤ 50) (h4 : wt d ≤ 1000000) : Fits d :=
  ⟨h1, (showable_of d h2).1, (showable_of d h2).2.1, h3, Nat.le_trans (shown_le d h2) (Nat.le_trans h4 (by decide))⟩
end RL
namespace RL
open PySem PySem.Spec PyProof.Rows L2
/-! ### groups of a level, the group above, the rows of groups by values -/
def gcount (a : Att) : Nat → Nat
  | 0 => a.1
  | l + 1 => top1 (a.2.getD l [])
theorem stepsOk_at : ∀ {ss : List (List Nat)} {b : Nat}, StepsOk b ss → ∀ (l : Nat) (st : List Nat), ss[l]? = some st → StepOk (gcount (b, ss) l) st
  | [], _, _, _, _, h => by simp at h
  | s :: r, b, ok, 0, st, h => by
    have e : s = st := Option.some.inj h
    subst e
    exact ok.1
  | s :: r, b, ok, l + 1, st, h => by
    have := stepsOk_at ok.2 l st (by simpa using h)
    cases l with
    | zero => exact this
    | succ l => exact this
theorem step_ok {a : Att} (ok : AttOk a) {l : Nat} (hl : l < a.2.length) : StepOk (gcount a l) (a.2.getD l []) ∧ a.2[l]? = some (a.2.getD l []) := by
  have e : a.2[l]? = some (a.2.getD l []) := by
    rw [List.getD_eq_getElem?_getD, List.getElem?_eq_getElem hl]
    rfl
  exact ⟨stepsOk_at ok.2.2.2 l _ e, e⟩
theorem gcount_succ {a : Att} (ok : AttOk a) {l : Nat} (hl : l < a.2.length) : 0 < gcount a (l + 1) ∧ gcount a (l + 1) < gcount a l ∧ ∀ g, g ∈ a.2.getD l [] ↔ g < gcount a (l + 1) := by
  obtain ⟨⟨h1, m, m0, mb, hm⟩, _⟩ := step_ok ok hl
  have e : gcount a (l + 1) = m := top1_of m0 hm
  rw [e]
  exact ⟨m0, mb, hm⟩
theorem gcount_pos {a : Att} (ok : AttOk a) : ∀ {l : Nat}, l ≤ a.2.length → 0 < gcount a l ∧ gcount a l ≤ 6
  | 0, _ => ⟨ok.1, ok.2.1⟩
  | l + 1, h => by
    obtain ⟨h1, h2, _⟩ := gcount_succ ok (show l < a.2.length from h)
    have := gcount_pos ok (l := l) (by omega)
    omega
/-! ### all tuples below some numbers -/
def tuplesN (ns : List Nat) : List (List Nat) := ns.foldl (fun acc m => acc.flatMap fun r => (List.range m).map fun x => r ++ [x]) [[]]
theorem tuplesN_snoc (ns : List Nat) (m : Nat) : tuplesN (ns ++ [m]) = (tuplesN ns).flatMap fun r => (List.range m).map fun x => r ++ [x] := by unfold tuplesN; rw [List.foldl_append]; rfl
theorem flat_len (xs : List (List Nat)) (m : Nat) : (xs.flatMap fun r => (List.range m).map fun x => r ++ [x]).length = xs.length * m := by
  induction xs with
  | nil => simp
  | cons r t ih => rw [List.flatMap_cons, List.length_append, ih, List.length_map, List.length_range, List.length_cons, Nat.succ_mul]; omega
theorem snocInd {P : List Nat → Prop} (h0 : P []) (h1 : ∀ xs x, P xs → P (xs ++ [x])) (xs : List Nat) : P xs := by
  have : ∀ ys : List Nat, P ys.reverse := by
    intro ys
    induction ys with
    | nil => exact h0
    | cons y t ih => rw [List.reverse_cons]; exact h1 _ _ ih
  have h := this xs.reverse
  rwa [List.reverse_reverse] at h
theorem prodN_snoc2 {ns : List Nat} {m : Nat} : prodN (ns ++ [m]) = prodN ns * m := by unfold prodN; rw [List.foldl_append]; rfl
theorem tuplesN_len (ns : List Nat) : (tuplesN ns).length = prodN ns := by
  refine snocInd (P := fun ns => (tuplesN ns).length = prodN ns) rfl (fun ns m ih => ?_) ns
  rw [tuplesN_snoc, flat_len, ih, prodN_snoc2]
theorem mem_tuplesN (ns : List Nat) : ∀ c : List Nat, c ∈ tuplesN ns ↔ c.length = ns.length ∧ ∀ (i x m : Nat), c[i]? = some x → ns[i]? = some m → x < m := by
  refine snocInd (P := fun ns => ∀ c : List Nat, c ∈ tuplesN ns ↔ c.length = ns.length ∧ ∀ (i x m : Nat), c[i]? = some x → ns[i]? = some m → x < m) ?_ (fun ns m ih => ?_) ns
  · intro c
    show c ∈ [[]] ↔ _
    rw [List.mem_singleton]
    constructor
    · rintro rfl
      exact ⟨rfl, fun i x m h => by simp at h⟩
    · rintro ⟨h, _⟩
      exact List.eq_nil_of_length_eq_zero h
  · intro c
    rw [tuplesN_snoc, List.mem_flatMap]
    constructor
    · rintro ⟨r, hr, hc⟩
      obtain ⟨x, hx, rfl⟩ := List.mem_map.mp hc
      obtain ⟨lr, hlt⟩ := (ih r).mp hr
      refine ⟨by simp [lr], fun i y k hi hk => ?_⟩
      by_cases h : i < r.length
      · rw [List.getElem?_append_left h] at hi
        rw [List.getElem?_append_left (by omega)] at hk
        exact hlt i y k hi hk
      · have hi0 : i < (r ++ [x]).length := (List.getElem?_eq_some_iff.mp hi).1
        rw [List.length_append] at hi0
        have e : i = r.length := by simp at hi0; omega
        subst e
        rw [List.getElem?_append_right (Nat.le_refl _), Nat.sub_self] at hi
        rw [List.getElem?_append_right (by omega)] at hk
        have e0 : r.length - ns.length = 0 := by omega
        rw [e0] at hk
        have e1 : x = y := Option.some.inj hi
        have e2 : m = k := Option.some.inj hk
        rw [← e1, ← e2]
        exact List.mem_range.mp hx
    · rintro ⟨hl, hlt⟩
      rw [List.length_append, List.length_singleton] at hl
      have hne : c ≠ [] := fun e => by rw [e] at hl; simp at hl
      refine ⟨c.dropLast, (ih _).mpr ⟨by rw [List.length_dropLast]; omega, fun i x k hi hk => ?_⟩, List.mem_map.mpr ⟨c.getLast hne, List.mem_range.mpr ?_, List.dropLast_concat_getLast hne⟩⟩
      · have hi0 : i < c.dropLast.length := (List.getElem?_eq_some_iff.mp hi).1
        rw [List.length_dropLast] at hi0
        refine hlt i x k ?_ (by rw [List.getElem?_append_left (by omega)]; exact hk)
        rw [List.getElem?_dropLast, if_pos (by omega)] at hi
        exact hi
      · refine hlt (c.length - 1) _ m ?_ ?_
        · rw [← List.getLast?_eq_getElem?, List.getLast?_eq_some_getLast hne]
        · rw [List.getElem?_append_right (by omega)]
          have e0 : c.length - 1 - ns.length = 0 := by omega
          rw [e0]
          rfl
/-- the counts of groups of a rollup -/
def counts (S : List Att) (r : List Nat) : List Nat := (List.range S.length).map fun i => gcount (S.getD i (0, [])) (r.getD i 0)
theorem counts_len (S : List Att) (r : List Nat) : (counts S r).length = S.length := by unfold counts; rw [List.length_map, List.length_range]
theorem counts_get {S : List Att} {r : List Nat} {i : Nat} {a : Att} {l : Nat} (h1 : S[i]? = some a) (h2 : r[i]? = some l) : (counts S r)[i]? = some (gcount a l) := by
  have hi : i < S.length := (List.getElem?_eq_some_iff.mp h1).1
  unfold counts
  rw [List.getElem?_map, List.getElem?_range hi]
  show some (gcount (S.getD i (0, [])) (r.getD i 0)) = _
  rw [getD_of h1, getD_of h2]
end RL
namespace RL
open PySem PySem.Spec PyProof.Rows L2
/-! ### a list of lists of numbers -/
def LL (H : Hp) (R : Addr) (rs : List (List Nat)) : Prop := ∃ ps : List Addr, H R = some (.lst (ps.map V.ref)) ∧ ps.length = rs.length ∧ ∀ (k : Nat) (p : Addr) (row : List Nat), ps[k]? = some p → rs[k]? = some row → H p = some (.lst (row.map vN))
theorem LL.same {H H' : Hp} {R : Addr} {rs : List (List Nat)} (h : LL H R rs) (e : Same H H') : LL H' R rs := by
  obtain ⟨ps, h1, h2, h3⟩ := h
  exact ⟨ps, e _ _ h1, h2, fun k p row hk hr => e _ _ (h3 k p row hk hr)⟩
theorem LL.get {H : Hp} {R : Addr} {rs : List (List Nat)} {k : Nat} {row : List Nat} (h : LL H R rs) (hk : rs[k]? = some row) : ∃ (ps : List Addr) (p : Addr), H R = some (.lst (ps.map V.ref)) ∧ ps.length = rs.length ∧ (ps.map V.ref)[k]? = some (.ref p) ∧ H p = some (.lst (row.map vN)) := by
  obtain ⟨ps, h1, h2, h3⟩ := h
  have hlt : k < ps.length := by rw [h2]; exact (List.getElem?_eq_some_iff.mp hk).1
  have g : ps[k]? = some ps[k] := List.getElem?_eq_getElem hlt
  exact ⟨ps, ps[k], h1, h2, by rw [List.getElem?_map, g]; rfl, h3 k _ row g hk⟩
theorem pre_take {α : Type} (xs : List α) {i : Nat} {x : α} (h : xs[i]? = some x) : xs.take (i + 1) = xs.take i ++ [x] := by rw [List.take_add_one, h, Option.toList_some]
theorem prod_take_le : ∀ {ns : List Nat}, (∀ n ∈ ns, 1 ≤ n) → ∀ i, prodN (ns.take i) ≤ prodN ns := by
  intro ns
  refine snocInd (P := fun ns => (∀ n ∈ ns, 1 ≤ n) → ∀ i, prodN (ns.take i) ≤ prodN ns) (fun _ i => by simp) (fun ns m ih h i => ?_) ns
  have h1 := ih fun n hn => h n (List.mem_append_left _ hn)
  have hm : 1 ≤ m := h m (by simp)
  rw [prodN_snoc2]
  by_cases hi : i ≤ ns.length
  · rw [List.take_append_of_le_length hi]
    exact Nat.le_trans (h1 i) (Nat.le_mul_of_pos_right _ hm)
  · rw [List.take_of_length_le (by simp; omega), prodN_snoc2]
    exact Nat.le_refl _
theorem plain_flat {rs : List (List Nat)} (j : Nat) (m : Nat) {r : List Nat} (h : rs[j]? = some r) : ((rs.take (j + 1)).flatMap fun r => (List.range m).map fun x => r ++ [x]) = ((rs.take j).flatMap fun r => (List.range m).map fun x => r ++ [x]) ++ (List.range m).map fun x => r ++ [x] := by
  rw [pre_take rs h, List.flatMap_append]
  simp
theorem DpAll.app {K : PySem.W.Frag} {H : Hp} : ∀ {vs us : List V} {ds es : List PyData}, DpAll K H vs ds → DpAll K H us es → DpAll K H (vs ++ us) (ds ++ es)
  | _, _, _, _, .nil, h => h
  | _, _, _, _, .cons h1 h2, h => .cons h1 (DpAll.app h2 h)
/-! ### tuples of numbers that stand as such in the heap -/
def TR (H : Hp) : List V → List (List Nat) → Prop
  | [], [] => True
  | v :: vs, c :: cs => (∃ b, v = V.ref b ∧ H b = some (.tup (c.map vN))) ∧ TR H vs cs
  | _, _ => False
theorem TR.app {H : Hp} : ∀ {vs us : List V} {cs ds : List (List Nat)}, TR H vs cs → TR H us ds → TR H (vs ++ us) (cs ++ ds)
  | [], _, [], _, _, h => h
  | _ :: _, _, _ :: _, _, ⟨h1, h2⟩, h => ⟨h1, TR.app h2 h⟩
theorem TR.one {H : Hp} {b : Addr} {c : List Nat} (h : H b = some (.tup (c.map vN))) : TR H [.ref b] [c] := ⟨⟨b, rfl, h⟩, trivial⟩
theorem TR.get {H : Hp} : ∀ {vs : List V} {cs : List (List Nat)} {i : Nat} {v : V}, TR H vs cs → vs[i]? = some v → ∃ c b, cs[i]? = some c ∧ v = .ref b ∧ H b = some (.tup (c.map vN))
  | [], [], _, _, _, h => by simp at h
  | _ :: _, c :: _, 0, _, ⟨⟨b, e1, e2⟩, _⟩, h => ⟨c, b, rfl, (Option.some.inj h).symm.trans e1, e2⟩
  | _ :: vs, _ :: cs, i + 1, v, ⟨_, h2⟩, h => by
    obtain ⟨c, b, q⟩ := TR.get (i := i) h2 (by simpa using h)
    exact ⟨c, b, by simpa using q.1, q.2⟩
end RL
namespace RL
open PySem PySem.Spec PyProof.Rows L2
/-! ### zip of a list and a tuple -/
def ItzLT (K : PySem.W.Frag) (a b : Addr) : It :=
  ⟨fun i H => ∃ (xs ys : List V) (x y : V), SqL K H a xs ∧ SqT K H b ys ∧ xs[i]? = some x ∧ ys[i]? = some y,
    fun i H v H' => ∃ T x y, v = .ref T ∧ H T = none ∧ H' = upd H T (.tup [x, y]) ∧ (∀ xs, SqL K H a xs → xs[i]? = some x) ∧ ∀ ys, SqT K H b ys → ys[i]? = some y,
    fun i H => ∃ xs ys : List V, SqL K H a xs ∧ SqT K H b ys ∧ i ≤ xs.length ∧ i ≤ ys.length ∧ (i = xs.length ∨ i = ys.length)⟩
theorem turn_zipLT {P : Program} {w : World} {K : PySem.W.Frag} {elts : List Expr} {kk : Nat} {tpos : Pos} {a b z TI TO i1 i2 : Addr} (D : ZipApart z TI TO i1 i2 a b) :
    Turn P w K (.Tuple elts kk tpos) (ItzLT K a b) [z, TI, TO, i1, i2] z
      (fun i h => IsZip h z TI TO .none ∧ IsPair h TI (.ref i1) (.ref i2) ∧ (∃ x y, IsPair h TO x y) ∧ h.IsListIter i1 a i ∧ h.IsTupleIter i2 b i) where
  mem := List.mem_cons_self
  obj := fun i h st c hc => by
    obtain ⟨hz, hTI, ⟨x, y, hTO⟩, ⟨o1, e1, _, d1⟩, ⟨o2, e2, _, d2⟩⟩ := st
    simp only [List.mem_cons, List.not_mem_nil, or_false] at hc
    rcases hc with rfl | rfl | rfl | rfl | rfl
    · exact ⟨_, hz, fun _ q => nomatch q⟩
    · exact ⟨_, hTI, fun _ q => nomatch q⟩
    · exact ⟨_, hTO, fun _ q => nomatch q⟩
    · exact ⟨o1, e1, fun _ q => by rw [d1] at q; cases q⟩
    · exact ⟨o2, e2, fun _ q => by rw [d2] at q; cases q⟩
  keep := fun i h h' st k => by
    obtain ⟨hz, hTI, ⟨x, y, hTO⟩, h1, h2⟩ := st
    have m1 : i1 ∈ [z, TI, TO, i1, i2] := by simp
    have m2 : i2 ∈ [z, TI, TO, i1, i2] := by simp
    exact ⟨k z (by simp) _ hz, k TI (by simp) _ hTI, ⟨x, y, k TO (by simp) _ hTO⟩, h1.at (k i1 m1), h2.at (k i2 m2)⟩
  item := by
    intro X hP hw hK hc i pins s σ H E I hf st hg
    subst hP hw hK
    obtain ⟨hz, hTI, ⟨x0, y0, hTO⟩, h1, h2⟩ := st
    obtain ⟨xs, ys, x, y, qx, qy, gx, gy⟩ := hg
    obtain ⟨its, rv, p, _⟩ := I.list qx
    obtain ⟨its2, rv2, p2, _⟩ := I.tuple qy
    have lx := rv.length
    have ly := rv2.length
    obtain ⟨bx, _⟩ := List.getElem?_eq_some_iff.mp gx
    obtain ⟨byy, _⟩ := List.getElem?_eq_some_iff.mp gy
    have hzl : z < s.heap.objs.size := Heap.lt_size hz
    have hh : X.A.in1.handled = none := I.ok.hd hc
    refine wpAny_pyNext_zipD2_item (sepM D) (Draws.list hh i1 a D.l1i1 its.toArray) (Draws.tuple hh i2 b D.l2i2 its2.toArray) hz hTI hTO ⟨h1, p.isList⟩ ⟨h2, p2⟩ (by simp; omega) (by simp; omega) fun u u2 h' tk g1 g2 z' TO' s1 s2 hT hsz hk => ?_
    obtain ⟨w1, hw1, ru⟩ := rv.get gx
    obtain ⟨w2, hw2, ru2⟩ := rv2.get gy
    have e1 : w1 = u := by
      have g1' : its[i]? = some u := by simpa using g1
      exact Option.some.inj (hw1.symm.trans g1')
    have e2 : w2 = u2 := by
      have g2' : its2[i]? = some u2 := by simpa using g2
      exact Option.some.inj (hw2.symm.trans g2')
    subst e1 e2
    refine ⟨_, rfl, wpAny_letOwnedTupleGo_zip (s := { s with heap := h', toks := tk }) z' fun h'' z'' sb => ?_⟩
    have hT2 : h''.get? s.heap.objs.size = some { cls := .type "tuple", data := .seq #[w1, w2] } := (sb.2 _ (Nat.ne_of_gt hzl)).trans hT
    have new : ObjOk X.prog X.w (upd H s.heap.objs.size (.tup [x, y])) h'' s.heap.objs.size (.tup [x, y]) :=
      ⟨by show 2 ≤ sizeLine; decide, [w1, w2], .cons ru (.cons ru2 .nil), ⟨_, hT2, rfl, _, rfl⟩⟩
    have far : ∀ c o, c ∉ [z, TI, TO, i1, i2] → s.heap.get? c = some o → h''.get? c = some o := fun c o hb q => by
      simp only [List.mem_cons, List.not_mem_nil, or_false, not_or] at hb
      exact (sb.2 c hb.1).trans (hk c o hb.1 hb.2.2.1 hb.2.2.2.1 hb.2.2.2.2 q)
    have I1 := I.turnedNew (t' := tk) (ch := [z, TI, TO, i1, i2]) far hf (Nat.le_refl _) new
    refine ⟨.ref s.heap.objs.size, _, I1, rfl, ⟨_, x, y, rfl, I.hok.fresh (Nat.le_refl _), rfl, fun l hl => by rw [I.list_inj hl qx]; exact gx, fun l hl => by rw [I.tuple_inj hl qy]; exact gy⟩, ⟨z'', ?_, ⟨w1, w2, ?_⟩, ?_, ?_⟩, fun c hcm => ?_⟩
    · exact (sb.2 _ D.TIz).trans (hk _ _ D.TIz D.TITO D.TIi1 D.TIi2 hTI)
    · exact (sb.2 _ D.TOz).trans TO'
    · exact s1.1.at fun o q => (sb.2 _ D.i1z).trans q
    · exact s2.1.at fun o q => (sb.2 _ D.i2z).trans q
    · have hlt : c < s.heap.objs.size := by
        simp only [List.mem_cons, List.not_mem_nil, or_false] at hcm
        rcases hcm with rfl | rfl | rfl | rfl | rfl
        · exact hzl
        · exact Heap.lt_size hTI
        · exact Heap.lt_size hTO
        · obtain ⟨_, e, _⟩ := h1; exact Heap.lt_size e
        · obtain ⟨_, e, _⟩ := h2; exact Heap.lt_size e
      rw [upd_ne (Nat.ne_of_lt hlt)]
      exact (hf c hcm).1
  done := by
    intro X hP hw hK hc i pins s σ H E I hf st hg
    subst hP hw hK
    obtain ⟨hz, hTI, ⟨x0, y0, hTO⟩, h1, h2⟩ := st
    obtain ⟨xs, ys, qx, qy, le1, le2, hend⟩ := hg
    obtain ⟨its, rv, p, _⟩ := I.list qx
    obtain ⟨its2, rv2, p2, _⟩ := I.tuple qy
    have lx := rv.length
    have ly := rv2.length
    have hh : X.A.in1.handled = none := I.ok.hd hc
    refine wpAny_pyNext_zipD2_end (sepM D) (Draws.list hh i1 a D.l1i1 its.toArray) (Draws.tuple hh i2 b D.l2i2 its2.toArray) hz hTI hTO ⟨h1, p.isList⟩ ⟨h2, p2⟩ (by simp; omega) (by simp; omega) (by simp; omega) fun h' tk hk => ?_
    refine ⟨rfl, I.turnedL (t' := tk) (ch := [z, TI, TO, i1, i2]) (fun c o hb q => ?_) hf⟩
    simp only [List.mem_cons, List.not_mem_nil, or_false, not_or] at hb
    exact hk c o hb.1 hb.2.2.1 hb.2.2.2.1 hb.2.2.2.2 q
  self := fun A i s Q E st h => wpAny_pyIter_zip st.1 h
def iZipLT (K : PySem.W.Frag) (ta : TA) : TI := fun σ H R => ta σ H fun vs H1 => ∃ a b xs ys, vs = [.ref a, .ref b] ∧ SqL K H1 a xs ∧ SqT K H1 b ys ∧ R (ItzLT K a b) H1
theorem pi_zipLT {X : Cx} {e e2 : Expr} {ta : TA} {p pos tpos : Pos} {elts : List Expr} {kk : Nat} (hg : Gl X "zip") (hm : X.mg "zip" = none) (ha : PA X [e, e2] ta)
    (hs : starEach [e, e2] X.env = (false, eval e X.env) :: starEach [e2] X.env := by rfl) (hpl : (backTo pos (starEach [e2] X.env)).any (·.1) = false := by rfl) :
    PI X (.Tuple elts kk tpos) (.Call (.Name "zip" p) [e, e2] [] pos) (iZipLT X.K ta) := by
  refine ⟨fun pins s σ H R I h => Call_ (ld_blt I hg hm PyProof.Rows.boot_zip (PyProof.Rows.callWith_type1 (thn (ha.run pos pins s σ H _ I h) ?_) hs hpl))⟩
  intro us s1 ⟨vs, H1, I1, r1, a, b, xs, ys, ex, qx, qy, q⟩
  subst ex
  cases r1 with
  | cons ra rr =>
    cases rr with
    | cons rb rr =>
      cases rr
      cases ra
      cases rb
      obtain ⟨its, rv, p1, _⟩ := I1.list qx
      obtain ⟨its2, rv2, p2, _⟩ := I1.tuple qy
      obtain ⟨o1, ho1, _⟩ := id p2
      refine zip_begins2 (begins_list a its.toArray) (begins_tuple b its2.toArray) p1.isList p2 fun h' hz hTI hTO h1 h2 hsz hk => wpAny_pyIter_zip hz ?_
      have D := PySem.W.ktu_apart s1.heap.objs.size a b p1.lt (Heap.lt_size ho1)
      refine ⟨s1.heap.objs.size + 4, [s1.heap.objs.size + 4, s1.heap.objs.size + 2, s1.heap.objs.size + 3, s1.heap.objs.size, s1.heap.objs.size + 1], _, _, H1, rfl, I1.kept (t' := s1.toks) hk, turn_zipLT D, ⟨hz, hTI, ⟨_, _, hTO⟩, ⟨_, h1, rfl, rfl⟩, ⟨_, h2, rfl, rfl⟩⟩, fun c hcm => ?_, q⟩
      have hle : s1.heap.objs.size ≤ c := by
        simp only [List.mem_cons, List.not_mem_nil, or_false] at hcm
        rcases hcm with rfl | rfl | rfl | rfl | rfl
        · exact Nat.le_add_right _ _
        · exact Nat.le_add_right _ _
        · exact Nat.le_add_right _ _
        · exact Nat.le_refl _
        · exact Nat.le_add_right _ _
      exact I1.fpOk hle (I1.hok.fresh hle)
section
variable {K : PySem.W.Frag} {a b : Addr} {xs ys : List V}
theorem walk_zipLT (hl : xs.length = ys.length) : Walk (ItzLT K a b) xs.length (fun H => SqL K H a xs ∧ SqT K H b ys) (YPair (fun i => xs[i]?) (fun i => ys[i]?)) := by
  refine ⟨fun i _ hi q => ?_, fun _ q => ⟨xs, ys, q.1, q.2, Nat.le_refl _, by omega, .inl rfl⟩, fun i H v H' _ q y => ?_⟩
  · have h2 : i < ys.length := by omega
    exact ⟨xs, ys, xs[i], ys[i], q.1, q.2, by simp [hi], by simp [h2]⟩
  · obtain ⟨T, x, z, h1, h2, h3, h4, h5⟩ := y
    exact ⟨T, x, z, h1, h2, h3, h4 xs q.1, h5 ys q.2⟩
end
/-! ### a walk with any turn -/
theorem walk_any {J : It} {n : Nat} {G : Hp → Prop} {Y : Nat → Hp → V → Hp → Prop} (w : Walk J n G Y) {H0 : Hp} {Qd : Hp → Prop} {body : V → Hp → (Hp → Prop) → Prop} (Pv : Nat → Hp → Prop) (h0 : Pv 0 H0) (hG : ∀ i H, i ≤ n → Pv i H → G H)
    (hs : ∀ i x H H', i < n → Pv i H → Y i H x H' → body x H' (Pv (i + 1))) (hd : ∀ H, Pv n H → Qd H) :
    ∃ W : Nat → Nat → Hp → Prop, (∃ m, W 0 m H0) ∧ ∀ i m H, W i m H → (J.stop i H ∧ Qd H) ∨ (J.go i H ∧ ∃ Nx : Hp → Prop, (∀ H', Nx H' → ∃ m', m' < m ∧ W (i + 1) m' H') ∧ ∀ x H', J.yld i H x H' → body x H' Nx) := by
  refine ⟨fun i m H => m = n - i ∧ i ≤ n ∧ Pv i H, ⟨n, by simp, Nat.zero_le _, h0⟩, ?_⟩
  rintro i m H ⟨rfl, hi, p⟩
  have q := hG i H hi p
  by_cases hlt : i < n
  · exact .inr ⟨w.goes i H hlt q, Pv (i + 1), fun H' p' => ⟨n - (i + 1), by omega, rfl, hlt, p'⟩, fun x H' y => hs i x H H' hlt p (w.yields i H x H' hlt q y)⟩
  · have e : i = n := by omega
    subst e
    exact .inl ⟨w.stops H q, hd H p⟩
/-! ### tuples of whole numbers -/
def eI (xs : List Int) : PyData := .tuple (xs.map .int)
/-! ### tuples compared -/
/-! ### amounts added up by places -/
end RL
namespace RL
open PySem PySem.Spec PyProof.Rows L2
/-! ### dicts whose keys are tuples of ints and of such tuples -/
mutual
def keyD : PyData → Option NestedKey
  | .int i => some (.num i)
  | .tuple ds => (keysD ds).map NestedKey.tup
  | .none => none
  | .bool _ => none
  | .str _ => none
  | .list _ => none
  | .dict _ => none
def keysD : List PyData → Option (List NestedKey)
  | [] => some []
  | d :: ds => (keyD d).bind fun k => (keysD ds).map (k :: ·)
end
mutual
/-- the hash of a key of numbers, which no World has a say in -/
def numHash : NestedKey → Int
  | .none => 0
  | .num i => hashInt i
  | .text _ => 0
  | .tup ks => reduceHash (Builtin.Tuple.tupleHashOf (numHashes ks))
def numHashes : List NestedKey → List Int
  | [] => []
  | k :: ks => numHash k :: numHashes ks
end
/-- at a stands a dict with these entries: key, where the key's own tuple stands, value -/
abbrev DL3 := List (NestedKey × Addr × V)
abbrev RelE : NestedKey × Addr × V → NestedKey × Addr × Value → Prop := fun p q => p.1 = q.1 ∧ p.2.1 = q.2.1 ∧ RelV p.2.2 q.2.2
def numEntry (x : NestedKey × Addr × Value) : DictEntry := ⟨numHash x.1, .ref x.2.1, x.2.2⟩
def DctIs (L : DL3) (a : Addr) (h : Heap) : Prop := (a == sysModules) = false ∧ ∃ (xs : List (NestedKey × Addr × Value)) (o : Obj) (es : Array DictEntry) (ep : Nat),
  Paired RelE L xs ∧ h.get? a = some o ∧ o.ExactDict ∧ o.data = .dict es ep ∧ es.toList = xs.map numEntry
def DctO (L : DL3) (a : Addr) : HO := .ext (DctIs L a)
/-- the key k, of a depth that is served, as a tuple at b -/
def KeyAt (K : PySem.W.Frag) (H : Hp) (k : NestedKey) (b : Addr) : Prop := ∃ d, keyD d = some k ∧ k.depth ≤ 8 ∧ Dp K H (.ref b) d
theorem KeyAt.same {K : PySem.W.Frag} {H H' : Hp} {k : NestedKey} {b : Addr} (x : KeyAt K H k b) (f : ∀ d v, Dp K H v d → Dp K H' v d) : KeyAt K H' k b := by
  obtain ⟨d, h1, h2, h3⟩ := x
  exact ⟨d, h1, h2, f _ _ h3⟩
section
variable {X : Cx} {pins : List (Addr × Obj)} {σ : L2.St} {H : Hp} {s : Shared}
def atL (L : DL3) (k : NestedKey) : Option V := (L.find? fun p => decide (p.1 = k)).map (·.2.2)
def putL (L : DL3) (k : NestedKey) (b : Addr) (v : V) : DL3 := if (atL L k).isSome then L.map (fun p => if p.1 = k then (p.1, p.2.1, v) else p) else L ++ [(k, b, v)]
variable {a b : Addr} {L : DL3} {k : NestedKey} {E : Value → Shared → Prop}
end
end RL
namespace RL
open PySem PySem.Spec PyProof.Rows L2
theorem tuple_mul1 (l : Addr) (items : Array Value) (n : Nat) (dd : Option Addr) (sl : Array (Option Value)) (u : Tok) :
    Meets (Builtin.«tuple.__mul__» ⟨[.ref l, .int 1 u], []⟩) (fun _ R s => s.heap.get? l = some { cls := .type "tuple", dict := dd, data := .seq items n, slots := sl } ∧ R (.ok (.ret (Value.ref l))) s) :=
  .of_wp fun prog w A R s h => by
    obtain ⟨hp, g, d, tk, os⟩ := s
    obtain ⟨hl, h⟩ := h
    have f1 := AutoSeq1.idx_int
    have c1 : (items.isEmpty || (1 : Int) == 1) = true := by cases items.isEmpty <;> rfl
    wp_walk using wpAny_loadPart' hl
    repeat (first
      | (refine wpAny_ite_false (decide_eq_false (by decide)) ?_; wp_walk using wpAny_loadPart' hl)
      | (refine wpAny_ite_true (decide_eq_true c1) ?_; wp_walk using wpAny_loadPart' hl))
    exact ⟨_, rfl, h⟩
end RL
namespace RL
open PySem PySem.Spec PyProof.Rows L2 HT
/-! ### made tuples that are known to have no dict -/
/-- the object of a tuple that is made -/
def PlainT (ob : Obj) : Prop := ob.cls = .type "tuple" ∧ ob.dict = none
/-- what is wanted of a new tuple -/
abbrev NewT (H : Hp) (xs : List V) (Q : VK) : Prop := ∀ p ob, H p = none → PlainT ob → Q (.ref p) (upd H p (.frz ob (.tup xs)))
section
variable {X : Cx} {pos : Pos}
theorem frzT {P : Program} {w : World} {H : Hp} {h : Heap} {us : List Value} {xs : List V} (r : Vals xs us) (hz : xs.length ≤ sizeLine) :
    ObjOk P w H (h.push { cls := .type "tuple", data := .seq us.toArray }) h.objs.size (.frz { cls := .type "tuple", data := .seq us.toArray } (.tup xs)) :=
  ⟨Heap.get?_push_size _ rfl, hz, us, r, IsTup.new _ _⟩
theorem newT {pins : List (Addr × Obj)} {s : Shared} {σ : L2.St} {H : Hp} {Q : VK} {us : List Value} {xs : List V} (I : Inv X pins σ H s) (r : Vals xs us) (hz : xs.length ≤ sizeLine) (q : NewT H xs Q) :
    EP X pins σ Q (.ref s.heap.objs.size) { s with heap := s.heap.push { cls := .type "tuple", data := .seq us.toArray } } :=
  ⟨.ref s.heap.objs.size, _, I.laid (t' := s.toks) (o := .frz { cls := .type "tuple", data := .seq us.toArray } (.tup xs)) (fun b ob q => Heap.get?_push_of_some _ q) (Nat.le_refl _) (frzT r hz), rfl, q _ _ (I.hok.fresh (Nat.le_refl _)) ⟨rfl, rfl⟩⟩
def tTupP (ta : TA) : TE := fun σ H Q => ta σ H fun xs H1 => xs.length ≤ sizeLine ∧ NewT H1 xs Q
theorem pe_tupP {es : List Expr} {t : TA} {x1} (h : PA X es t) : PE X (.Tuple es x1 pos) (tTupP t) := by
  constructor
  intro pins s σ H Q I hq
  refine wpAny_Tuple_spliced (thn (h.run pos pins s σ H _ I hq) ?_)
  rintro us s1 ⟨xs, H1, I1, r, z, q⟩
  exact ⟨by rw [← r.length]; exact z, newT I1 r z q⟩
/-! ### + -/
def rCatP (K : PySem.W.Frag) : R2 := fun x y H Q => ∃ a b xs ys, x = .ref a ∧ y = .ref b ∧ SqT K H a xs ∧ SqT K H b ys ∧ xs.length + ys.length ≤ sizeLine ∧
  (xs = [] → Q (.ref b) H) ∧ (xs ≠ [] → ys = [] → Q (.ref a) H) ∧ (xs ≠ [] → ys ≠ [] → NewT H (xs ++ ys) Q)
theorem op_catP : OpR X (binaryOp .Add) (rCatP X.K) := by
  intro pins s σ H x y v u Q I rx ry h
  obtain ⟨a, b, xs, ys, rfl, rfl, ha, hb, hz, q0, q1, q2⟩ := h
  cases rx
  cases ry
  obtain ⟨its, r1, p1, _⟩ := I.tuple ha
  obtain ⟨its2, r2, p2, _⟩ := I.tuple hb
  by_cases hx : xs = []
  · subst hx
    cases r1
    exact cat_tup0 p1 p2 ⟨.ref b, H, I, rfl, q0 rfl⟩
  · refine HT.cat_tup p1 p2 (fun z => hx (r1.nil_iff.mp z)) (fun z => ⟨.ref a, H, I, rfl, q1 hx (r2.nil_iff.mp z)⟩) (fun z => ?_) (by rw [← r1.length, ← r2.length]; exact hz)
    exact newT I (r1.append r2) (by rw [List.length_append]; exact hz) (q2 hx fun w => z (r2.nil_iff.mpr w))
/-! ### * -/
def rRepP (K : PySem.W.Frag) : R2 := fun x y H Q => ∃ l k xs, x = .ref l ∧ y = .int k ∧ SqT K H l xs ∧ xs ≠ [] ∧ 2 ≤ k ∧ k ≤ 1000 ∧ xs.length ≤ 1000 ∧ NewT H (List.replicate k.toNat xs).flatten Q
theorem op_repP : OpR X (binaryOp .Mult) (rRepP X.K) := by
  intro pins s σ H x y v u Q I rx ry h
  obtain ⟨l, k, xs, rfl, rfl, hT, hne, h1, h2, hz, q⟩ := h
  cases rx
  obtain ⟨t, rfl⟩ := ry
  obtain ⟨its, r, ⟨⟨cls, dd, data, sl⟩, ho, hc, n, hd⟩, hs⟩ := I.tuple hT
  simp only at hc hd
  subst hc hd
  have hle : its.length = xs.length := r.length.symm
  have hn : its ≠ [] := fun e => hne (by
    rw [e] at hle
    exact List.eq_nil_of_length_eq_zero hle.symm)
  have hi : its.toArray.isEmpty = false := by
    cases its with
    | nil => exact absurd rfl hn
    | cons a b => rfl
  have hsz0 : its.toArray.size = xs.length := by rw [List.size_toArray, hle]
  have hm : ((its.toArray.size : Nat) : Int) * k ≤ 1000000 := by
    rw [hsz0]
    have a1 : ((xs.length : Nat) : Int) * k ≤ 1000 * k := Int.mul_le_mul_of_nonneg_right (by omega) (by omega)
    omega
  have flen : (List.replicate k.toNat its).flatten.length ≤ sizeLine := by
    rw [PyProof.Rows.lm_len_rep_flat, hle, sizeLine_eq]
    have a1 : k.toNat * xs.length ≤ 1000 * 1000 := Nat.mul_le_mul (by omega) hz
    omega
  have c0 : (decide (k < -(2 ^ 63)) || decide (k ≥ 2 ^ 63)) = false := by
    rw [decide_eq_false (by omega), decide_eq_false (by omega)] <;> rfl
  have c1 : (its.toArray.isEmpty || k == 1) = false := by
    rw [hi, Bool.false_or]
    exact beq_eq_false_iff_ne.mpr (by omega)
  have c2 : (decide (k ≤ 0) || its.toArray.isEmpty) = false := by
    rw [hi, Bool.or_false]
    exact decide_eq_false (by omega)
  have c4 : Builtin.Tuple.tupleTooMany (((its.toArray.size : Nat) : Int) * k) = false := by
    unfold Builtin.Tuple.tupleTooMany
    rw [sizeLine_eq]
    exact decide_eq_false (by omega)
  refine wpAny_binaryOp_repeat_ref (T := "tuple") (U := "int") (by decide) ⟨_, ho, rfl⟩ (fun s' => typeIs_int s' k t) noFill_tuple_mul F.fills_int_mul F.slot_int_rmul repeat_tuple F.slot_int_index.lookup
    (call_meets F.slot_int_rmul (typeIs_int s k t) F.entry_int_rmul (F.args_int_rmul_2 _ _) (int_rmul_tuple k t l its.toArray n dd sl)
      ⟨ho, rfl, ⟨_, ho, rfl⟩, call_meets F.slot_tuple_mul ⟨_, ho, rfl⟩ F.entry_tuple_mul (F.args_tuple_mul_2 _ _) (tuple_mulW l its.toArray n dd sl k t c0 c1 c2 (by omega) c4 (by rw [size_rep, List.size_toArray]; exact flen)) ⟨ho, ?_⟩⟩)
  rw [size_rep]
  refine newT I (r.rep k.toNat) ?_ q
  rw [PyProof.Rows.lm_len_rep_flat, sizeLine_eq]
  have a1 : k.toNat * xs.length ≤ 1000 * 1000 := Nat.mul_le_mul (by omega) hz
  omega
/-! ### tuple(..) -/
theorem call_tupleP : CallR X (.type "tuple") (fun xs H Q => ∃ p ys, xs = [.ref p] ∧ ((SqL X.K H p ys ∧ NewT H ys Q) ∨ (SqT X.K H p ys ∧ Q (.ref p) H))) := by
  intro pins s σ H xs us Q I r h
  obtain ⟨p, ys, rfl, h⟩ := h
  obtain ⟨u, rfl, rx⟩ := Vals.one r
  cases rx
  rcases h with ⟨hq, q⟩ | ⟨hq, q⟩
  · obtain ⟨its, r', pl, hz⟩ := I.list hq
    have hlen := r'.length
    refine call_tuple_list pl.isList (fun h' kp => ?_) (by simp only [List.size_toArray] <;> omega)
    have I1 : Inv X pins σ H { s with heap := h' } := I.kept (t' := s.toks) kp
    exact newT I1 r' hz q
  · obtain ⟨its, r', pl, hz⟩ := I.tuple hq
    exact call_tuple_same pl ⟨.ref p, H, I, rfl, q⟩
/-! ### t[lo:hi] -/
def rSlP (K : PySem.W.Frag) : V → Option Int → Option Int → Hp → VK → Prop := fun x lo hi H Q => ∃ a xs, x = .ref a ∧ SqT K H a xs ∧
  (HT.sIx xs.length 0 lo = 0 ∧ HT.sIx xs.length xs.length hi = xs.length → Q (.ref a) H) ∧ (¬ (HT.sIx xs.length 0 lo = 0 ∧ HT.sIx xs.length xs.length hi = xs.length) → NewT H (cutV xs lo hi) Q)
theorem sl_tupP : SlR X (rSlP X.K) := by
  intro pins s σ H x v vl vu lo hi sl Q I rx hs pl pu h
  obtain ⟨a, xs, rfl, hx, q1, q2⟩ := h
  cases rx
  obtain ⟨its, r, ht, hz⟩ := I.tuple hx
  have hlen : its.toArray.size = xs.length := by rw [List.size_toArray]; exact r.length.symm
  refine ⟨"tuple", _, PyProof.Rows.slot_tuple_getitem.lookup, ht.typeIs, ?_⟩
  by_cases hw : HT.sIx xs.length 0 lo = 0 ∧ HT.sIx xs.length xs.length hi = xs.length
  · exact getItem_tuple_whole ht hs pl pu (by rw [hlen]; exact hw) ⟨.ref a, H, I, rfl, q1 hw⟩
  · refine HT.getItem_tuple_cut ht hs pl pu (by rw [hlen]; exact hw) ?_ (by rw [hlen]; exact hz)
    rw [hlen]
    exact newT I ((r.drop (HT.sIx xs.length 0 lo)).take (HT.sIx xs.length xs.length hi - HT.sIx xs.length 0 lo)) (Nat.le_trans (cutV_length xs lo hi) hz) (q2 hw)
end
end RL
namespace MP
open PySem PySem.Spec PyProof.Rows L2 RL
/-! ### data whose lists and tuples are all tracked -/
/-- a tuple that is known to have no dict -/
def TupAt (F : Hp) (a : Addr) (xs : List V) : Prop := ∃ ob, F a = some (.frz ob (.tup xs)) ∧ PlainT ob
theorem TupAt.same {F F' : Hp} {a : Addr} {xs : List V} (h : TupAt F a xs) (e : Same F F') : TupAt F' a xs := by
  obtain ⟨ob, h, p⟩ := h
  exact ⟨ob, e _ _ h, p⟩
theorem TupAt.sq {K : PySem.W.Frag} {F H : Hp} {a : Addr} {xs : List V} (h : TupAt F a xs) (e : Same F H) : SqT K H a xs := by
  obtain ⟨ob, h, p⟩ := h
  exact .inl (.inr ⟨ob, e _ _ h⟩)
/-- what is asked of an own class, its name cls, whose instances are made -/
structure InsK (K : PySem.W.Frag) (cls : Str) (C : Addr) : Prop where
  ns : PySem.W.nsIn K mainGlobals cls = some (some (.ref C))
  cl : L2.Cls K C
  ha : PySem.W.findIn K (.ref C) "__class__" = some (some (.builtin "object.__class__"))
  hn : PySem.W.specialIn K (.builtin "object.__class__") "__get__" = some (some (.builtin "getset_descriptor.__get__"))
  htk : PySem.W.takesIn K (.builtin "object.__class__") = some true
  hm : PySem.W.mroIn K C (.type "object") = some true
  ty : ∀ T ∈ (["int", "str", "tuple", "list", "bool"] : List String), PySem.W.kitOne K (.ref C) (.type T) = some false
  na : ∀ f ∈ (["attributes", "states", "limit"] : List Str), L2.NoAttr K C f
theorem InsK.one {K : PySem.W.Frag} {cls : Str} {C D : Addr} (h : InsK K cls C) (g : InsK K cls D) : C = D := by
  have e := h.ns.symm.trans g.ns
  exact Value.ref.inj (Option.some.inj (Option.some.inj e))
mutual
inductive Dq (K : PySem.W.Frag) (F : Hp) : V → PyData → Prop
  | non : Dq K F .non .none
  | bl (b : Bool) : Dq K F (.bl b) (.bool b)
  | int (i : Int) : Dq K F (.int i) (.int i)
  | str (x : Str) : Dq K F (.str x) (.str x)
  | lst {a : Addr} {xs : List V} {ds : List PyData} : F a = some (.lst xs) → DqAll K F xs ds → Dq K F (.ref a) (.list ds)
  | tup {a : Addr} {xs : List V} {ds : List PyData} : TupAt F a xs → DqAll K F xs ds → Dq K F (.ref a) (.tuple ds)
  | dct {a : Addr} {kvs : List (PyData × PyData)} : OddAt K F a kvs → Dq K F (.ref a) (.dict kvs)
inductive DqAll (K : PySem.W.Frag) (F : Hp) : List V → List PyData → Prop
  | nil : DqAll K F [] []
  | cons {v : V} {vs : List V} {d : PyData} {ds : List PyData} : Dq K F v d → DqAll K F vs ds → DqAll K F (v :: vs) (d :: ds)
/-- the attributes of an instance, by name -/
inductive DqAt (K : PySem.W.Frag) (F : Hp) : List (Str × V) → List (PyData × PyData) → Prop
  | nil {fs : List (Str × V)} : DqAt K F fs []
  | cons {fs : List (Str × V)} {f : Str} {v : V} {d : PyData} {r : List (PyData × PyData)} : fs.lookup f = some v → Dq K F v d → DqAt K F fs r → DqAt K F fs ((.str f, d) :: r)
/-- odd data: an empty dict; a dict of one number; an instance of an own class, told by the class's name, its states and its other attributes -/
inductive OddAt (K : PySem.W.Frag) (F : Hp) : Addr → List (PyData × PyData) → Prop
  | nil {a : Addr} : F a = some (.dK []) → OddAt K F a []
  | one {a : Addr} {n : Int} {v : V} {d : PyData} : F a = some (.dK [(Sum.inl n, v)]) → Dq K F v d → OddAt K F a [(.int n, d)]
  | ins {a l C dx : Addr} {fs : List (Str × V)} {cls : Str} {xs : List V} {ds : List PyData} {at_ : List (PyData × PyData)} : F a = some (.ins C dx fs) → InsK K cls C → fs.lookup ("states" : Str) = some (V.ref l) → F l = some (.lst xs) → DqAll K F xs ds →
      DqAt K F fs at_ → (∀ f : Str, fs.lookup f ≠ none → f = "states" ∨ PyData.str f ∈ at_.map (·.1)) → OddAt K F a ((.str cls, .list ds) :: at_)
  | inu {a C dx : Addr} {fs : List (Str × V)} {cls : Str} : F a = some (.ins C dx fs) → InsK K cls C → OddAt K F a [(.str cls, .none)]
end
mutual
theorem dq_sameH {K : PySem.W.Frag} {H H' : Hp} (e : Same H H') : ∀ {v : V} {d : PyData}, Dq K H v d → Dq K H' v d
  | _, _, .non => .non
  | _, _, .bl b => .bl b
  | _, _, .int i => .int i
  | _, _, .str x => .str x
  | _, _, .lst hs ha => .lst (e _ _ hs) (dqAll_sameH e ha)
  | _, _, .tup hs ha => .tup (hs.same e) (dqAll_sameH e ha)
  | _, _, .dct h => .dct (odd_sameH e h)
theorem dqAll_sameH {K : PySem.W.Frag} {H H' : Hp} (e : Same H H') : ∀ {vs : List V} {ds : List PyData}, DqAll K H vs ds → DqAll K H' vs ds
  | _, _, .nil => .nil
  | _, _, .cons h1 h2 => .cons (dq_sameH e h1) (dqAll_sameH e h2)
theorem dqAt_sameH {K : PySem.W.Frag} {H H' : Hp} (e : Same H H') : ∀ {fs : List (Str × V)} {at_ : List (PyData × PyData)}, DqAt K H fs at_ → DqAt K H' fs at_
  | _, _, .nil => .nil
  | _, _, .cons h1 h2 h3 => .cons h1 (dq_sameH e h2) (dqAt_sameH e h3)
theorem odd_sameH {K : PySem.W.Frag} {H H' : Hp} (e : Same H H') : ∀ {a : Addr} {kvs : List (PyData × PyData)}, OddAt K H a kvs → OddAt K H' a kvs
  | _, _, .nil h => .nil (e _ _ h)
  | _, _, .one h1 h2 => .one (e _ _ h1) (dq_sameH e h2)
  | _, _, .ins h1 h2 h3 h4 h5 h6 h7 => .ins (e _ _ h1) h2 h3 (e _ _ h4) (dqAll_sameH e h5) (dqAt_sameH e h6) h7
  | _, _, .inu h1 h2 => .inu (e _ _ h1) h2
end
theorem dq_same {K : PySem.W.Frag} {H H' : Hp} (e : Same H H') (d : PyData) (v : V) (h : Dq K H v d) : Dq K H' v d := dq_sameH e h
theorem dqAll_same {K : PySem.W.Frag} {H H' : Hp} (e : Same H H') (ds : List PyData) (vs : List V) (h : DqAll K H vs ds) : DqAll K H' vs ds := dqAll_sameH e h
theorem OddAt.same {K : PySem.W.Frag} {F F' : Hp} {a : Addr} {kvs : List (PyData × PyData)} (h : OddAt K F a kvs) (e : Same F F') : OddAt K F' a kvs := odd_sameH e h
mutual
theorem dq_dp {K : PySem.W.Frag} {H : Hp} : ∀ (d : PyData) (v : V), d.hasDict = false → Dq K H v d → Dp K H v d
  | .none, _, _, h => by cases h; exact .non
  | .bool b, _, _, h => by cases h; exact .bl b
  | .int i, _, _, h => by cases h; exact .int i
  | .str x, _, _, h => by cases h; exact .str x
  | .dict _, _, n, h => by simp [PyData.hasDict] at n
  | .list ds, _, n, h => by
    cases h with
    | lst hs ha => exact .lst (SqL.of hs) (dqAll_dp ds _ (by simpa [PyData.hasDict] using n) ha)
  | .tuple ds, _, n, h => by
    cases h with
    | tup hs ha => exact .tup (hs.sq (Same.refl _)) (dqAll_dp ds _ (by simpa [PyData.hasDict] using n) ha)
theorem dqAll_dp {K : PySem.W.Frag} {H : Hp} : ∀ (ds : List PyData) (vs : List V), PyData.hasDictAll ds = false → DqAll K H vs ds → DpAll K H vs ds
  | [], _, _, h => by cases h; exact .nil
  | d :: ds, _, n, h => by
    have n : d.hasDict = false ∧ PyData.hasDictAll ds = false := by simpa [PyData.hasDictAll] using n
    cases h with
    | cons h1 h2 => exact .cons (dq_dp d _ n.1 h1) (dqAll_dp ds _ n.2 h2)
end
mutual
theorem nod_plain : ∀ (d : PyData), d.plain = true → d.hasDict = false
  | .none, _ => by simp [PyData.hasDict]
  | .bool _, _ => by simp [PyData.hasDict]
  | .int _, _ => by simp [PyData.hasDict]
  | .str _, _ => by simp [PyData.hasDict]
  | .dict _, h => by simp [PyData.plain] at h
  | .list ds, h => by simpa [PyData.hasDict] using nods_plain ds (by simpa [PyData.plain] using h)
  | .tuple ds, h => by simpa [PyData.hasDict] using nods_plain ds (by simpa [PyData.plain] using h)
theorem nods_plain : ∀ (ds : List PyData), PyData.plainAll ds = true → PyData.hasDictAll ds = false
  | [], _ => by simp [PyData.hasDictAll]
  | d :: ds, h => by
    have h : d.plain = true ∧ PyData.plainAll ds = true := by simpa [PyData.plainAll] using h
    simp [PyData.hasDictAll, nod_plain d h.1, nods_plain ds h.2]
end
theorem nod_shaped {d : PyData} (h : SeqAt.shaped d = true) : d.hasDict = false := PyData.hasDict_of_canLay d (SeqAt.canLay_of_shaped h)
section
variable {K : PySem.W.Frag} {H : Hp}
theorem DqAll.length : ∀ {vs : List V} {ds : List PyData}, DqAll K H vs ds → vs.length = ds.length
  | _, _, .nil => rfl
  | _, _, .cons _ h => by simp [DqAll.length h]
theorem DqAll.get : ∀ {vs : List V} {ds : List PyData} {i : Nat} {v : V}, DqAll K H vs ds → vs[i]? = some v → ∃ d, ds[i]? = some d ∧ Dq K H v d
  | _, _, _, _, .nil, h => by simp at h
  | _, _, 0, _, .cons h1 _, h => by
    have e := Option.some.inj (show some _ = some _ from h)
    subst e
    exact ⟨_, rfl, h1⟩
  | _, _, i + 1, _, .cons _ h2, h => DqAll.get (i := i) h2 (by simpa using h)
theorem DqAll.app : ∀ {vs us : List V} {ds es : List PyData}, DqAll K H vs ds → DqAll K H us es → DqAll K H (vs ++ us) (ds ++ es)
  | _, _, _, _, .nil, h => h
  | _, _, _, _, .cons h1 h2, h => .cons h1 (DqAll.app h2 h)
theorem DqAll.take : ∀ {vs : List V} {ds : List PyData} (n : Nat), DqAll K H vs ds → DqAll K H (vs.take n) (ds.take n)
  | _, _, 0, _ => .nil
  | _, _, _ + 1, .nil => .nil
  | _, _, n + 1, .cons r t => .cons r (DqAll.take n t)
theorem DqAll.drop : ∀ {vs : List V} {ds : List PyData} (n : Nat), DqAll K H vs ds → DqAll K H (vs.drop n) (ds.drop n)
  | _, _, 0, r => r
  | _, _, _ + 1, .nil => .nil
  | _, _, n + 1, .cons _ t => DqAll.drop n t
theorem DqAll.set {v : V} {d : PyData} (r : Dq K H v d) : ∀ {vs : List V} {ds : List PyData} (i : Nat), DqAll K H vs ds → DqAll K H (vs.set i v) (ds.set i d)
  | _, _, _, .nil => .nil
  | _, _, 0, .cons _ t => .cons r t
  | _, _, i + 1, .cons q t => .cons q (DqAll.set r i t)
end
/-- the entries of a dict -/
structure DctAll (K : PySem.W.Frag) (F : Hp) (L : DL3) (kvs : List (PyData × PyData)) : Prop where
  all : Paired (fun (p : NestedKey × Addr × V) (q : PyData × PyData) => keyD q.1 = some p.1 ∧ p.1.depth ≤ 8 ∧ Dq K F (.ref p.2.1) q.1 ∧ Dq K F p.2.2 q.2) L kvs
  nd : (L.map (·.1)).Nodup
theorem dct_same {K : PySem.W.Frag} {F F' : Hp} (e : Same F F') {L : DL3} {kvs : List (PyData × PyData)} (h : DctAll K F L kvs) : DctAll K F' L kvs :=
  ⟨Paired.mapP h.all fun p q x => ⟨x.1, x.2.1, dq_same e _ _ x.2.2.1, dq_same e _ _ x.2.2.2⟩, h.nd⟩
/-! ### further things of a def's own: the table of code objects of a def that makes lambdas -/
inductive Xt where
  | tb (x : Str)
  | ob (cls : Str) (at_ : List (Str × PyData))
/-- the name of a lambda that the def x makes -/
def LamQ (x : Str) : Str := (x ++ ".<locals>.") ++ "<lambda>"
/-- each code object in the table of the def x is known, and bears the lambda's name -/
def TabQ (K : PySem.W.Frag) (a : Addr) (F : Hp) (x : Str) (ps : Array Value) : Prop :=
  (∃ c, PySem.W.tabIn K x = some (c, a)) ∧ TriplesOk ps.toList ∧ ∀ (pos : Pos) (cv : Value), codeAmong pos ps.toList = some cv → ∃ c, cv = .ref c ∧ F c = some (LamX.CodeO c (LamQ x))
theorem tab_same {K : PySem.W.Frag} {a : Addr} {F F' : Hp} (e : Same F F') {x : Str} {ps : Array Value} (h : TabQ K a F x ps) : TabQ K a F' x ps :=
  ⟨h.1, h.2.1, fun pos cv hc => by
    obtain ⟨c, e1, e2⟩ := h.2.2 pos cv hc
    exact ⟨c, e1, e _ _ e2⟩⟩
/-- the attributes of an instance -/
def AtOk (K : PySem.W.Frag) (F : Hp) (fs : List (Str × V)) (at_ : List (Str × PyData)) : Prop := Paired (fun (p : Str × V) (q : Str × PyData) => p.1 = q.1 ∧ Dq K F p.2 q.2) fs at_
theorem at_same {K : PySem.W.Frag} {F F' : Hp} (e : Same F F') {fs : List (Str × V)} {at_ : List (Str × PyData)} (h : AtOk K F fs at_) : AtOk K F' fs at_ := Paired.mapP h fun p q x => ⟨x.1, dq_same e _ _ x.2⟩
/-- what an instance tells that is done: its data, and the list of its states -/
structure InsAt (K : PySem.W.Frag) (F : Hp) (a l : Addr) (cls : Str) (at_ : List (Str × PyData)) : Prop where
  ex : ∃ (C dx : Addr) (fs : List (Str × V)), F a = some (.ins C dx fs) ∧ InsK K cls C ∧ (∀ p ∈ at_, ∃ v, fs.lookup p.1 = some v ∧ Dq K F v p.2) ∧ fs.lookup ("states" : Str) = some (V.ref l) ∧ ∀ f : Str, fs.lookup f ≠ none → f = "states" ∨ f ∈ at_.map (·.1)
theorem InsAt.same {K : PySem.W.Frag} {F F' : Hp} {a l : Addr} {cls : Str} {at_ : List (Str × PyData)} (h : InsAt K F a l cls at_) (e : Same F F') : InsAt K F' a l cls at_ := by
  obtain ⟨C, dx, fs, h1, h2, h3, h4, h5⟩ := h.ex
  exact ⟨C, dx, fs, e _ _ h1, h2, fun p hp => by obtain ⟨v, e1, e2⟩ := h3 p hp; exact ⟨v, e1, dq_same e _ _ e2⟩, h4, h5⟩
def XtOk (K : PySem.W.Frag) (F : Hp) (a : Addr) (o : HO) : Xt → Prop
  | .tb x => ∃ ps, o = .tbl ps ∧ TabQ K a F x ps
  | .ob cls at_ => ∃ C dx fs, o = .ins C dx fs ∧ InsK K cls C ∧ AtOk K F fs at_
theorem xt_same {K : PySem.W.Frag} {F F' : Hp} {a : Addr} {o : HO} (e : Same F F') : ∀ {t : Xt}, XtOk K F a o t → XtOk K F' a o t
  | .tb x, h => by
    obtain ⟨ps, h1, h2⟩ := h
    exact ⟨ps, h1, tab_same e h2⟩
  | .ob cls at_, h => by
    obtain ⟨C, dx, fs, h1, h2, h3⟩ := h
    exact ⟨C, dx, fs, h1, h2, at_same e h3⟩
/-! ### what a def's own lists hold; its slots -/
inductive Own where
  | no
  | lst (ds : List PyData)
  | dct (kvs : List (PyData × PyData))
  | x (t : Xt)
  | fz (d : PyData)
abbrev Sto := List Own
/-- further kinds of slots: an exception that a suite holds; anything; an instance that is being made; an instance that is done, its states at a place of the def's own -/
inductive Sx where
  | e (a : Addr)
  | u
  | n (k : Nat)
  | c (cls : Str) (at_ : List (Str × PyData)) (k : Nat)
inductive Sl where
  | d (x : PyData)
  | o (k : Nat)
  | s (ns : List Int)
  | p (k : Nat)
  | x (t : Sx)
abbrev Slots := List (Option Sl)
abbrev Ads := List (Option Addr)
section
variable (K : PySem.W.Frag)
def OwnOk (F H : Hp) : Option Addr → Own → Prop
  | _, .no => True
  | some a, .lst ds => F a = none ∧ ∃ vs, H a = some (.lst vs) ∧ DqAll K F vs ds
  | some a, .dct kvs => F a = none ∧ ∃ L, H a = some (DctO L a) ∧ DctAll K F L kvs
  | some a, .x t => F a = none ∧ ∃ o, H a = some o ∧ XtOk K F a o t
  | some a, .fz d => H a ≠ none ∧ Dq K F (.ref a) d
  | none, _ => False
structure RelO (F H : Hp) (ow : Ads) (so : Sto) : Prop where
  sub : Same F H
  len : ow.length = so.length
  own : ∀ (k : Nat) (a : Option Addr) (w : Own), ow[k]? = some a → so[k]? = some w → OwnOk K F H a w
  inj : ∀ (j k : Nat) (a : Addr), ow[j]? = some (some a) → ow[k]? = some (some a) → j = k
  old : ∀ (k : Nat) (a : Addr), ow[k]? = some (some a) → H a ≠ none
inductive SxOk (F : Hp) (ow : Ads) : V → Sx → Prop
  | e (a : Addr) : SxOk F ow (.ref a) (.e a)
  | u (v : V) : SxOk F ow v .u
  | n {a : Addr} {k : Nat} : ow[k]? = some (some a) → SxOk F ow (.ref a) (.n k)
  | c {a l : Addr} {cls : Str} {at_ : List (Str × PyData)} {k : Nat} : InsAt K F a l cls at_ → ow[k]? = some (some l) → SxOk F ow (.ref a) (.c cls at_ k)
def SvOk (F : Hp) (ow : Ads) (v : V) : Sl → Prop
  | .d x => Dq K F v x
  | .o k => ∃ a, ow[k]? = some (some a) ∧ v = .ref a
  | .s ns => ∃ a, SqL K F a (ns.map V.int) ∧ v = .ref a
  | .p k => ∃ a b c, SqL K F a [.ref b, .ref c] ∧ ow[k]? = some (some b) ∧ ow[k + 1]? = some (some c) ∧ v = .ref a
  | .x t => SxOk K F ow v t
def SlOk (F : Hp) (ow : Ads) (v : Option V) : Option Sl → Prop
  | none => True
  | some s => ∃ u, v = some u ∧ SvOk K F ow u s
structure RelS (F : Hp) (ow : Ads) (σ : L2.St) (ρ : Slots) : Prop where
  len : σ.length = ρ.length
  ats : ∀ (i : Nat) (v : Option V) (s : Option Sl), σ[i]? = some v → ρ[i]? = some s → SlOk K F ow v s
end
/-- what an expression leaves of all that is not the def's own -/
structure Stp (ow : Ads) (F H F' H' : Hp) : Prop where
  fz : Same F F'
  keep : ∀ a o, some a ∉ ow → H a = some o → H' a = some o
  own : ∀ a o, some a ∉ ow → H a = some o → F a = none → F' a = none
  live : ∀ a, H a ≠ none → H' a ≠ none
theorem Stp.refl (ow : Ads) (F H : Hp) : Stp ow F H F H := ⟨Same.refl F, fun _ _ _ h => h, fun _ _ _ _ h => h, fun _ h => h⟩
theorem Stp.trans {ow : Ads} {F H F1 H1 F2 H2 : Hp} (a : Stp ow F H F1 H1) (b : Stp ow F1 H1 F2 H2) : Stp ow F H F2 H2 :=
  ⟨a.fz.trans b.fz, fun c o n h => b.keep c o n (a.keep c o n h), fun c o n h e => b.own c o n (a.keep c o n h) (a.own c o n h e), fun c h => b.live c (a.live c h)⟩
theorem Stp.some_of {ow : Ads} {F H F' H' : Hp} (a : Stp [] F H F' H') : Stp ow F H F' H' := ⟨a.fz, fun c o _ h => a.keep c o (by simp) h, fun c o _ h e => a.own c o (by simp) h e, a.live⟩
theorem live_upd {H : Hp} {p a : Addr} {o : HO} (h : H a ≠ none) : (upd H p o) a ≠ none := by
  by_cases e : a = p
  · subst e
    rw [upd_same]
    exact nofun
  · rw [upd_ne e]
    exact h
theorem Stp.same {F H F' H' : Hp} (a : Stp [] F H F' H') : Same H H' := fun b o h => a.keep b o (by simp) h
/-- a new thing, frozen at once -/
theorem Stp.new {F H : Hp} {p : Addr} {o : HO} (h : H p = none) (e : Same F H) : Stp [] F H (upd F p o) (upd H p o) := by
  refine ⟨same_new (e.free h), fun a u _ ha => same_new h a u ha, fun a u _ ha hf => ?_, fun a ha => live_upd ha⟩
  rw [upd_ne (ne_of_none ha h)]
  exact hf
theorem same_upd {F H : Hp} {p : Addr} {o : HO} (e : Same F H) : Same (upd F p o) (upd H p o) := fun b u hb => by
  by_cases hp : b = p
  · subst hp
    rw [upd_same] at hb ⊢
    exact hb
  · rw [upd_ne hp] at hb ⊢
    exact e b u hb
section
variable {K : PySem.W.Frag} {F H F' H' : Hp} {ow : Ads} {so : Sto} {σ : L2.St} {ρ : Slots}
theorem OwnOk.grow {a : Option Addr} {w : Own} (h : OwnOk K F H a w) (s : Stp [] F H F' H') : OwnOk K F' H' a w := by
  cases w with
  | no => cases a <;> trivial
  | lst ds =>
    cases a with
    | none => exact h.elim
    | some a =>
      obtain ⟨f, vs, hv, hd⟩ := h
      exact ⟨s.own a _ (by simp) hv f, vs, s.keep a _ (by simp) hv, dqAll_same s.fz ds vs hd⟩
  | dct ds =>
    cases a with
    | none => exact h.elim
    | some a =>
      obtain ⟨f, vs, hv, hd⟩ := h
      exact ⟨s.own a _ (by simp) hv f, vs, s.keep a _ (by simp) hv, dct_same s.fz hd⟩
  | x t0 =>
    cases a with
    | none => exact h.elim
    | some a =>
      obtain ⟨f, vs, hv, hd⟩ := h
      exact ⟨s.own a _ (by simp) hv f, vs, s.keep a _ (by simp) hv, xt_same s.fz hd⟩
  | fz d =>
    cases a with
    | none => exact h.elim
    | some a =>
      obtain ⟨f, hd⟩ := h
      refine ⟨?_, dq_same s.fz d _ hd⟩
      cases q : H a with
      | none => exact absurd q f
      | some o => rw [s.keep a o (by simp) q]; exact nofun
theorem RelO.grow (r : RelO K F H ow so) (s : Stp [] F H F' H') (e : Same F' H') : RelO K F' H' ow so := by
  refine ⟨e, r.len, fun k a w ha hw => (r.own k a w ha hw).grow s, r.inj, fun k a h => ?_⟩
  have := r.old k a h
  cases q : H a with
  | none => exact absurd q this
  | some o => rw [s.keep a o (by simp) q]; exact nofun
/-- the places that such a slot speaks of -/
def sxOwn : Sx → List Nat
  | .e _ => []
  | .u => []
  | .n k => [k]
  | .c _ _ k => [k]
theorem sx_same {v : V} {t : Sx} (h : SxOk K F ow v t) (e : Same F F') : SxOk K F' ow v t := by
  cases h with
  | e a => exact .e a
  | u v => exact .u v
  | n h => exact .n h
  | c h1 h2 => exact .c (h1.same e) h2
theorem sx_ow {ow' : Ads} {v : V} {t : Sx} (e : ∀ k ∈ sxOwn t, ∀ a, ow[k]? = some (some a) → ow'[k]? = some (some a)) (h : SxOk K F ow v t) : SxOk K F ow' v t := by
  cases h with
  | e a => exact .e a
  | u v => exact .u v
  | n h => exact .n (e _ (.head _) _ h)
  | c h1 h2 => exact .c h1 (e _ (.head _) _ h2)
theorem SvOk.mono {v : V} {s : Sl} (h : SvOk K F ow v s) (e : Same F F') : SvOk K F' ow v s := by
  cases s with
  | d x => exact dq_same e x v h
  | o k => exact h
  | s ns =>
    obtain ⟨a, q, e2⟩ := h
    exact ⟨a, e.seq q, e2⟩
  | p k =>
    obtain ⟨a, b, c, q, e2⟩ := h
    exact ⟨a, b, c, e.seq q, e2⟩
  | x t => exact sx_same (ow := ow) h e
theorem SlOk.mono {v : Option V} {s : Option Sl} (h : SlOk K F ow v s) (e : Same F F') : SlOk K F' ow v s := by
  cases s with
  | none => trivial
  | some s =>
    obtain ⟨u, hu, q⟩ := h
    exact ⟨u, hu, q.mono e⟩
theorem RelS.mono (r : RelS K F ow σ ρ) (e : Same F F') : RelS K F' ow σ ρ := ⟨r.len, fun i v s hv hs => (r.ats i v s hv hs).mono e⟩
theorem RelS.set {i : Nat} {v : Option V} {s : Option Sl} (r : RelS K F ow σ ρ) (h : SlOk K F ow v s) : RelS K F ow (σ.set i v) (ρ.set i s) := by
  refine ⟨by rw [List.length_set, List.length_set]; exact r.len, fun j v' s' hv hs => ?_⟩
  by_cases e : i = j
  · subst e
    rw [List.getElem?_set] at hv hs
    rw [if_pos rfl] at hv hs
    split at hv
    · rw [if_pos (by rw [← r.len]; assumption)] at hs
      cases hv
      cases hs
      exact h
    · cases hv
  · rw [List.getElem?_set_ne e] at hv hs
    exact r.ats j v' s' hv hs
theorem RelS.get {i : Nat} {s : Sl} (r : RelS K F ow σ ρ) (h : ρ[i]? = some (some s)) : ∃ v, σ[i]? = some (some v) ∧ SvOk K F ow v s := by
  have hi : i < ρ.length := (List.getElem?_eq_some_iff.mp h).1
  have hi' : i < σ.length := by rw [r.len]; exact hi
  have g : σ[i]? = some σ[i] := List.getElem?_eq_getElem hi'
  obtain ⟨v, hv, q⟩ := r.ats i σ[i] (some s) g h
  rw [hv] at g
  exact ⟨v, g, q⟩
def wipeS (ρ : Slots) : List Nat → Slots
  | [] => ρ
  | v :: vs => (wipeS ρ vs).set v none
theorem RelS.wipe (r : RelS K F ow σ ρ) : ∀ vs, RelS K F ow (L2.wipe σ vs) (wipeS ρ vs)
  | [] => r
  | v :: vs => (r.wipe vs).set (by trivial)
end
/-! ### the readings -/
abbrev DE := Slots → Sto → Option (PyData × Sto)
abbrev DL := Slots → Sto → Option (List PyData × Sto)
abbrev DB := Slots → Sto → Option (Bool × Sto)
inductive Fl where
  | nx (ρ : Slots)
  | bk (ρ : Slots)
  | ct (ρ : Slots)
  | rt (d : PyData)
  | ex (n : Str)
abbrev DS := Slots → Sto → Option (Fl × Sto)
section
variable (K : PySem.W.Frag)
def tOf (f : DE) : TE := fun σ H Q => ∃ F ow ρ so d so', RelO K F H ow so ∧ RelS K F ow σ ρ ∧ f ρ so = some (d, so') ∧
  ∀ F' H' v, RelO K F' H' ow so' → Stp ow F H F' H' → Dq K F' v d → Q v H'
/-- a new list that nobody else has -/
def tOfN (f : DL) : TE := fun σ H Q => ∃ F ow ρ so ds so', RelO K F H ow so ∧ RelS K F ow σ ρ ∧ f ρ so = some (ds, so') ∧
  ∀ F' H' a vs, RelO K F' H' ow so' → Stp ow F H F' H' → H a = none → F' a = none → H' a = some (.lst vs) → DqAll K F' vs ds → Q (.ref a) H'
def tOfA (f : DL) : TA := fun σ H Q => ∃ F ow ρ so ds so', RelO K F H ow so ∧ RelS K F ow σ ρ ∧ f ρ so = some (ds, so') ∧
  ∀ F' H' vs, RelO K F' H' ow so' → Stp ow F H F' H' → DqAll K F' vs ds → Q vs H'
def tOfB (f : DB) : TT := fun σ H Q => ∃ F ow ρ so b so', RelO K F H ow so ∧ RelS K F ow σ ρ ∧ f ρ so = some (b, so') ∧
  ∀ F' H', RelO K F' H' ow so' → Stp ow F H F' H' → Q b H'
/-- what is wanted behind a statement -/
def FlOk (D : Ends) (W : Str → Hp → Prop) (F : Hp) (ow : Ads) (H : Hp) : Fl → Prop
  | .nx ρ => ∀ σ, RelS K F ow σ ρ → D.nx σ H
  | .bk ρ => ∀ σ, RelS K F ow σ ρ → D.bk σ H
  | .ct ρ => ∀ σ, RelS K F ow σ ρ → D.ct σ H
  | .rt d => ∀ v, Dq K F v d → D.rt v H
  | .ex n => W n H
/-- the own lists' places: the first p stay, the others may be new ones -/
def OwTo (p : Nat) (ow : Ads) (H : Hp) (ow' : Ads) : Prop := ow'.length = ow.length ∧ ∀ k, ow'[k]? = ow[k]? ∨ (p ≤ k ∧ ∀ a, ow'[k]? = some (some a) → H a = none)
def tOfS (p : Nat) (W : Str → Hp → Prop) (f : DS) : TS := fun D σ H => ∃ F ow ρ so fl so', RelO K F H ow so ∧ RelS K F ow σ ρ ∧ f ρ so = some (fl, so') ∧
  ∀ F' H' ow', RelO K F' H' ow' so' → Stp ow F H F' H' → OwTo p ow H ow' → FlOk K D W F' ow' H' fl
end
theorem OwTo.refl (p : Nat) (ow : Ads) (H : Hp) : OwTo p ow H ow := ⟨rfl, fun _ => .inl rfl⟩
theorem OwTo.mem {p : Nat} {ow ow' : Ads} {H : Hp} (t : OwTo p ow H ow') {a : Addr} (h : some a ∈ ow') : some a ∈ ow ∨ H a = none := by
  obtain ⟨k, hk⟩ := List.mem_iff_getElem?.mp h
  rcases t.2 k with e | ⟨_, e⟩
  · rw [e] at hk
    exact .inl (List.mem_of_getElem? hk)
  · exact .inr (e a hk)
theorem Stp.next {p : Nat} {ow ow1 : Ads} {F H F1 H1 F2 H2 : Hp} (a : Stp ow F H F1 H1) (t : OwTo p ow H ow1) (b : Stp ow1 F1 H1 F2 H2) : Stp ow F H F2 H2 := by
  have out : ∀ c o, some c ∉ ow → H c = some o → some c ∉ ow1 := fun c o n h m => by
    rcases t.mem m with q | q
    · exact n q
    · rw [h] at q; cases q
  exact ⟨a.fz.trans b.fz, fun c o n h => b.keep c o (out c o n h) (a.keep c o n h), fun c o n h e => b.own c o (out c o n h) (a.keep c o n h) (a.own c o n h e), fun c h => b.live c (a.live c h)⟩
theorem OwTo.trans {p : Nat} {ow ow1 ow2 : Ads} {F H F1 H1 : Hp} (s : Stp ow F H F1 H1) (a : OwTo p ow H ow1) (b : OwTo p ow1 H1 ow2) : OwTo p ow H ow2 := by
  refine ⟨b.1.trans a.1, fun k => ?_⟩
  rcases b.2 k with e | ⟨hp, e⟩
  · rw [e]
    exact a.2 k
  · refine .inr ⟨hp, fun c hc => ?_⟩
    have h1 := e c hc
    cases q : H c with
    | none => rfl
    | some o => exact absurd h1 (s.live c (by rw [q]; exact nofun))
theorem _root_.L2.PE.imp {X : Cx} {e : Expr} {t t' : TE} (h : PE X e t) (i : ∀ σ H Q, t' σ H Q → t σ H Q) : PE X e t' := ⟨fun pins s σ H Q I q => h.run pins s σ H Q I (i σ H Q q)⟩
theorem _root_.L2.PT.imp {X : Cx} {e : Expr} {t t' : TT} (h : PT X e t) (i : ∀ σ H Q, t' σ H Q → t σ H Q) : PT X e t' := ⟨fun pins s σ H Q I q => h.run pins s σ H Q I (i σ H Q q)⟩
theorem _root_.L2.PW.imp {X : Cx} {e : Expr} {t t' : TT} (h : PW X e t) (i : ∀ σ H Q, t' σ H Q → t σ H Q) : PW X e t' := ⟨fun whole pins s σ H Q I q => h.run whole pins s σ H Q I (i σ H Q q)⟩
theorem _root_.L2.PA.imp {X : Cx} {e : List Expr} {t t' : TA} (h : PA X e t) (i : ∀ σ H Q, t' σ H Q → t σ H Q) : PA X e t' := ⟨fun pos pins s σ H Q I q => h.run pos pins s σ H Q I (i σ H Q q)⟩
theorem _root_.L2.PS.imp {X : Cx} {e : Stmt} {t t' : TS} (h : PS X e t) (i : ∀ D σ H, t' D σ H → t D σ H) : PS X e t' := ⟨fun pins s σ H D I q => h.run pins s σ H D I (i D σ H q)⟩
theorem _root_.L2.PSs.imp {X : Cx} {e : List Stmt} {t t' : TS} (h : PSs X e t) (i : ∀ D σ H, t' D σ H → t D σ H) : PSs X e t' := ⟨fun pins s σ H D I q => h.run pins s σ H D I (i D σ H q)⟩
theorem _root_.L2.PI.imp {X : Cx} {tg e : Expr} {t t' : TI} (h : PI X tg e t) (i : ∀ σ H R, t' σ H R → t σ H R) : PI X tg e t' := ⟨fun pins s σ H R I q => h.run pins s σ H R I (i σ H R q)⟩
abbrev PD (X : Cx) (e : Expr) (f : DE) : Prop := PE X e (tOf X.K f)
abbrev PDN (X : Cx) (e : Expr) (f : DL) : Prop := PE X e (tOfN X.K f)
abbrev PDA (X : Cx) (es : List Expr) (f : DL) : Prop := PA X es (tOfA X.K f)
abbrev PDB (X : Cx) (e : Expr) (f : DB) : Prop := PT X e (tOfB X.K f)
abbrev PDW (X : Cx) (e : Expr) (f : DB) : Prop := PW X e (tOfB X.K f)
abbrev PDS (X : Cx) (p : Nat) (W : Str → Hp → Prop) (st : Stmt) (f : DS) : Prop := PS X st (tOfS X.K p W f)
abbrev PDSs (X : Cx) (p : Nat) (W : Str → Hp → Prop) (st : List Stmt) (f : DS) : Prop := PSs X st (tOfS X.K p W f)
end MP
namespace MP
open PySem PySem.Spec PyProof.Rows L2 RL
/-! ### names, constants -/
/-- a name is read: a list of one's own is frozen by it -/
def eVar (i : Nat) : DE := fun ρ so =>
  match ρ[i]? with
  | some (some (.d x)) => some (x, so)
  | some (some (.o k)) =>
    match so[k]? with
    | some (.lst ds) => some (.list ds, so.set k (.fz (.list ds)))
    | some (.fz d) => some (d, so)
    | _ => none
  | _ => none
def eC (d : PyData) : DE := fun _ so => some (d, so)
section
variable {K : PySem.W.Frag} {F H F' H' : Hp} {ow : Ads} {so : Sto} {σ : L2.St} {ρ : Slots}
theorem RelO.at (r : RelO K F H ow so) {k : Nat} {w : Own} (h : so[k]? = some w) : ∃ a, ow[k]? = some a ∧ OwnOk K F H a w := by
  have hk : k < ow.length := by rw [r.len]; exact (List.getElem?_eq_some_iff.mp h).1
  have g : ow[k]? = some ow[k] := List.getElem?_eq_getElem hk
  exact ⟨_, g, r.own k _ w g h⟩
theorem RelO.lst (r : RelO K F H ow so) {k : Nat} {ds : List PyData} (h : so[k]? = some (.lst ds)) : ∃ a vs, ow[k]? = some (some a) ∧ F a = none ∧ H a = some (.lst vs) ∧ DqAll K F vs ds := by
  obtain ⟨a, ha, q⟩ := r.at h
  cases a with
  | none => exact q.elim
  | some a =>
    obtain ⟨f, vs, hv, hd⟩ := q
    exact ⟨a, vs, ha, f, hv, hd⟩
theorem RelO.fz (r : RelO K F H ow so) {k : Nat} {d : PyData} (h : so[k]? = some (.fz d)) : ∃ a, ow[k]? = some (some a) ∧ Dq K F (.ref a) d := by
  obtain ⟨a, ha, q⟩ := r.at h
  cases a with
  | none => exact q.elim
  | some a => exact ⟨a, ha, q.2⟩
theorem get_set {α : Type} {xs : List α} {k j : Nat} {w v : α} (h : (xs.set k w)[j]? = some v) : (j = k ∧ v = w) ∨ (j ≠ k ∧ xs[j]? = some v) := by
  by_cases e : k = j
  · subst e
    rw [List.getElem?_set] at h
    rw [if_pos rfl] at h
    split at h
    · exact .inl ⟨rfl, (Option.some.inj h).symm⟩
    · cases h
  · rw [List.getElem?_set_ne e] at h
    exact .inr ⟨Ne.symm e, h⟩
/-- an own list is frozen -/
theorem RelO.freeze (r : RelO K F H ow so) {k : Nat} {a : Addr} {vs : List V} {ds : List PyData} (hk : so[k]? = some (.lst ds)) (ha : ow[k]? = some (some a)) (f : F a = none) (hv : H a = some (.lst vs)) (hd : DqAll K F vs ds) :
    RelO K (upd F a (.lst vs)) H ow (so.set k (.fz (.list ds))) ∧ Stp ow F H (upd F a (.lst vs)) H ∧ Dq K (upd F a (.lst vs)) (.ref a) (.list ds) := by
  have s1 : Same F (upd F a (.lst vs)) := same_new f
  have dd : Dq K (upd F a (.lst vs)) (.ref a) (.list ds) := .lst upd_same (dqAll_same s1 ds vs hd)
  refine ⟨⟨fun b o hb => ?_, by rw [List.length_set]; exact r.len, fun j b w hb hw => ?_, r.inj, r.old⟩, ⟨s1, fun _ _ _ h => h, fun b o nb hb fb => ?_, fun _ h => h⟩, dd⟩
  · by_cases e : b = a
    · subst e
      rw [upd_same] at hb
      cases hb
      exact hv
    · rw [upd_ne e] at hb
      exact r.sub b o hb
  · rcases get_set hw with ⟨rfl, rfl⟩ | ⟨ne, hw⟩
    · rw [ha] at hb
      cases hb
      exact ⟨by rw [hv]; exact nofun, dd⟩
    · have q := r.own j b w hb hw
      cases w with
      | no => cases b <;> trivial
      | lst es =>
        cases b with
        | none => exact q.elim
        | some b =>
          obtain ⟨fb, us, hu, hd2⟩ := q
          refine ⟨?_, us, hu, dqAll_same s1 es us hd2⟩
          have nab : b ≠ a := fun e => ne (r.inj j k a (by rw [← e]; exact hb) ha)
          rw [upd_ne nab]
          exact fb
      | dct es =>
        cases b with
        | none => exact q.elim
        | some b =>
          obtain ⟨fb, us, hu, hd2⟩ := q
          refine ⟨?_, us, hu, dct_same s1 hd2⟩
          have nab : b ≠ a := fun e => ne (r.inj j k a (by rw [← e]; exact hb) ha)
          rw [upd_ne nab]
          exact fb
      | x t0 =>
        cases b with
        | none => exact q.elim
        | some b =>
          obtain ⟨fb, us, hu, hd2⟩ := q
          refine ⟨?_, us, hu, xt_same s1 hd2⟩
          have nab : b ≠ a := fun e => ne (r.inj j k a (by rw [← e]; exact hb) ha)
          rw [upd_ne nab]
          exact fb
      | fz d =>
        cases b with
        | none => exact q.elim
        | some b => exact ⟨q.1, dq_same s1 d _ q.2⟩
  · have nab : b ≠ a := fun e => nb (by rw [e]; exact List.mem_of_getElem? ha)
    rw [upd_ne nab]
    exact fb
theorem tOf_var {i : Nat} (σ : L2.St) (H : Hp) (Q : VK) (h : tOf K (eVar i) σ H Q) : tVar i σ H Q := by
  obtain ⟨F, ow, ρ, so, d, so', r, rs, e, k⟩ := h
  unfold eVar at e
  split at e
  · rename_i x hx
    cases e
    obtain ⟨v, hv, q⟩ := rs.get hx
    exact ⟨v, hv, k F H v r (Stp.refl _ _ _) q⟩
  · rename_i j hx
    obtain ⟨v, hv, a, ha, rfl⟩ := rs.get hx
    refine ⟨_, hv, ?_⟩
    split at e
    · rename_i ds hj
      cases e
      obtain ⟨b, vs, hb, f, hv, hd⟩ := r.lst hj
      rw [ha] at hb
      cases hb
      obtain ⟨r1, s1, d1⟩ := r.freeze hj ha f hv hd
      exact k _ _ _ r1 s1 d1
    · rename_i d' hj
      cases e
      obtain ⟨b, hb, hd⟩ := r.fz hj
      rw [ha] at hb
      cases hb
      exact k _ _ _ r (Stp.refl _ _ _) hd
    · cases e
  · cases e
end
section
variable {X : Cx} {pos : Pos} {x : Str}
theorem pd_var {i : Nat} (hN : X.N[i]? = some x) (hv : Vis X.env.scope x) (hd : (x == ("__debug__" : Str)) = false := by decide) (hcd : (x == ("__classdict__" : Str)) = false := by decide) : PD X (.Name x pos) (eVar i) := (pe_var hN hv hd hcd).imp tOf_var
theorem tOf_c {K : PySem.W.Frag} {v : V} {d : PyData} (hd : ∀ H, Dq K H v d) (σ : L2.St) (H : Hp) (Q : VK) (h : tOf K (eC d) σ H Q) : tC v σ H Q := by
  obtain ⟨F, ow, ρ, so, d', so', r, rs, e, k⟩ := h
  cases e
  exact k F H v r (Stp.refl _ _ _) (hd F)
theorem pd_int {i : Int} {j} : PD X (.Constant (.int i) j pos) (eC (.int i)) := pe_int.imp (tOf_c fun _ => .int i)
theorem pd_bl {b : Bool} {j} : PD X (.Constant (.bool b) j pos) (eC (.bool b)) := pe_bl.imp (tOf_c fun _ => .bl b)
theorem pd_non {j} : PD X (.Constant .none j pos) (eC .none) := pe_non.imp (tOf_c fun _ => .non)
theorem pd_str {s : Str} {j} : PD X (.Constant (.str s) j pos) (eC (.str s)) := pe_str.imp (tOf_c fun _ => .str s)
theorem pd_globI {i : Int} {t : Tok} (hg : Gl X x) (hm : X.mg x = some (.int i t)) (hd : (x == ("__debug__" : Str)) = false := by decide) : PD X (.Name x pos) (eC (.int i)) := (pe_glob (v := .int i) hg hm ⟨t, rfl⟩ hd).imp (tOf_c fun _ => .int i)
end
/-! ### two in a row -/
section
variable {K : PySem.W.Frag}
/-- what an operation of values makes of data -/
def OpD (K : PySem.W.Frag) (r : R2) (g : PyData → PyData → Option PyData) : Prop := ∀ (F H : Hp) (x y : V) (dx dy d : PyData) (Q : VK), Same F H → Dq K F x dx → Dq K F y dy → g dx dy = some d →
  (∀ F' H' v, Stp [] F H F' H' → Same F' H' → Dq K F' v d → Q v H') → r x y H Q
def eOp (g : PyData → PyData → Option PyData) (a b : DE) : DE := fun ρ so => (a ρ so).bind fun p => (b ρ p.2).bind fun q => (g p.1 q.1).map fun d => (d, q.2)
theorem tOf_op {r : R2} {g : PyData → PyData → Option PyData} {a b : DE} (hr : OpD K r g) (σ : L2.St) (H : Hp) (Q : VK) (h : tOf K (eOp g a b) σ H Q) : tOp r (tOf K a) (tOf K b) σ H Q := by
  obtain ⟨F, ow, ρ, so, d, so', r0, rs, e, k⟩ := h
  unfold eOp at e
  obtain ⟨⟨x, so1⟩, e1, e⟩ := Option.bind_eq_some_iff.mp e
  obtain ⟨⟨y, so2⟩, e2, e⟩ := Option.bind_eq_some_iff.mp e
  obtain ⟨z, e3, e⟩ := Option.map_eq_some_iff.mp e
  cases e
  refine ⟨F, ow, ρ, so, x, so1, r0, rs, e1, fun F1 H1 v1 r1 s1 d1 => ⟨F1, ow, ρ, so1, y, so2, r1, rs.mono s1.fz, e2, fun F2 H2 v2 r2 s2 d2 => ?_⟩⟩
  exact hr F2 H2 v1 v2 x y _ Q r2.sub (dq_same s2.fz x v1 d1) d2 e3 fun F3 H3 v s3 e4 d3 => k F3 H3 v (r2.grow s3 e4) (s1.trans (s2.trans s3.some_of)) d3
def UnD (K : PySem.W.Frag) (r : V → Hp → VK → Prop) (g : PyData → Option PyData) : Prop := ∀ (F H : Hp) (x : V) (dx d : PyData) (Q : VK), Same F H → Dq K F x dx → g dx = some d →
  (∀ F' H' v, Stp [] F H F' H' → Same F' H' → Dq K F' v d → Q v H') → r x H Q
def eUn (g : PyData → Option PyData) (a : DE) : DE := fun ρ so => (a ρ so).bind fun p => (g p.1).map fun d => (d, p.2)
theorem tOf_un {r : V → Hp → VK → Prop} {g : PyData → Option PyData} {a : DE} (hr : UnD K r g) (σ : L2.St) (H : Hp) (Q : VK) (h : tOf K (eUn g a) σ H Q) : tUn r (tOf K a) σ H Q := by
  obtain ⟨F, ow, ρ, so, d, so', r0, rs, e, k⟩ := h
  unfold eUn at e
  obtain ⟨⟨x, so1⟩, e1, e⟩ := Option.bind_eq_some_iff.mp e
  obtain ⟨z, e3, e⟩ := Option.map_eq_some_iff.mp e
  cases e
  refine ⟨F, ow, ρ, so, x, so1, r0, rs, e1, fun F1 H1 v1 r1 s1 d1 => ?_⟩
  exact hr F1 H1 v1 x _ Q r1.sub d1 e3 fun F3 H3 v s3 e4 d3 => k F3 H3 v (r1.grow s3 e4) (s1.trans s3.some_of) d3
/-- a value in place: nothing new is made -/
theorem here {F H : Hp} {Q : VK} {v : V} {d : PyData} (k : ∀ F' H' v, Stp [] F H F' H' → Same F' H' → Dq K F' v d → Q v H') (s : Same F H) (h : Dq K F v d) : Q v H := k F H v (Stp.refl _ _ _) s h
/-- a new thing -/
theorem fresh {F H : Hp} {Q : VK} {p : Addr} {o : HO} {d : PyData} (k : ∀ F' H' v, Stp [] F H F' H' → Same F' H' → Dq K F' v d → Q v H') (s : Same F H) (n : H p = none) (h : Dq K (upd F p o) (.ref p) d) : Q (.ref p) (upd H p o) :=
  k _ _ _ (Stp.new n s) (same_upd s) h
theorem new_tup {F : Hp} {p : Addr} {ob : Obj} {vs : List V} {ds : List PyData} (n : F p = none) (pl : PlainT ob) (h : DqAll K F vs ds) : Dq K (upd F p (.frz ob (.tup vs))) (.ref p) (.tuple ds) := .tup ⟨ob, upd_same, pl⟩ (dqAll_same (same_new n) ds vs h)
theorem new_lst {F : Hp} {p : Addr} {vs : List V} {ds : List PyData} (n : F p = none) (h : DqAll K F vs ds) : Dq K (upd F p (.lst vs)) (.ref p) (.list ds) := .lst upd_same (dqAll_same (same_new n) ds vs h)
end
/-! ### argument lists, displays -/
def aNil : DL := fun _ so => some ([], so)
def aCons (f : DE) (g : DL) : DL := fun ρ so => (f ρ so).bind fun p => (g ρ p.2).bind fun q => some (p.1 :: q.1, q.2)
/-- the items of a list or a tuple -/
def seqOf : PyData → Option (List PyData)
  | .list ds => some ds
  | .tuple ds => some ds
  | _ => none
def aStar (f : DE) (g : DL) : DL := fun ρ so => (f ρ so).bind fun p => (seqOf p.1).bind fun xs => (g ρ p.2).bind fun q => some (xs ++ q.1, q.2)
/-- no list or tuple is longer -/
abbrev LIM : Nat := 5000
theorem lim_le {n : Nat} (h : n ≤ LIM) : n ≤ sizeLine := Nat.le_trans h (by decide)
theorem lim_lt {n : Nat} (h : n ≤ LIM) : n < sizeLine := Nat.lt_of_le_of_lt h (by decide)
def eTup (f : DL) : DE := fun ρ so => (f ρ so).bind fun p => if p.1.length ≤ LIM then some (.tuple p.1, p.2) else none
def nLst (f : DL) : DL := fun ρ so => (f ρ so).bind fun p => if p.1.length ≤ LIM then some (p.1, p.2) else none
/-- a new list, frozen at once -/
def eOfN (f : DL) : DE := fun ρ so => (f ρ so).map fun p => (.list p.1, p.2)
section
variable {K : PySem.W.Frag}
theorem tOf_nil (σ : L2.St) (H : Hp) (Q : List V → Hp → Prop) (h : tOfA K aNil σ H Q) : tNil σ H Q := by
  obtain ⟨F, ow, ρ, so, d, so', r0, rs, e, k⟩ := h
  cases e
  exact k F H [] r0 (Stp.refl _ _ _) .nil
theorem tOf_cons {f : DE} {g : DL} (σ : L2.St) (H : Hp) (Q : List V → Hp → Prop) (h : tOfA K (aCons f g) σ H Q) : tCons (tOf K f) (tOfA K g) σ H Q := by
  obtain ⟨F, ow, ρ, so, d, so', r0, rs, e, k⟩ := h
  unfold aCons at e
  obtain ⟨⟨x, so1⟩, e1, e⟩ := Option.bind_eq_some_iff.mp e
  obtain ⟨⟨xs, so2⟩, e2, e⟩ := Option.bind_eq_some_iff.mp e
  cases e
  refine ⟨F, ow, ρ, so, x, so1, r0, rs, e1, fun F1 H1 v1 r1 s1 d1 => ⟨F1, ow, ρ, so1, xs, so2, r1, rs.mono s1.fz, e2, fun F2 H2 vs r2 s2 d2 => ?_⟩⟩
  exact k F2 H2 _ r2 (s1.trans s2) (.cons (dq_same s2.fz x v1 d1) d2)
theorem DqAll.len {F : Hp} {vs : List V} {ds : List PyData} (h : DqAll K F vs ds) : vs.length = ds.length := DqAll.length h
theorem dq_seq {F : Hp} {v : V} {d : PyData} {ds : List PyData} (h : Dq K F v d) (e : seqOf d = some ds) : ∃ p xs, v = .ref p ∧ ((F p = some (.lst xs) ∧ d = .list ds) ∨ (TupAt F p xs ∧ d = .tuple ds)) ∧ DqAll K F xs ds := by
  cases d with
  | list es => cases e; cases h with | lst hs ha => exact ⟨_, _, rfl, .inl ⟨hs, rfl⟩, ha⟩
  | tuple es => cases e; cases h with | tup hs ha => exact ⟨_, _, rfl, .inr ⟨hs, rfl⟩, ha⟩
  | _ => cases e
theorem tOf_star {f : DE} {g : DL} (σ : L2.St) (H : Hp) (Q : List V → Hp → Prop) (h : tOfA K (aStar f g) σ H Q) : StX.tStar K (tOf K f) (tOfA K g) σ H Q := by
  obtain ⟨F, ow, ρ, so, d, so', r0, rs, e, k⟩ := h
  unfold aStar at e
  obtain ⟨⟨x, so1⟩, e1, e⟩ := Option.bind_eq_some_iff.mp e
  obtain ⟨zs, ez, e⟩ := Option.bind_eq_some_iff.mp e
  obtain ⟨⟨xs, so2⟩, e2, e⟩ := Option.bind_eq_some_iff.mp e
  cases e
  refine ⟨F, ow, ρ, so, x, so1, r0, rs, e1, fun F1 H1 v1 r1 s1 d1 => ?_⟩
  obtain ⟨p, ys, rfl, hs, ha⟩ := dq_seq d1 ez
  refine ⟨p, ys, rfl, ?_, F1, ow, ρ, so1, xs, so2, r1, rs.mono s1.fz, e2, fun F2 H2 vs r2 s2 d2 => ?_⟩
  · rcases hs with ⟨hs, _⟩ | ⟨hs, _⟩
    · exact .inr (SqL.of (r1.sub _ _ hs))
    · exact .inl (hs.sq r1.sub)
  · exact k F2 H2 _ r2 (s1.trans s2) (DqAll.app (dqAll_same s2.fz _ _ ha) d2)
theorem tOf_tup {f : DL} (σ : L2.St) (H : Hp) (Q : VK) (h : tOf K (eTup f) σ H Q) : tTupP (tOfA K f) σ H Q := by
  obtain ⟨F, ow, ρ, so, d, so', r0, rs, e, k⟩ := h
  unfold eTup at e
  obtain ⟨⟨x, so1⟩, e1, e⟩ := Option.bind_eq_some_iff.mp e
  split at e
  · rename_i hl
    cases e
    refine ⟨F, ow, ρ, so, x, so1, r0, rs, e1, fun F1 H1 vs r1 s1 d1 => ⟨by rw [d1.len]; exact lim_le hl, fun p ob np pl => ?_⟩⟩
    exact k _ _ _ (r1.grow (Stp.new np r1.sub) (same_upd r1.sub)) (s1.trans (Stp.new np r1.sub).some_of) (new_tup (r1.sub.free np) pl d1)
  · cases e
/-- a new list: it may stay one's own -/
theorem keepN {F H F1 H1 : Hp} {ow : Ads} {so1 : Sto} {vs : List V} {ds : List PyData} {p : Addr} {Q : VK} (k : ∀ F' H' a vs, RelO K F' H' ow so1 → Stp ow F H F' H' → H a = none → F' a = none → H' a = some (.lst vs) → DqAll K F' vs ds → Q (.ref a) H')
    (r1 : RelO K F1 H1 ow so1) (s1 : Stp ow F H F1 H1) (d1 : DqAll K F1 vs ds) (np : H1 p = none) : Q (.ref p) (upd H1 p (.lst vs)) := by
  have n0 : H p = none := by
    cases q : H p with
    | none => rfl
    | some o => exact absurd np (s1.live p (by rw [q]; exact nofun))
  have sg : Stp [] F1 H1 F1 (upd H1 p (.lst vs)) := ⟨Same.refl _, fun a o _ h => same_new np a o h, fun _ _ _ _ h => h, fun a h => live_upd h⟩
  exact k F1 _ p vs (r1.grow sg (r1.sub.trans (same_new np))) (s1.trans sg.some_of) n0 (r1.sub.free np) upd_same d1
theorem tOf_lst {f : DL} (σ : L2.St) (H : Hp) (Q : VK) (h : tOfN K (nLst f) σ H Q) : tLst (tOfA K f) σ H Q := by
  obtain ⟨F, ow, ρ, so, d, so', r0, rs, e, k⟩ := h
  unfold nLst at e
  obtain ⟨⟨x, so1⟩, e1, e⟩ := Option.bind_eq_some_iff.mp e
  split at e
  · rename_i hl
    cases e
    exact ⟨F, ow, ρ, so, x, so1, r0, rs, e1, fun F1 H1 vs r1 s1 d1 => ⟨by rw [d1.len]; exact lim_le hl, fun p np => keepN k r1 s1 d1 np⟩⟩
  · cases e
theorem tOf_ofN {f : DL} (σ : L2.St) (H : Hp) (Q : VK) (h : tOf K (eOfN f) σ H Q) : tOfN K f σ H Q := by
  obtain ⟨F, ow, ρ, so, d, so', r0, rs, e, k⟩ := h
  unfold eOfN at e
  obtain ⟨⟨x, so1⟩, e1, e⟩ := Option.map_eq_some_iff.mp e
  cases e
  refine ⟨F, ow, ρ, so, x, so1, r0, rs, e1, fun F1 H1 a vs r1 s1 n0 f1 h1 d1 => ?_⟩
  have s2 : Same F1 (upd F1 a (.lst vs)) := same_new f1
  refine k (upd F1 a (.lst vs)) H1 (.ref a) ?_ ?_ (new_lst f1 d1)
  · refine ⟨fun b o hb => ?_, r1.len, fun j b w hb hw => ?_, r1.inj, r1.old⟩
    · by_cases e : b = a
      · subst e
        rw [upd_same] at hb
        cases hb
        exact h1
      · rw [upd_ne e] at hb
        exact r1.sub b o hb
    · have q := r1.own j b w hb hw
      cases w with
      | no => cases b <;> trivial
      | lst es =>
        cases b with
        | none => exact q.elim
        | some b =>
          obtain ⟨fb, us, hu, hd2⟩ := q
          have nab : b ≠ a := fun e => (r0.old j a (by rw [← e]; exact hb)) n0
          exact ⟨by rw [upd_ne nab]; exact fb, us, hu, dqAll_same s2 es us hd2⟩
      | dct es =>
        cases b with
        | none => exact q.elim
        | some b =>
          obtain ⟨fb, us, hu, hd2⟩ := q
          have nab : b ≠ a := fun e => (r0.old j a (by rw [← e]; exact hb)) n0
          exact ⟨by rw [upd_ne nab]; exact fb, us, hu, dct_same s2 hd2⟩
      | x t0 =>
        cases b with
        | none => exact q.elim
        | some b =>
          obtain ⟨fb, us, hu, hd2⟩ := q
          have nab : b ≠ a := fun e => (r0.old j a (by rw [← e]; exact hb)) n0
          exact ⟨by rw [upd_ne nab]; exact fb, us, hu, xt_same s2 hd2⟩
      | fz d =>
        cases b with
        | none => exact q.elim
        | some b => exact ⟨q.1, dq_same s2 d _ q.2⟩
  · refine ⟨s1.fz.trans s2, s1.keep, fun b o nb hb fb => ?_, s1.live⟩
    have nab : b ≠ a := ne_of_none hb n0
    rw [upd_ne nab]
    exact s1.own b o nb hb fb
end
section
variable {X : Cx} {e : Expr} {es : List Expr} {f : DE} {g : DL} {pos : Pos}
theorem pda_nil : PDA X [] aNil := pa_nil.imp tOf_nil
theorem pda_cons (ha : PD X e f) (hr : PDA X es g) (hs : starEach (e :: es) X.env = (false, eval e X.env) :: starEach es X.env := by rfl) : PDA X (e :: es) (aCons f g) := (pa_cons ha hr hs).imp tOf_cons
theorem pda_star {p : Pos} (ha : PD X e f) (hr : PDA X es g) (hs : starEach (.Starred e p :: es) X.env = (true, eval e X.env) :: starEach es X.env := by rfl) : PDA X (.Starred e p :: es) (aStar f g) := (StX.pa_star ha hr hs).imp tOf_star
theorem pd_tup {x1} (h : PDA X es g) : PD X (.Tuple es x1 pos) (eTup g) := (pe_tupP h).imp tOf_tup
theorem pdn_lst (h : PDA X es g) : PDN X (.List es pos) (nLst g) := (pe_lst h).imp tOf_lst
theorem pd_ofN (h : PDN X e g) : PD X e (eOfN g) := PE.imp h tOf_ofN
theorem pd_op {a b : Expr} {fa fb : DE} {op : Operator} {r : R2} {gg : PyData → PyData → Option PyData} (ho : OpR X (binaryOp op) r) (hd : OpD X.K r gg) (ha : PD X a fa) (hb : PD X b fb) : PD X (.BinOp a op b pos) (eOp gg fa fb) := (pe_op ho ha hb).imp (tOf_op hd)
theorem pd_cmp {a b : Expr} {fa fb : DE} {op : CmpOp} {r : R2} {gg : PyData → PyData → Option PyData} (ho : OpR X (compareOp op) r) (hd : OpD X.K r gg) (ha : PD X a fa) (hb : PD X b fb) (hm : behindInMarks op b = false) : PD X (.Compare a [op] [b] pos) (eOp gg fa fb) := (pe_cmpR ho ha hb hm).imp (tOf_op hd)
theorem pd_un {a : Expr} {fa : DE} {op : UnaryOp} {r : V → Hp → VK → Prop} {gg : PyData → Option PyData} (ho : UnR X (unaryOp op) r) (hd : UnD X.K r gg) (ha : PD X a fa) : PD X (.UnaryOp op a pos) (eUn gg fa) := (pe_un ho ha).imp (tOf_un hd)
end
end MP
namespace MP
open PySem PySem.Spec PyProof.Rows L2 RL
theorem if_some {c : Prop} [Decidable c] {α : Type} {x d : α} (e : (if c then some x else none) = some d) : c ∧ x = d := by
  by_cases h : c
  · rw [if_pos h] at e
    exact ⟨h, Option.some.inj e⟩
  · rw [if_neg h] at e
    cases e
/-! ### values that are no things of the heap -/
def scV : PyData → Option V
  | .none => some .non
  | .bool b => some (.bl b)
  | .int i => some (.int i)
  | .str x => some (.str x)
  | _ => none
section
variable {K : PySem.W.Frag} {F : Hp}
theorem dq_int {v : V} {i : Int} (h : Dq K F v (.int i)) : v = .int i := by cases h; rfl
theorem dq_bl {v : V} {b : Bool} (h : Dq K F v (.bool b)) : v = .bl b := by cases h; rfl
theorem dq_str {v : V} {x : Str} (h : Dq K F v (.str x)) : v = .str x := by cases h; rfl
theorem dq_lst {v : V} {ds : List PyData} (h : Dq K F v (.list ds)) : ∃ a xs, v = .ref a ∧ F a = some (.lst xs) ∧ DqAll K F xs ds := by cases h with | lst h1 h2 => exact ⟨_, _, rfl, h1, h2⟩
theorem dq_tup {v : V} {ds : List PyData} (h : Dq K F v (.tuple ds)) : ∃ a xs, v = .ref a ∧ TupAt F a xs ∧ DqAll K F xs ds := by cases h with | tup h1 h2 => exact ⟨_, _, rfl, h1, h2⟩
theorem dqInts : ∀ {ns : List Int} {vs : List V}, DqAll K F vs (ns.map .int) → vs = ns.map V.int
  | [], _, h => by cases h; rfl
  | n :: ns, _, h => by
    cases h with
    | cons h1 h2 =>
      cases h1
      rw [dqInts h2]
      rfl
end
/-- all of them ints -/
def intsOf : List PyData → Option (List Int)
  | [] => some []
  | .int i :: r => (intsOf r).map (i :: ·)
  | _ :: _ => none
theorem intsOf_map : ∀ ns : List Int, intsOf (ns.map .int) = some ns
  | [] => rfl
  | n :: r => by show (intsOf (r.map .int)).map (n :: ·) = _; rw [intsOf_map r]; rfl
theorem intsOf_eq : ∀ {ds : List PyData} {ns : List Int}, intsOf ds = some ns → ds = ns.map .int
  | [], _, h => by cases h; rfl
  | .int i :: r, _, h => by
    obtain ⟨ms, h1, h2⟩ := Option.map_eq_some_iff.mp (show (intsOf r).map (i :: ·) = _ from h)
    subst h2
    rw [intsOf_eq h1]
    rfl
  | .none :: _, _, h => by cases h
  | .bool _ :: _, _, h => by cases h
  | .str _ :: _, _, h => by cases h
  | .list _ :: _, _, h => by cases h
  | .tuple _ :: _, _, h => by cases h
  | .dict _ :: _, _, h => by cases h
/-! ### numbers -/
def dI (f : Int → Int → PyData) : PyData → PyData → Option PyData
  | .int a, .int b => some (f a b)
  | _, _ => none
def dIc (C : Int → Int → Bool) (f : Int → Int → PyData) : PyData → PyData → Option PyData
  | .int a, .int b => if C a b then some (f a b) else none
  | _, _ => none
section
variable {K : PySem.W.Frag}
theorem opd_I0 {g : Int → Int → V} {f : Int → Int → PyData} (hf : ∀ a b F, Dq K F (g a b) (f a b)) : OpD K (rI0 g) (dI f) := by
  intro F H x y dx dy d Q s hx hy e k
  cases dx with
  | int a =>
    cases dy with
    | int b =>
      cases hx
      cases hy
      cases e
      exact ⟨a, b, rfl, rfl, here k s (hf a b F)⟩
    | _ => cases e
  | _ => cases e
theorem opd_I {C : Int → Int → Prop} {g : Int → Int → V} {c : Int → Int → Bool} {f : Int → Int → PyData} (hc : ∀ a b, c a b = true → C a b) (hf : ∀ a b F, Dq K F (g a b) (f a b)) : OpD K (rI C g) (dIc c f) := by
  intro F H x y dx dy d Q s hx hy e k
  cases dx with
  | int a =>
    cases dy with
    | int b =>
      cases hx
      cases hy
      obtain ⟨hc', rfl⟩ := if_some (show (if c a b then some (f a b) else none) = some d from e)
      exact ⟨a, b, rfl, rfl, hc a b hc', here k s (hf a b F)⟩
    | _ => cases e
  | _ => cases e
end
def dSub := dI fun a b => .int (a - b)
def dMod := dIc (fun _ b => decide (0 < b)) fun a b => .int (a % b)
def dDiv := dIc (fun _ b => decide (0 < b) && decide (b < 1073741824)) fun a b => .int (a / b)
def dPow := dIc (fun a b => decide (0 ≤ b) && decide (b ≤ 1000000) && decide (a.natAbs < 2 ^ 64)) fun a b => .int (a ^ b.toNat)
def dShl := dIc (fun a b => decide (0 ≤ b) && decide (b ≤ 1000000) && decide (a.natAbs < 2 ^ 64)) fun a b => .int (a * 2 ^ b.toNat)
def dBor := dI fun a b => .int (Builtin.bitOr a b)
def dLt := dI fun a b => .bool (decide (a < b))
def dLe := dI fun a b => .bool (decide (a ≤ b))
def dGt := dI fun a b => .bool (decide (b < a))
def dGe := dI fun a b => .bool (decide (b ≤ a))
section
variable {X : Cx}
theorem od_sub : OpD X.K (rI0 fun i j => .int (i - j)) dSub := opd_I0 fun _ _ _ => .int _
theorem od_mod : OpD X.K (rI (fun _ j => 0 < j) fun i j => .int (i % j)) dMod := opd_I (fun _ _ h => of_decide_eq_true h) fun _ _ _ => .int _
theorem od_div : OpD X.K (rI CDiv fun i j => .int (i / j)) dDiv := opd_I (fun _ _ h => by simpa [CDiv] using h) fun _ _ _ => .int _
theorem od_pow : OpD X.K (rI CPow fun i j => .int (i ^ j.toNat)) dPow := opd_I (fun _ _ h => by simp only [Bool.and_eq_true, decide_eq_true_eq] at h; exact ⟨h.1.1, h.1.2, h.2⟩) fun _ _ _ => .int _
theorem od_shl : OpD X.K (rI CPow fun i j => .int (i * 2 ^ j.toNat)) dShl := opd_I (fun _ _ h => by simp only [Bool.and_eq_true, decide_eq_true_eq] at h; exact ⟨h.1.1, h.1.2, h.2⟩) fun _ _ _ => .int _
theorem od_bor : OpD X.K (rI0 fun i j => .int (Builtin.bitOr i j)) dBor := opd_I0 fun _ _ _ => .int _
theorem od_lt : OpD X.K (rI0 fun i j => .bl (decide (i < j))) dLt := opd_I0 fun _ _ _ => .bl _
theorem od_le : OpD X.K (rI0 fun i j => .bl (decide (i ≤ j))) dLe := opd_I0 fun _ _ _ => .bl _
theorem od_gt : OpD X.K (rI0 fun i j => .bl (decide (j < i))) dGt := opd_I0 fun _ _ _ => .bl _
theorem od_ge : OpD X.K (rI0 fun i j => .bl (decide (j ≤ i))) dGe := opd_I0 fun _ _ _ => .bl _
end
/-! ### plus: numbers, tuples, lists, texts -/
def dAdd : PyData → PyData → Option PyData
  | .int a, .int b => some (.int (a + b))
  | .tuple xs, .tuple ys => if xs.length + ys.length ≤ LIM then some (.tuple (xs ++ ys)) else none
  | .list xs, .list ys => if xs.length + ys.length ≤ LIM then some (.list (xs ++ ys)) else none
  | .str x, .str y => if x.length + y.length ≤ 1000000 then some (.str (x ++ y)) else none
  | _, _ => none
def rAddU (K : PySem.W.Frag) : R2 := fun x y H Q => rI0 (fun i j => .int (i + j)) x y H Q ∨ rCatP K x y H Q ∨ rCat x y H Q ∨ (∃ i j, x = .str i ∧ y = .str j ∧ i.length + j.length ≤ sizeLine ∧ Q (.str (i ++ j)) H)
theorem op_addU {X : Cx} : OpR X (binaryOp .Add) (rAddU X.K) := by
  intro pins s σ H x y v u Q I rx ry h
  rcases h with h | h | h | h
  · exact op_add pins s σ H x y v u Q I rx ry h
  · exact op_catP pins s σ H x y v u Q I rx ry h
  · exact op_cat pins s σ H x y v u Q I rx ry h
  · exact op_add_str pins s σ H x y v u Q I rx ry h
theorem od_add {X : Cx} : OpD X.K (rAddU X.K) dAdd := by
  intro F H x y dx dy d Q s hx hy e k
  unfold dAdd at e
  split at e
  · cases hx
    cases hy
    cases e
    exact .inl ⟨_, _, rfl, rfl, here k s (.int _)⟩
  · split at e
    · rename_i xs ys hl
      cases e
      obtain ⟨a, us, rfl, ha, hus⟩ := dq_tup hx
      obtain ⟨b, ws, rfl, hb, hws⟩ := dq_tup hy
      have l1 := hus.len
      have l2 := hws.len
      refine .inr (.inl ⟨a, b, us, ws, rfl, rfl, ha.sq s, hb.sq s, by rw [l1, l2]; exact lim_le hl, fun e => ?_, fun _ e => ?_, fun _ _ p ob np pl => ?_⟩)
      · subst e
        cases hus
        exact here k s (.tup hb hws)
      · subst e
        cases hws
        rw [List.append_nil] at k
        exact here k s (.tup ha hus)
      · exact fresh k s np (new_tup (s.free np) pl (hus.app hws))
    · cases e
  · split at e
    · rename_i xs ys hl
      cases e
      obtain ⟨a, us, rfl, ha, hus⟩ := dq_lst hx
      obtain ⟨b, ws, rfl, hb, hws⟩ := dq_lst hy
      have l1 := hus.len
      have l2 := hws.len
      exact .inr (.inr (.inl ⟨a, b, us, ws, rfl, rfl, s _ _ ha, s _ _ hb, by rw [l1, l2]; exact lim_le hl, fun p np => fresh k s np (new_lst (s.free np) (hus.app hws))⟩))
    · cases e
  · split at e
    · rename_i hl
      cases hx
      cases hy
      cases e
      exact .inr (.inr (.inr ⟨_, _, rfl, rfl, Nat.le_trans hl (by decide), here k s (.str _)⟩))
    · cases e
  · cases e
/-! ### times: numbers, a tuple of one, a list -/
def dMul : PyData → PyData → Option PyData
  | .int a, .int b => if a.natAbs < 2 ^ 64 ∨ b.natAbs < 2 ^ 64 then some (.int (a * b)) else none
  | .tuple [z], .int k => if 1 ≤ k ∧ k ≤ 1000 then some (.tuple (List.replicate k.toNat z)) else none
  | .list xs, .int k => if 0 ≤ k ∧ k ≤ 1000 ∧ xs.length * k.toNat ≤ LIM then some (.list (List.replicate k.toNat xs).flatten) else none
  | _, _ => none
/-- (z,) * k: at 1 it is the tuple itself -/
def rRepE (K : PySem.W.Frag) : R2 := fun x y H Q => ∃ (l : Addr) (z : V) (k : Nat), x = .ref l ∧ y = vN k ∧ SqT K H l [z] ∧ 1 ≤ k ∧ k ≤ 1000 ∧ (k = 1 → Q (.ref l) H) ∧ NewT H (List.replicate k z) Q
theorem op_repE {X : Cx} : OpR X (binaryOp .Mult) (rRepE X.K) := by
  intro pins s σ H x y v u Q I rx ry h
  obtain ⟨l, z, k, rfl, rfl, hT, h1, h2, q1, q⟩ := h
  by_cases e : k = 1
  · subst e
    cases rx
    obtain ⟨t, rfl⟩ := ry
    obtain ⟨its, r, ⟨⟨cls, dd, data, sl⟩, ho, hc, n, hd⟩, hs⟩ := I.tuple hT
    simp only at hc hd
    subst hc hd
    refine wpAny_binaryOp_repeat_ref (T := "tuple") (U := "int") (by decide) ⟨_, ho, rfl⟩ (fun s' => typeIs_int s' _ t) noFill_tuple_mul F.fills_int_mul F.slot_int_rmul repeat_tuple F.slot_int_index.lookup
      (call_meets F.slot_int_rmul (typeIs_int s _ t) F.entry_int_rmul (F.args_int_rmul_2 _ _) (int_rmul_tuple _ t l its.toArray n dd sl)
        ⟨ho, rfl, ⟨_, ho, rfl⟩, call_meets F.slot_tuple_mul ⟨_, ho, rfl⟩ F.entry_tuple_mul (F.args_tuple_mul_2 _ _) (tuple_mul1 l its.toArray n dd sl t) ⟨ho, ?_⟩⟩)
    exact ⟨.ref l, H, I, rfl, q1 rfl⟩
  · refine op_repP pins s σ H _ _ v u Q I rx ry ⟨l, (k : Int), [z], rfl, rfl, hT, by simp, by omega, by omega, by simp, fun p ob np pl => ?_⟩
    have : ∀ m : Nat, (List.replicate m [z]).flatten = List.replicate m z := by
      intro m
      induction m with
      | zero => rfl
      | succ m ih => rw [List.replicate_succ, List.flatten_cons, ih]; rfl
    rw [this]
    have e2 : ((k : Nat) : Int).toNat = k := by omega
    rw [e2]
    exact q p ob np pl
def rMulU (K : PySem.W.Frag) : R2 := fun x y H Q => rI CMul (fun i j => .int (i * j)) x y H Q ∨ rRepE K x y H Q ∨ rRep x y H Q
theorem op_mulU {X : Cx} : OpR X (binaryOp .Mult) (rMulU X.K) := by
  intro pins s σ H x y v u Q I rx ry h
  rcases h with h | h | h
  · exact op_mul pins s σ H x y v u Q I rx ry h
  · exact op_repE pins s σ H x y v u Q I rx ry h
  · exact op_rep pins s σ H x y v u Q I rx ry h
theorem dqRep {K : PySem.W.Frag} {F : Hp} {z : V} {d : PyData} (h : Dq K F z d) : ∀ k, DqAll K F (List.replicate k z) (List.replicate k d)
  | 0 => .nil
  | k + 1 => .cons h (dqRep h k)
theorem dqFlat {K : PySem.W.Frag} {F : Hp} {zs : List V} {ds : List PyData} (h : DqAll K F zs ds) : ∀ k, DqAll K F (List.replicate k zs).flatten (List.replicate k ds).flatten
  | 0 => .nil
  | k + 1 => by rw [List.replicate_succ, List.replicate_succ, List.flatten_cons, List.flatten_cons]; exact h.app (dqFlat h k)
theorem od_mul {X : Cx} : OpD X.K (rMulU X.K) dMul := by
  intro F H x y dx dy d Q s hx hy e k
  unfold dMul at e
  split at e
  · obtain ⟨hc, rfl⟩ := if_some e
    cases hx
    cases hy
    refine .inl ⟨_, _, rfl, rfl, ?_, here k s (.int _)⟩
    rcases hc with h | h
    · exact .inl (by omega)
    · exact .inr (by omega)
  · rename_i z n
    obtain ⟨hc, rfl⟩ := if_some e
    obtain ⟨a, us, rfl, ha, hus⟩ := dq_tup hx
    cases hy
    cases hus with
    | cons h1 h2 =>
      cases h2
      rename_i v
      have en : V.int n = vN n.toNat := by show V.int n = V.int ((n.toNat : Nat) : Int); rw [Int.toNat_of_nonneg (by omega)]
      refine .inr (.inl ⟨a, v, n.toNat, rfl, en, ha.sq s, by omega, by omega, fun e1 => ?_, fun p ob np pl => ?_⟩)
      · rw [e1] at k
        exact here k s (.tup ha (.cons h1 .nil))
      · exact fresh k s np (new_tup (s.free np) pl (dqRep h1 _))
  · rename_i xs n
    obtain ⟨hc, rfl⟩ := if_some e
    obtain ⟨a, us, rfl, ha, hus⟩ := dq_lst hx
    cases hy
    have l1 := hus.len
    exact .inr (.inr ⟨a, n, us, rfl, rfl, s _ _ ha, by omega, by omega, by rw [l1]; exact lim_le hc.2.2, fun p np => fresh k s np (new_lst (s.free np) (dqFlat hus _))⟩)
  · cases e
/-! ### is, is not: none, a bool -/
def same1 : PyData → PyData → Bool
  | .none, .none => true
  | .bool a, .bool b => a == b
  | _, _ => false
def isPlainB : PyData → Bool
  | .none => true
  | .bool _ => true
  | _ => false
def dIs (a b : PyData) : Option PyData := if isPlainB b then some (.bool (same1 a b)) else none
def dIsNot (a b : PyData) : Option PyData := if isPlainB b then some (.bool (!same1 a b)) else none
def rIsU (K : PySem.W.Frag) (neg : Bool) : R2 := fun x y H Q => ∃ dx dy, Dq K H x dx ∧ Dq K H y dy ∧ isPlainB dy = true ∧ Q (.bl (if neg then !same1 dx dy else same1 dx dy)) H
theorem is_bool_gen {M : Model} {A : Around} {E : Value → Shared → Prop} {s : Shared} {Q : Value → Shared → Prop} {v : Value} {b : Bool} (hv : ∀ i, v ≠ .builtin i) (h : Q (.bool (v == .bool b)) s) : wpAny M A (compareOp .Is v (.bool b)) Q E s := by
  cases v <;> first | exact wpAny_pure h | exact absurd rfl (hv _)
theorem isnot_bool_gen {M : Model} {A : Around} {E : Value → Shared → Prop} {s : Shared} {Q : Value → Shared → Prop} {v : Value} {b : Bool} (hv : ∀ i, v ≠ .builtin i) (h : Q (.bool (!(v == .bool b))) s) : wpAny M A (compareOp .IsNot v (.bool b)) Q E s := by
  cases v <;> first | exact wpAny_pure h | exact absurd rfl (hv _)
theorem no_blt {K : PySem.W.Frag} {H : Hp} {x : V} {v : Value} {d : PyData} (rx : RelV x v) (hx : Dq K H x d) : ∀ i, v ≠ .builtin i := by
  intro i z
  subst z
  cases hx <;> first
    | (obtain ⟨t, e⟩ := rx; cases e; done)
    | (cases rx; done)
theorem same1_eq {K : PySem.W.Frag} {H : Hp} {x y : V} {v u : Value} {dx dy : PyData} (rx : RelV x v) (ry : RelV y u) (hx : Dq K H x dx) (hy : Dq K H y dy) (hp : isPlainB dy = true) : (v == u) = same1 dx dy := by
  cases hy <;> try (cases hp)
  · cases ry
    cases hx <;> first
      | (cases rx; rfl)
      | (obtain ⟨t, rfl⟩ := rx; rfl)
  · cases ry
    cases hx <;> first
      | (cases rx; rename_i a b; cases a <;> cases b <;> decide)
      | (cases rx; rfl)
      | (obtain ⟨t, rfl⟩ := rx; rfl)
theorem op_isU {X : Cx} : OpR X (compareOp .Is) (rIsU X.K false) := by
  intro pins s σ H x y v u Q I rx ry h
  obtain ⟨dx, dy, hx, hy, hp, q⟩ := h
  have e := same1_eq rx ry hx hy hp
  have fin : EP X pins σ Q (.bool (v == u)) s := ⟨.bl _, H, I, by rw [e]; rfl, q⟩
  cases hy <;> try (cases hp)
  · cases ry
    exact is_none_gen fin
  · cases ry
    exact is_bool_gen (no_blt rx hx) fin
theorem op_isNotU {X : Cx} : OpR X (compareOp .IsNot) (rIsU X.K true) := by
  intro pins s σ H x y v u Q I rx ry h
  obtain ⟨dx, dy, hx, hy, hp, q⟩ := h
  have e := same1_eq rx ry hx hy hp
  have fin : EP X pins σ Q (.bool (!(v == u))) s := ⟨.bl _, H, I, by rw [e]; rfl, q⟩
  cases hy <;> try (cases hp)
  · cases ry
    exact isnot_none_gen fin
  · cases ry
    exact isnot_bool_gen (no_blt rx hx) fin
theorem od_is {X : Cx} : OpD X.K (rIsU X.K false) dIs := by
  intro F H x y dx dy d Q s hx hy e k
  obtain ⟨hc, rfl⟩ := if_some e
  exact ⟨dx, dy, dq_same s _ _ hx, dq_same s _ _ hy, hc, here k s (.bl _)⟩
theorem od_isNot {X : Cx} : OpD X.K (rIsU X.K true) dIsNot := by
  intro F H x y dx dy d Q s hx hy e k
  obtain ⟨hc, rfl⟩ := if_some e
  exact ⟨dx, dy, dq_same s _ _ hx, dq_same s _ _ hy, hc, here k s (.bl _)⟩
/-! ### equal, unequal; in, not in -/
def dEq (a b : PyData) : Option PyData := if a.plain && b.plain && decide (min a.depth b.depth ≤ 60) then some (.bool (PyData.eqv a b)) else none
def dNe (a b : PyData) : Option PyData := if a.plain && b.plain && decide (min a.depth b.depth ≤ 60) then some (.bool (!PyData.eqv a b)) else none
def rEqU (K : PySem.W.Frag) (neg : Bool) : R2 := fun x y H Q => ∃ dx dy, Dp K H x dx ∧ Dp K H y dy ∧ dx.plain = true ∧ dy.plain = true ∧ min dx.depth dy.depth ≤ 60 ∧ Q (.bl (if neg then !PyData.eqv dx dy else PyData.eqv dx dy)) H
theorem op_eqU {X : Cx} (hu : X.A.units + 64 < cLine) : OpR X (compareOp .Eq) (rEqU X.K false) := by
  intro pins s σ H x y v u Q I rx ry h
  obtain ⟨dx, dy, hx, hy, px, py, hd, q⟩ := h
  obtain ⟨as, r1⟩ := Dp.reads I dx x v hx rx
  obtain ⟨bs, r2⟩ := Dp.reads I dy y u hy ry
  exact PySem.SeqAt.eq_plain r1 r2 px py (by omega) ⟨.bl _, H, I, rfl, q⟩
theorem op_neU {X : Cx} (hu : X.A.units + 64 < cLine) : OpR X (compareOp .NotEq) (rEqU X.K true) := by
  intro pins s σ H x y v u Q I rx ry h
  obtain ⟨dx, dy, hx, hy, px, py, hd, q⟩ := h
  obtain ⟨as, r1⟩ := Dp.reads I dx x v hx rx
  obtain ⟨bs, r2⟩ := Dp.reads I dy y u hy ry
  exact PySem.SeqAt.ne_plain r1 r2 px py (by omega) ⟨.bl _, H, I, rfl, q⟩
theorem od_eq {X : Cx} : OpD X.K (rEqU X.K false) dEq := by
  intro F H x y dx dy d Q s hx hy e k
  obtain ⟨hc, rfl⟩ := if_some e
  simp only [Bool.and_eq_true, decide_eq_true_eq] at hc
  exact ⟨dx, dy, dq_dp _ _ (nod_plain _ hc.1.1) (dq_same s _ _ hx), dq_dp _ _ (nod_plain _ hc.1.2) (dq_same s _ _ hy), hc.1.1, hc.1.2, hc.2, here k s (.bl _)⟩
theorem od_ne {X : Cx} : OpD X.K (rEqU X.K true) dNe := by
  intro F H x y dx dy d Q s hx hy e k
  obtain ⟨hc, rfl⟩ := if_some e
  simp only [Bool.and_eq_true, decide_eq_true_eq] at hc
  exact ⟨dx, dy, dq_dp _ _ (nod_plain _ hc.1.1) (dq_same s _ _ hx), dq_dp _ _ (nod_plain _ hc.1.2) (dq_same s _ _ hy), hc.1.1, hc.1.2, hc.2, here k s (.bl _)⟩
/-! ### order of anything alike (tuples) -/
/-! ### items, parts -/
theorem DqAll.get2 {K : PySem.W.Frag} {F : Hp} : ∀ {vs : List V} {ds : List PyData} {i : Nat} {d : PyData}, DqAll K F vs ds → ds[i]? = some d → ∃ v, vs[i]? = some v ∧ Dq K F v d
  | _, _, _, _, .nil, h => by simp at h
  | _, _, 0, _, .cons h1 _, h => by
    have e := Option.some.inj (show some _ = some _ from h)
    subst e
    exact ⟨_, rfl, h1⟩
  | _, _, i + 1, _, .cons _ h2, h => DqAll.get2 (i := i) h2 (by simpa using h)
def dIx : PyData → PyData → Option PyData
  | .list xs, .int i => atI xs i
  | .tuple xs, .int i => atI xs i
  | _, _ => none
theorem atI_dq {K : PySem.W.Frag} {F : Hp} {vs : List V} {ds : List PyData} {i : Int} {d : PyData} (h : DqAll K F vs ds) (e : atI ds i = some d) : ∃ v, atI vs i = some v ∧ Dq K F v d := by
  unfold atI at e ⊢
  rw [h.len]
  obtain ⟨j, e1, e2⟩ := Option.bind_eq_some_iff.mp e
  obtain ⟨v, g, q⟩ := h.get2 e2
  exact ⟨v, by rw [e1]; exact g, q⟩
def rIxU (K : PySem.W.Frag) : R2 := fun x y H Q => rIxL K x y H Q ∨ rIxT K x y H Q
theorem ix_U {X : Cx} : IxR X (rIxU X.K) := ix_list.or ix_tup
theorem od_ix {X : Cx} : OpD X.K (rIxU X.K) dIx := by
  intro F H x y dx dy d Q s hx hy e k
  unfold dIx at e
  split at e
  · obtain ⟨a, us, rfl, ha, hus⟩ := dq_lst hx
    cases hy
    obtain ⟨v, g, q⟩ := atI_dq hus e
    exact .inl ⟨a, us, _, v, rfl, rfl, SqL.of (s _ _ ha), g, here k s q⟩
  · obtain ⟨a, us, rfl, ha, hus⟩ := dq_tup hx
    cases hy
    obtain ⟨v, g, q⟩ := atI_dq hus e
    exact .inr ⟨a, us, _, v, rfl, rfl, ha.sq s, g, here k s q⟩
  · cases e
theorem pd_ix {X : Cx} {a b : Expr} {fa fb : DE} {pos : Pos} (ha : PD X a fa) (hb : PD X b fb) (hs : PlainIx b) : PD X (.Subscript a b pos) (eOp dIx fa fb) := (pe_ix ix_U ha hb hs).imp (tOf_op od_ix)
end MP
namespace MP
open PySem PySem.Spec PyProof.Rows L2 RL
/-! ### targets -/
mutual
inductive Tg where
  | nm (i : Nat)
  | tp (n : Nat) (ts : Tgs)
inductive Tgs where
  | nil
  | cons (t : Tg) (ts : Tgs)
end
mutual
def gOf (K : PySem.W.Frag) : Tg → TG
  | .nm i => gName i
  | .tp n ts => gTup K n (gsOf K ts)
def gsOf (K : PySem.W.Frag) : Tgs → TGs
  | .nil => gNil
  | .cons t ts => gCons (gOf K t) (gsOf K ts)
end
mutual
def putT : Tg → PyData → Slots → Option Slots
  | .nm i, d, ρ => some (ρ.set i (some (.d d)))
  | .tp n ts, .tuple ds, ρ => if ds.length = n then putTs ts ds ρ else none
  | .tp _ _, _, _ => none
def putTs : Tgs → List PyData → Slots → Option Slots
  | .nil, [], ρ => some ρ
  | .cons t ts, d :: ds, ρ => (putT t d ρ).bind fun ρ1 => putTs ts ds ρ1
  | _, _, _ => none
end
mutual
def idT : Tg → List Nat
  | .nm i => [i]
  | .tp _ ts => idTs ts
def idTs : Tgs → List Nat
  | .nil => []
  | .cons t ts => idT t ++ idTs ts
end
theorem wipe_get {σ : L2.St} {vs : List Nat} {j : Nat} : (L2.wipe σ vs)[j]? = if j ∈ vs ∧ j < σ.length then some none else σ[j]? := by
  induction vs with
  | nil => show σ[j]? = _; rw [if_neg (by simp)]
  | cons v vs ih =>
    show ((L2.wipe σ vs).set v none)[j]? = _
    have hl := wipe_length σ vs
    by_cases e : v = j
    · subst e
      rw [List.getElem?_set, if_pos rfl, hl]
      by_cases h : v < σ.length
      · rw [if_pos h, if_pos ⟨by simp, h⟩]
      · rw [if_neg h, if_neg (by simp [h]), List.getElem?_eq_none (by omega)]
    · rw [List.getElem?_set_ne e, ih]
      by_cases h : j ∈ vs ∧ j < σ.length
      · rw [if_pos h, if_pos ⟨List.mem_cons_of_mem _ h.1, h.2⟩]
      · rw [if_neg h, if_neg]
        rintro ⟨h1, h2⟩
        rcases List.mem_cons.mp h1 with z | z
        · exact e z.symm
        · exact h ⟨z, h2⟩
theorem wipe_set {σ : L2.St} {vs : List Nat} {i : Nat} {x : Option V} (h : i ∈ vs) : L2.wipe (σ.set i x) vs = L2.wipe σ vs := by
  refine List.ext_getElem? fun j => ?_
  rw [wipe_get, wipe_get, List.length_set]
  by_cases hj : j ∈ vs ∧ j < σ.length
  · rw [if_pos hj, if_pos hj]
  · rw [if_neg hj, if_neg hj]
    by_cases e : i = j
    · subst e
      have : ¬ i < σ.length := fun z => hj ⟨h, z⟩
      rw [List.getElem?_eq_none (by rw [List.length_set]; omega), List.getElem?_eq_none (by omega)]
    · rw [List.getElem?_set_ne e]
section
variable {K : PySem.W.Frag} {F H : Hp} {ow : Ads}
mutual
theorem put_ok (s : Same F H) : ∀ (t : Tg) (d : PyData) (ρ ρ' : Slots) (v : V) (σ : L2.St) (Q : L2.St → Hp → Prop), Dq K F v d → RelS K F ow σ ρ → putT t d ρ = some ρ' →
    (∀ σ', RelS K F ow σ' ρ' → (∀ vs, (∀ i ∈ idT t, i ∈ vs) → L2.wipe σ' vs = L2.wipe σ vs) → Q σ' H) → gOf K t v σ H Q
  | .nm i, d, ρ, ρ', v, σ, Q, hv, rs, e, k => by
    have e := Option.some.inj (show some (ρ.set i (some (.d d))) = some ρ' from e)
    subst e
    refine k _ (rs.set ⟨v, rfl, hv⟩) fun vs hvs => wipe_set (hvs i (by simp [idT]))
  | .tp n ts, .tuple ds, ρ, ρ', v, σ, Q, hv, rs, e, k => by
    obtain ⟨hn, e⟩ : ds.length = n ∧ putTs ts ds ρ = some ρ' := by
      have e : (if ds.length = n then putTs ts ds ρ else none) = some ρ' := e
      by_cases h : ds.length = n
      · rw [if_pos h] at e
        exact ⟨h, e⟩
      · rw [if_neg h] at e
        cases e
    obtain ⟨a, xs, rfl, ha, hxs⟩ := dq_tup hv
    exact ⟨a, xs, rfl, ha.sq s, by rw [hxs.len]; exact hn, puts_ok s ts ds ρ ρ' xs σ Q hxs rs e k⟩
  | .tp _ _, .none, _, _, _, _, _, _, _, e, _ => by cases e
  | .tp _ _, .bool _, _, _, _, _, _, _, _, e, _ => by cases e
  | .tp _ _, .int _, _, _, _, _, _, _, _, e, _ => by cases e
  | .tp _ _, .str _, _, _, _, _, _, _, _, e, _ => by cases e
  | .tp _ _, .list _, _, _, _, _, _, _, _, e, _ => by cases e
  | .tp _ _, .dict _, _, _, _, _, _, _, _, e, _ => by cases e
theorem puts_ok (s : Same F H) : ∀ (ts : Tgs) (ds : List PyData) (ρ ρ' : Slots) (vs : List V) (σ : L2.St) (Q : L2.St → Hp → Prop), DqAll K F vs ds → RelS K F ow σ ρ → putTs ts ds ρ = some ρ' →
    (∀ σ', RelS K F ow σ' ρ' → (∀ ws, (∀ i ∈ idTs ts, i ∈ ws) → L2.wipe σ' ws = L2.wipe σ ws) → Q σ' H) → gsOf K ts vs σ H Q
  | .nil, [], ρ, ρ', _, σ, Q, hv, rs, e, k => by
    have e := Option.some.inj (show some ρ = some ρ' from e)
    subst e
    cases hv
    exact ⟨rfl, k σ rs fun _ _ => rfl⟩
  | .cons t ts, d :: ds, ρ, ρ', _, σ, Q, hv, rs, e, k => by
    obtain ⟨ρ1, e1, e2⟩ := Option.bind_eq_some_iff.mp (show (putT t d ρ).bind (fun ρ1 => putTs ts ds ρ1) = some ρ' from e)
    cases hv with
    | cons h1 h2 =>
      refine ⟨_, _, rfl, put_ok s t d ρ ρ1 _ σ _ h1 rs e1 fun σ1 rs1 w1 => puts_ok s ts ds ρ1 ρ' _ σ1 Q h2 rs1 e2 fun σ2 rs2 w2 => k σ2 rs2 fun ws hws => ?_⟩
      rw [w2 ws fun i hi => hws i (by simp only [idTs, List.mem_append]; exact .inr hi), w1 ws fun i hi => hws i (by simp only [idTs, List.mem_append]; exact .inl hi)]
  | .nil, _ :: _, _, _, _, _, _, _, _, e, _ => by cases e
  | .cons _ _, [], _, _, _, _, _, _, _, e, _ => by cases e
end
end
/-- an item of what is walked; w: it may be a tuple that is taken apart at once -/
def DqI (K : PySem.W.Frag) (w : Bool) (F : Hp) (v : V) (d : PyData) : Prop := Dq K F v d ∨ (w = true ∧ ∃ a xs ds, v = .ref a ∧ d = .tuple ds ∧ SqT K F a xs ∧ DqAll K F xs ds)
theorem new_tupI {K : PySem.W.Frag} {F : Hp} {p : Addr} {vs : List V} {ds : List PyData} (n : F p = none) (h : DqAll K F vs ds) : DqI K true (upd F p (.tup vs)) (.ref p) (.tuple ds) := .inr ⟨rfl, p, vs, ds, rfl, rfl, SqT.of upd_same, dqAll_same (same_new n) ds vs h⟩
def isTp : Tg → Bool
  | .nm _ => false
  | .tp _ _ => true
def isTup : Expr → Bool
  | .Tuple _ _ _ => true
  | _ => false
theorem sqT_same {K : PySem.W.Frag} {F H : Hp} {a : Addr} {xs : List V} (e : Same F H) (h : SqT K F a xs) : SqT K H a xs := by
  rcases h with (h | ⟨o, h⟩) | h
  · exact .inl (.inl (e _ _ h))
  · exact .inl (.inr ⟨o, e _ _ h⟩)
  · exact .inr h
theorem put_okI {K : PySem.W.Frag} {F H : Hp} {ow : Ads} {w : Bool} (s : Same F H) (t : Tg) (hw : w = true → isTp t = true) (d : PyData) (ρ ρ' : Slots) (v : V) (σ : L2.St) (Q : L2.St → Hp → Prop) (h : DqI K w F v d) (rs : RelS K F ow σ ρ) (e : putT t d ρ = some ρ')
    (k : ∀ σ', RelS K F ow σ' ρ' → (∀ vs, (∀ i ∈ idT t, i ∈ vs) → L2.wipe σ' vs = L2.wipe σ vs) → Q σ' H) : gOf K t v σ H Q := by
  rcases h with h | ⟨w1, a, xs, ds, rfl, rfl, ha, hxs⟩
  · exact put_ok s t d ρ ρ' v σ Q h rs e k
  · cases t with
    | nm i => exact nomatch (show false = true from hw w1)
    | tp n ts =>
      have e : (if ds.length = n then putTs ts ds ρ else none) = some ρ' := e
      by_cases hn : ds.length = n
      · rw [if_pos hn] at e
        exact ⟨a, xs, rfl, sqT_same s ha, by rw [hxs.len]; exact hn, puts_ok s ts ds ρ ρ' xs σ Q hxs rs e k⟩
      · rw [if_neg hn] at e
        cases e
abbrev PDG (X : Cx) (t : Expr) (g : Tg) : Prop := PG X t (gOf X.K g)
abbrev PDGs (X : Cx) (ts : List Expr) (g : Tgs) : Prop := PGs X ts (gsOf X.K g)
section
variable {X : Cx} {pos : Pos} {x : Str} {e : Expr} {es : List Expr}
theorem pdg_nm {i : Nat} (hN : X.N.Nodup) (hi : X.N[i]? = some x) (hx : Loc X.env.scope x) (hf : X.fn x = true ∨ X.env.scope.names.lookup x = some .local := by first | exact .inl rfl | exact .inr rfl | assumption) : PDG X (.Name x pos) (.nm i) := pg_name hN hi hx hf
theorem pdgs_nil : PDGs X [] .nil := pgs_nil
theorem pdgs_cons {t : Tg} {u : Tgs} (h1 : PDG X e t) (h2 : PDGs X es u) (hs : (assignEach (e :: es) X.env).map (·.2) = assign e X.env :: (assignEach es X.env).map (·.2) := by rfl) : PDGs X (e :: es) (.cons t u) := pgs_cons h1 h2 hs
theorem pdg_tp {k n : Nat} {t : Tgs} (hc : X.calm = true) (h : PDGs X es t) (hn : (assignEach es X.env).length = n := by rfl) (hst : (assignEach es X.env).findIdx? (·.1) = none := by rfl) : PDG X (.Tuple es k pos) (.tp n t) := pg_tup hc h hn hst
end
/-! ### what is walked -/
section
variable (K : PySem.W.Frag)
def iOf (w : Bool) (fi : DL) : TI := fun σ H R => ∃ F ow ρ so ds so', RelO K F H ow so ∧ RelS K F ow σ ρ ∧ fi ρ so = some (ds, so') ∧
  ∀ F' H' J G Y, RelO K F' H' ow so' → Stp ow F H F' H' → Walk J ds.length G Y → (∀ F2 H2, Same F' F2 → Same F2 H2 → G H2) →
    (∀ i F2 H2 x H3, i < ds.length → Same F' F2 → Same F2 H2 → Y i H2 x H3 → ∃ F3 d, ds[i]? = some d ∧ Stp [] F2 H2 F3 H3 ∧ Same F3 H3 ∧ DqI K w F3 x d) → R J H'
end
abbrev PDI (X : Cx) (tg it : Expr) (f : DL) : Prop := PI X tg it (iOf X.K (isTup tg) f)
def iSeq (f : DE) : DL := fun ρ so => (f ρ so).bind fun p => (seqOf p.1).map fun ds => (ds, p.2)
theorem pdi_seq {X : Cx} {tg l : Expr} {f : DE} (h : PD X l f) : PDI X tg l (iSeq f) := by
  refine ⟨fun pins s σ H R I q => ?_⟩
  obtain ⟨F, ow, ρ, so, ds, so', r0, rs, e, k⟩ := q
  obtain ⟨⟨d, so1⟩, e1, e2⟩ := Option.bind_eq_some_iff.mp e
  obtain ⟨es, e3, e4⟩ := Option.map_eq_some_iff.mp e2
  cases e4
  cases d with
  | list es =>
    cases e3
    refine (pi_list h).run pins s σ H R I ⟨F, ow, ρ, so, _, _, r0, rs, e1, fun F1 H1 v r1 s1 d1 => ?_⟩
    obtain ⟨a, xs, rfl, ha, hxs⟩ := dq_lst d1
    refine ⟨a, rfl, ⟨xs, SqL.of (r1.sub _ _ ha)⟩, k F1 H1 _ _ _ r1 s1 (by rw [← hxs.len]; exact walk_list (xs := xs)) (fun F2 H2 a1 a2 => SqL.of (a2 _ _ (a1 _ _ ha))) fun i F2 H2 x H3 hi a1 a2 y => ?_⟩
    obtain ⟨rfl, hx⟩ := y
    obtain ⟨d, hd, q⟩ := hxs.get hx
    exact ⟨F2, d, hd, Stp.refl _ _ _, a2, .inl (dq_same a1 _ _ q)⟩
  | tuple es =>
    cases e3
    refine (pi_tup h).run pins s σ H R I ⟨F, ow, ρ, so, _, _, r0, rs, e1, fun F1 H1 v r1 s1 d1 => ?_⟩
    obtain ⟨a, xs, rfl, ha, hxs⟩ := dq_tup d1
    refine ⟨a, rfl, ⟨xs, (ha.sq r1.sub)⟩, k F1 H1 _ _ _ r1 s1 (by rw [← hxs.len]; exact walk_tup (xs := xs)) (fun F2 H2 a1 a2 => (ha.sq (a1.trans a2))) fun i F2 H2 x H3 hi a1 a2 y => ?_⟩
    obtain ⟨rfl, hx⟩ := y
    obtain ⟨d, hd, q⟩ := hxs.get hx
    exact ⟨F2, d, hd, Stp.refl _ _ _, a2, .inl (dq_same a1 _ _ q)⟩
  | _ => cases e3
/-- lo, lo + 1, .. -/
def rangeD (lo : Int) (n : Nat) : List PyData := (List.range n).map fun (i : Nat) => PyData.int (lo + (i : Int))
theorem walk_rg {K : PySem.W.Frag} {wk : Bool} {lo : Int} {n : Nat} : ∀ i F2 H2 x H3, i < (rangeD lo n).length → YFn (fun i => V.int (lo + i)) i H2 x H3 → Same F2 H2 → ∃ F3 d, (rangeD lo n)[i]? = some d ∧ Stp [] F2 H2 F3 H3 ∧ Same F3 H3 ∧ DqI K wk F3 x d := by
  intro i F2 H2 x H3 hi y s
  obtain ⟨rfl, rfl⟩ := y
  unfold rangeD at hi ⊢
  rw [List.length_map, List.length_range] at hi
  exact ⟨F2, .int (lo + i), by rw [List.getElem?_map, List.getElem?_range hi]; rfl, Stp.refl _ _ _, s, .inl (.int _)⟩
def iRg1 (g : DL) : DL := fun ρ so => (g ρ so).bind fun p => match p.1 with
  | [.int n] => if -5000 ≤ n ∧ n ≤ 5000 then some (rangeD 0 n.toNat, p.2) else none
  | _ => none
def iRg2 (g : DL) : DL := fun ρ so => (g ρ so).bind fun p => match p.1 with
  | [.int a, .int b] => if -5000 ≤ a ∧ a ≤ 5000 ∧ -5000 ≤ b ∧ b ≤ 5000 then some (rangeD a (b - a).toNat, p.2) else none
  | _ => none
theorem rangeD_len (lo : Int) (n : Nat) : (rangeD lo n).length = n := by unfold rangeD; rw [List.length_map, List.length_range]
theorem pdi_range1 {X : Cx} {tg a : Expr} {g : DL} {p pos : Pos} (hg : Gl X "range") (hm : X.mg "range" = none) (ha : PDA X [a] g) (hs : starEach [a] X.env = [(false, eval a X.env)] := by rfl) :
    PDI X tg (.Call (.Name "range" p) [a] [] pos) (iRg1 g) := by
  refine (pi_range1 hg hm ha hs).imp fun σ H R q => ?_
  obtain ⟨F, ow, ρ, so, ds, so', r0, rs, e, k⟩ := q
  obtain ⟨⟨d, so1⟩, e1, e2⟩ := Option.bind_eq_some_iff.mp e
  refine ⟨F, ow, ρ, so, d, so1, r0, rs, e1, fun F1 H1 vs r1 s1 d1 => ?_⟩
  split at e2
  · rename_i n hd
    obtain ⟨hn, e3⟩ := if_some e2
    cases e3
    replace hd : d = [.int n] := hd
    subst hd
    cases d1 with
    | cons h1 h2 =>
      cases h1
      cases h2
      exact ⟨n, rfl, by omega, by omega, k F1 H1 _ _ _ r1 s1 (by rw [rangeD_len]; exact walk_range) (fun _ _ _ _ => trivial) fun i F2 H2 x H3 hi a1 a2 y => walk_rg i F2 H2 x H3 hi y a2⟩
  · cases e2
/-! ### statements -/
def bVal (f : DE) : DB := fun ρ so => (f ρ so).bind fun p => match p.1 with
  | .bool b => some (b, p.2)
  | _ => none
def bNot (f : DB) : DB := fun ρ so => (f ρ so).map fun p => (!p.1, p.2)
def bAnd (f g : DB) : DB := fun ρ so => (f ρ so).bind fun p => if p.1 = true then g ρ p.2 else some (false, p.2)
def bOr (f g : DB) : DB := fun ρ so => (f ρ so).bind fun p => if p.1 = true then some (true, p.2) else g ρ p.2
def eIf (c : DB) (a b : DE) : DE := fun ρ so => (c ρ so).bind fun p => if p.1 = true then a ρ p.2 else b ρ p.2
def eAnd (a b : DE) : DE := fun ρ so => (a ρ so).bind fun p => match p.1 with
  | .bool true => b ρ p.2
  | .bool false => some (.bool false, p.2)
  | _ => none
def eOr (a b : DE) : DE := fun ρ so => (a ρ so).bind fun p => match p.1 with
  | .bool true => some (.bool true, p.2)
  | .bool false => b ρ p.2
  | _ => none
def dNot : PyData → Option PyData
  | .bool b => some (.bool (!b))
  | _ => none
section
variable {K : PySem.W.Frag}
theorem tOf_bVal {f : DE} (σ : L2.St) (H : Hp) (Q : Bool → Hp → Prop) (h : tOfB K (bVal f) σ H Q) : tB (tOf K f) σ H Q := by
  obtain ⟨F, ow, ρ, so, b, so', r0, rs, e, k⟩ := h
  obtain ⟨⟨d, so1⟩, e1, e2⟩ := Option.bind_eq_some_iff.mp e
  refine ⟨F, ow, ρ, so, d, so1, r0, rs, e1, fun F1 H1 v r1 s1 d1 => ?_⟩
  split at e2
  · rename_i b' hd
    cases e2
    replace hd : d = .bool b := hd
    subst hd
    exact ⟨b, dq_bl d1, k F1 H1 r1 s1⟩
  · cases e2
theorem tOf_bNot {f : DB} (σ : L2.St) (H : Hp) (Q : Bool → Hp → Prop) (h : tOfB K (bNot f) σ H Q) : tNot (tOfB K f) σ H Q := by
  obtain ⟨F, ow, ρ, so, b, so', r0, rs, e, k⟩ := h
  obtain ⟨⟨d, so1⟩, e1, e2⟩ := Option.map_eq_some_iff.mp e
  cases e2
  exact ⟨F, ow, ρ, so, d, _, r0, rs, e1, k⟩
theorem tOf_bAnd {f g : DB} (σ : L2.St) (H : Hp) (Q : Bool → Hp → Prop) (h : tOfB K (bAnd f g) σ H Q) : tAnd (tOfB K f) (tOfB K g) σ H Q := by
  obtain ⟨F, ow, ρ, so, b, so', r0, rs, e, k⟩ := h
  obtain ⟨⟨d, so1⟩, e1, e2⟩ := Option.bind_eq_some_iff.mp e
  refine ⟨F, ow, ρ, so, d, so1, r0, rs, e1, fun F1 H1 r1 s1 => ?_⟩
  cases d with
  | true => exact ⟨F1, ow, ρ, so1, b, so', r1, rs.mono s1.fz, e2, fun F2 H2 r2 s2 => k F2 H2 r2 (s1.trans s2)⟩
  | false => cases e2; exact k F1 H1 r1 s1
theorem tOf_bOr {f g : DB} (σ : L2.St) (H : Hp) (Q : Bool → Hp → Prop) (h : tOfB K (bOr f g) σ H Q) : tOr (tOfB K f) (tOfB K g) σ H Q := by
  obtain ⟨F, ow, ρ, so, b, so', r0, rs, e, k⟩ := h
  obtain ⟨⟨d, so1⟩, e1, e2⟩ := Option.bind_eq_some_iff.mp e
  refine ⟨F, ow, ρ, so, d, so1, r0, rs, e1, fun F1 H1 r1 s1 => ?_⟩
  cases d with
  | true => cases e2; exact k F1 H1 r1 s1
  | false => exact ⟨F1, ow, ρ, so1, b, so', r1, rs.mono s1.fz, e2, fun F2 H2 r2 s2 => k F2 H2 r2 (s1.trans s2)⟩
theorem tOf_if {c : DB} {a b : DE} (σ : L2.St) (H : Hp) (Q : VK) (h : tOf K (eIf c a b) σ H Q) : tIf (tOfB K c) (tOf K a) (tOf K b) σ H Q := by
  obtain ⟨F, ow, ρ, so, x, so', r0, rs, e, k⟩ := h
  obtain ⟨⟨d, so1⟩, e1, e2⟩ := Option.bind_eq_some_iff.mp e
  refine ⟨F, ow, ρ, so, d, so1, r0, rs, e1, fun F1 H1 r1 s1 => ?_⟩
  cases d with
  | true => exact ⟨F1, ow, ρ, so1, x, so', r1, rs.mono s1.fz, e2, fun F2 H2 v r2 s2 d2 => k F2 H2 v r2 (s1.trans s2) d2⟩
  | false => exact ⟨F1, ow, ρ, so1, x, so', r1, rs.mono s1.fz, e2, fun F2 H2 v r2 s2 d2 => k F2 H2 v r2 (s1.trans s2) d2⟩
theorem tOf_and {a b : DE} (σ : L2.St) (H : Hp) (Q : VK) (h : tOf K (eAnd a b) σ H Q) : tAndV (tOf K a) (tOf K b) σ H Q := by
  obtain ⟨F, ow, ρ, so, x, so', r0, rs, e, k⟩ := h
  obtain ⟨⟨d, so1⟩, e1, e2⟩ := Option.bind_eq_some_iff.mp e
  refine ⟨F, ow, ρ, so, d, so1, r0, rs, e1, fun F1 H1 v r1 s1 d1 => ?_⟩
  split at e2
  · rename_i hd
    replace hd : d = .bool true := hd
    subst hd
    exact ⟨true, dq_bl d1, F1, ow, ρ, so1, x, so', r1, rs.mono s1.fz, e2, fun F2 H2 v r2 s2 d2 => k F2 H2 v r2 (s1.trans s2) d2⟩
  · rename_i hd
    replace hd : d = .bool false := hd
    subst hd
    cases e2
    exact ⟨false, dq_bl d1, k F1 H1 _ r1 s1 (.bl _)⟩
  · cases e2
/-- a op b op c -/
def eChain (g g' : PyData → PyData → Option PyData) (a b c : DE) : DE := fun ρ so => (a ρ so).bind fun p => (b ρ p.2).bind fun q => (g p.1 q.1).bind fun d => match d with
  | .bool true => (c ρ q.2).bind fun r => (g' q.1 r.1).map fun d => (d, r.2)
  | .bool false => some (.bool false, q.2)
  | _ => none
theorem tOf_chain {r r' : R2} {g g' : PyData → PyData → Option PyData} {a b c : DE} (hr : OpD K r g) (hr' : OpD K r' g') (σ : L2.St) (H : Hp) (Q : VK) (h : tOf K (eChain g g' a b c) σ H Q) : tChain r r' (tOf K a) (tOf K b) (tOf K c) σ H Q := by
  obtain ⟨F, ow, ρ, so, z, so', r0, rs, e, k⟩ := h
  obtain ⟨⟨x, so1⟩, e1, e⟩ := Option.bind_eq_some_iff.mp e
  obtain ⟨⟨y, so2⟩, e2, e⟩ := Option.bind_eq_some_iff.mp e
  obtain ⟨d, e3, e⟩ := Option.bind_eq_some_iff.mp e
  refine ⟨F, ow, ρ, so, x, so1, r0, rs, e1, fun F1 H1 v1 r1 s1 d1 => ⟨F1, ow, ρ, so1, y, so2, r1, rs.mono s1.fz, e2, fun F2 H2 v2 r2 s2 d2 => ?_⟩⟩
  refine hr F2 H2 v1 v2 x y d _ r2.sub (dq_same s2.fz x v1 d1) d2 e3 fun F3 H3 v s3 e4 d3 => ?_
  have r3 := r2.grow s3 e4
  have s03 := s1.trans (s2.trans (s3.some_of (ow := ow)))
  split at e
  · refine ⟨true, dq_bl d3, ?_⟩
    obtain ⟨⟨w, so3⟩, e5, e6⟩ := Option.bind_eq_some_iff.mp e
    obtain ⟨z', e7, e8⟩ := Option.map_eq_some_iff.mp e6
    cases e8
    refine ⟨F3, ow, ρ, so2, w, _, r3, rs.mono s03.fz, e5, fun F4 H4 v4 r4 s4 d4 => ?_⟩
    exact hr' F4 H4 v2 v4 y w _ Q r4.sub (dq_same (s3.fz.trans s4.fz) y v2 d2) d4 e7 fun F5 H5 v5 s5 e5' d5 => k F5 H5 v5 (r4.grow s5 e5') (s03.trans (s4.trans s5.some_of)) d5
  · cases e
    exact ⟨false, dq_bl d3, k F3 H3 _ r3 s03 (.bl _)⟩
  · cases e
end
section
variable {X : Cx} {a b c : Expr} {rest : List Expr} {fa fb fc : DE} {pos : Pos} {op op' : CmpOp} {r r' : R2} {gg gg' : PyData → PyData → Option PyData}
theorem pdb_val (h : PD X a fa) (he : ∀ whole, isTrue a X.env whole = (do let v ← whole; standAt a.pos; holding [v] (truthy v)) := by intro _; rfl) : PDB X a (bVal fa) := (pt_val h he).imp tOf_bVal
theorem pdb_cmp (ho : OpR X (compareOp op) r) (hd : OpD X.K r gg) (ha : PD X a fa) (hb : PD X b fb) (hm : behindInMarks op b = false) : PDB X (.Compare a [op] [b] pos) (bVal (eOp gg fa fb)) :=
  (pt_cmpR ho ha hb hm).imp fun σ H Q h => by
    obtain ⟨F, ow, ρ, so, z, so', r0, rs, e, k⟩ := h
    obtain ⟨⟨d, so1⟩, e1, e2⟩ := Option.bind_eq_some_iff.mp e
    refine tOf_op hd σ H _ ⟨F, ow, ρ, so, d, so1, r0, rs, e1, fun F1 H1 v r1 s1 d1 => ?_⟩
    split at e2
    · rename_i hd
      cases e2
      replace hd : d = .bool z := hd
      subst hd
      exact ⟨z, dq_bl d1, k F1 H1 r1 s1⟩
    · cases e2
theorem pdb_chain (ho : OpR X (compareOp op) r) (hd : OpD X.K r gg) (ho' : OpR X (compareOp op') r') (hd' : OpD X.K r' gg') (ha : PD X a fa) (hb : PD X b fb) (hc : PD X c fc)
    (hm : lastMarks [op, op'] [b, c] = false := by with_unfolding_all rfl) : PDB X (.Compare a [op, op'] [b, c] pos) (bVal (eChain gg gg' fa fb fc)) :=
  (pt_chain ho ho' ha hb hc hm).imp fun σ H Q h => by
    obtain ⟨F, ow, ρ, so, z, so', r0, rs, e, k⟩ := h
    obtain ⟨⟨d, so1⟩, e1, e2⟩ := Option.bind_eq_some_iff.mp e
    refine tOf_chain hd hd' σ H _ ⟨F, ow, ρ, so, d, so1, r0, rs, e1, fun F1 H1 v r1 s1 d1 => ?_⟩
    split at e2
    · rename_i hd
      cases e2
      replace hd : d = .bool z := hd
      subst hd
      exact ⟨z, dq_bl d1, k F1 H1 r1 s1⟩
    · cases e2
theorem pd_chain (ho : OpR X (compareOp op) r) (hd : OpD X.K r gg) (ho' : OpR X (compareOp op') r') (hd' : OpD X.K r' gg') (ha : PD X a fa) (hb : PD X b fb) (hc : PD X c fc)
    (hm : lastMarks [op, op'] [b, c] = false := by with_unfolding_all rfl) : PD X (.Compare a [op, op'] [b, c] pos) (eChain gg gg' fa fb fc) := (pe_chain ho ho' ha hb hc hm).imp (tOf_chain hd hd')
theorem pdb_not {f : DB} (h : PDB X a f) : PDB X (.UnaryOp .Not a pos) (bNot f) := (pt_not h).imp tOf_bNot
theorem pdw_and1 {f : DB} (h : PDB X a f) : PDW X (.BoolOp .And [a] pos) f := pw_and1 h
theorem pdw_or1 {f : DB} (h : PDB X a f) : PDW X (.BoolOp .Or [a] pos) f := pw_or1 h
theorem pdw_and {f g : DB} (h : PDB X a f) (hb : PDW X (.BoolOp .And (b :: rest) pos) g) : PDW X (.BoolOp .And (a :: b :: rest) pos) (bAnd f g) := (pw_and h hb).imp tOf_bAnd
theorem pdw_or {f g : DB} (h : PDB X a f) (hb : PDW X (.BoolOp .Or (b :: rest) pos) g) : PDW X (.BoolOp .Or (a :: b :: rest) pos) (bOr f g) := (pw_or h hb).imp tOf_bOr
theorem pdb_w {f : DB} (h : PDW X a f) : PDB X a f := PW.pt h
theorem pd_if {f : DB} (h : PDB X c f) (ha : PD X a fa) (hb : PD X b fb) : PD X (.IfExp c a b pos) (eIf f fa fb) := (pe_ifExp h ha hb).imp tOf_if
theorem pd_one {op : BoolOp} (h : PD X a fa) : PD X (.BoolOp op [a] pos) fa := pe_one h
theorem pd_and (h : PD X a fa) (hb : PD X (.BoolOp .And (b :: rest) pos) fb) : PD X (.BoolOp .And (a :: b :: rest) pos) (eAnd fa fb) := (pe_and h hb).imp tOf_and
end
end MP
namespace MP
open PySem PySem.Spec PyProof.Rows L2 RL
/-! ### statements -/
def sNext : DS := fun ρ so => some (.nx ρ, so)
def sBreak : DS := fun ρ so => some (.bk ρ, so)
def sCont : DS := fun ρ so => some (.ct ρ, so)
def sSeq (f g : DS) : DS := fun ρ so => (f ρ so).bind fun p => match p.1 with
  | .nx ρ1 => g ρ1 p.2
  | fl => some (fl, p.2)
def sRet (f : DE) : DS := fun ρ so => (f ρ so).map fun p => (.rt p.1, p.2)
def sRetN : DS := fun _ so => some (.rt .none, so)
def sDrop (f : DE) : DS := fun ρ so => (f ρ so).map fun p => (.nx ρ, p.2)
def sSet (t : Tg) (f : DE) : DS := fun ρ so => (f ρ so).bind fun p => (putT t p.1 ρ).map fun ρ1 => (.nx ρ1, p.2)
def sIf (c : DB) (f g : DS) : DS := fun ρ so => (c ρ so).bind fun p => if p.1 = true then f ρ p.2 else g ρ p.2
def sNone : DS := fun _ _ => none
/-- a new list of one's own: slot i, place k -/
def noO (k : Nat) : Option Sl → Bool
  | some (.o j) => j != k
  | some (.p j) => j != k && j + 1 != k
  | some (.x t) => (sxOwn t).all (· != k)
  | _ => true
def sNew (i k : Nat) (f : DL) : DS := fun ρ so => (f ρ so).bind fun p => if decide (k < p.2.length) && decide (i < ρ.length) && (ρ.set i none).all (noO k) then some (.nx (ρ.set i (some (.o k))), p.2.set k (.lst p.1)) else none
section
variable {K : PySem.W.Frag} {p : Nat} {W : Str → Hp → Prop}
theorem tOf_next (D : Ends) (σ : L2.St) (H : Hp) (h : tOfS K p W sNext D σ H) : tNext D σ H := by
  obtain ⟨F, ow, ρ, so, fl, so', r0, rs, e, k⟩ := h
  cases e
  exact k F H ow r0 (Stp.refl _ _ _) (OwTo.refl _ _ _) σ rs
theorem tOf_seq {f g : DS} (D : Ends) (σ : L2.St) (H : Hp) (h : tOfS K p W (sSeq f g) D σ H) : tSeq (tOfS K p W f) (tOfS K p W g) D σ H := by
  obtain ⟨F, ow, ρ, so, fl, so', r0, rs, e, k⟩ := h
  obtain ⟨⟨fl1, so1⟩, e1, e2⟩ := Option.bind_eq_some_iff.mp e
  refine ⟨F, ow, ρ, so, fl1, so1, r0, rs, e1, fun F1 H1 ow1 r1 s1 t1 => ?_⟩
  cases fl1 with
  | nx ρ1 => exact fun σ1 rs1 => ⟨F1, ow1, ρ1, so1, fl, so', r1, rs1, e2, fun F2 H2 ow2 r2 s2 t2 => k F2 H2 ow2 r2 (s1.next t1 s2) (OwTo.trans s1 t1 t2)⟩
  | ex n => cases e2; exact k F1 H1 ow1 r1 s1 t1
  | bk ρ1 => cases e2; exact k F1 H1 ow1 r1 s1 t1
  | ct ρ1 => cases e2; exact k F1 H1 ow1 r1 s1 t1
  | rt d => cases e2; exact k F1 H1 ow1 r1 s1 t1
theorem tOf_ret {f : DE} (D : Ends) (σ : L2.St) (H : Hp) (h : tOfS K p W (sRet f) D σ H) : tRet (tOf K f) D σ H := by
  obtain ⟨F, ow, ρ, so, fl, so', r0, rs, e, k⟩ := h
  obtain ⟨⟨d, so1⟩, e1, e2⟩ := Option.map_eq_some_iff.mp e
  cases e2
  exact ⟨F, ow, ρ, so, d, _, r0, rs, e1, fun F1 H1 v r1 s1 d1 => k F1 H1 ow r1 s1 (OwTo.refl _ _ _) v d1⟩
theorem tOf_drop {f : DE} (D : Ends) (σ : L2.St) (H : Hp) (h : tOfS K p W (sDrop f) D σ H) : tDrop (tOf K f) D σ H := by
  obtain ⟨F, ow, ρ, so, fl, so', r0, rs, e, k⟩ := h
  obtain ⟨⟨d, so1⟩, e1, e2⟩ := Option.map_eq_some_iff.mp e
  cases e2
  exact ⟨F, ow, ρ, so, d, _, r0, rs, e1, fun F1 H1 v r1 s1 d1 => k F1 H1 ow r1 s1 (OwTo.refl _ _ _) σ (rs.mono s1.fz)⟩
theorem tOf_set {t : Tg} {f : DE} (D : Ends) (σ : L2.St) (H : Hp) (h : tOfS K p W (sSet t f) D σ H) : tAsg (tOf K f) (gOf K t) D σ H := by
  obtain ⟨F, ow, ρ, so, fl, so', r0, rs, e, k⟩ := h
  obtain ⟨⟨d, so1⟩, e1, e2⟩ := Option.bind_eq_some_iff.mp e
  obtain ⟨ρ1, e3, e4⟩ := Option.map_eq_some_iff.mp e2
  cases e4
  exact ⟨F, ow, ρ, so, d, _, r0, rs, e1, fun F1 H1 v r1 s1 d1 => put_ok r1.sub t d ρ ρ1 v σ _ d1 (rs.mono s1.fz) e3 fun σ1 rs1 _ => k F1 H1 ow r1 s1 (OwTo.refl _ _ _) σ1 rs1⟩
theorem tOf_ifS {c : DB} {f g : DS} (D : Ends) (σ : L2.St) (H : Hp) (h : tOfS K p W (sIf c f g) D σ H) : tIfS (tOfB K c) (tOfS K p W f) (tOfS K p W g) D σ H := by
  obtain ⟨F, ow, ρ, so, fl, so', r0, rs, e, k⟩ := h
  obtain ⟨⟨b, so1⟩, e1, e2⟩ := Option.bind_eq_some_iff.mp e
  refine ⟨F, ow, ρ, so, b, so1, r0, rs, e1, fun F1 H1 r1 s1 => ?_⟩
  have go : ∀ F2 H2 ow2, RelO K F2 H2 ow2 so' → Stp ow F1 H1 F2 H2 → OwTo p ow H1 ow2 → FlOk K D W F2 ow2 H2 fl := fun F2 H2 ow2 r2 s2 t2 =>
    k F2 H2 ow2 r2 (s1.trans s2) (OwTo.trans s1 (OwTo.refl _ _ _) t2)
  cases b with
  | true => exact ⟨F1, ow, ρ, so1, fl, so', r1, rs.mono s1.fz, e2, go⟩
  | false => exact ⟨F1, ow, ρ, so1, fl, so', r1, rs.mono s1.fz, e2, go⟩
theorem tOf_new {i j : Nat} {f : DL} (hj : p ≤ j) (D : Ends) (σ : L2.St) (H : Hp) (h : tOfS K p W (sNew i j f) D σ H) : tAsg (tOfN K f) (gName i) D σ H := by
  obtain ⟨F, ow, ρ, so, fl, so', r0, rs, e, k⟩ := h
  obtain ⟨⟨ds, so1⟩, e1, e2⟩ := Option.bind_eq_some_iff.mp e
  obtain ⟨hc, e3⟩ := if_some e2
  simp only [Bool.and_eq_true, decide_eq_true_eq] at hc
  obtain ⟨⟨hj1, hi⟩, hall⟩ := hc
  cases e3
  refine ⟨F, ow, ρ, so, ds, so1, r0, rs, e1, fun F1 H1 a vs r1 s1 n0 f1 h1 d1 => ?_⟩
  have ne : ∀ (m : Nat) (b : Addr), ow[m]? = some (some b) → b ≠ a := fun m b hb e => r0.old m b hb (by rw [e]; exact n0)
  have lo : ow.length = so1.length := r1.len
  have r2 : RelO K F1 H1 (ow.set j (some a)) (so1.set j (.lst ds)) := by
    refine ⟨r1.sub, by rw [List.length_set, List.length_set]; exact lo, fun m b w hb hw => ?_, fun m n b hm hn => ?_, fun m b hb => ?_⟩
    · rcases get_set hw with ⟨rfl, rfl⟩ | ⟨nm, hw⟩
      · rcases get_set hb with ⟨_, rfl⟩ | ⟨nm, _⟩
        · exact ⟨f1, vs, h1, d1⟩
        · exact absurd rfl nm
      · rcases get_set hb with ⟨z, _⟩ | ⟨_, hb⟩
        · exact absurd z nm
        · exact r1.own m b w hb hw
    · rcases get_set hm with ⟨z1, y1⟩ | ⟨nm, hm'⟩
      · rcases get_set hn with ⟨z2, y2⟩ | ⟨nn, hn'⟩
        · rw [z1, z2]
        · exact absurd (Option.some.inj y1) (ne n b hn')
      · rcases get_set hn with ⟨z2, y2⟩ | ⟨nn, hn'⟩
        · exact absurd (Option.some.inj y2) (ne m b hm')
        · exact r1.inj m n b hm' hn'
    · rcases get_set hb with ⟨rfl, e1⟩ | ⟨nm, hb⟩
      · cases e1
        rw [h1]
        exact nofun
      · exact r1.old m b hb
  refine k F1 H1 _ r2 s1 ⟨by rw [List.length_set], fun m => ?_⟩ _ ⟨by rw [List.length_set, List.length_set]; exact rs.len, fun m v s hv hs => ?_⟩
  · by_cases e : j = m
    · subst e
      refine .inr ⟨hj, fun b hb => ?_⟩
      rcases get_set hb with ⟨_, e1⟩ | ⟨nm, _⟩
      · cases e1
        exact n0
      · exact absurd rfl nm
    · exact .inl (List.getElem?_set_ne e)
  · rcases get_set hs with ⟨rfl, rfl⟩ | ⟨nm, hs'⟩
    · rcases get_set hv with ⟨_, rfl⟩ | ⟨nm, _⟩
      · exact ⟨_, rfl, a, by rw [List.getElem?_set_self (by omega)], rfl⟩
      · exact absurd rfl nm
    · rcases get_set hv with ⟨z, _⟩ | ⟨_, hv⟩
      · exact absurd z nm
      · have q := (rs.mono s1.fz).ats m v s hv hs'
        cases s with
        | none => trivial
        | some s =>
          obtain ⟨u, hu, q⟩ := q
          refine ⟨u, hu, ?_⟩
          cases s with
          | d x => exact q
          | s ns => exact q
          | o n =>
            obtain ⟨b, hb, e⟩ := q
            have mem : some (Sl.o n) ∈ ρ.set i none := List.mem_of_getElem? (i := m) (by rw [List.getElem?_set_ne (Ne.symm nm)]; exact hs')
            have hn : (n != j) = true := List.all_eq_true.mp hall _ mem
            have hn : n ≠ j := by simpa using hn
            exact ⟨b, by rw [List.getElem?_set_ne (Ne.symm hn)]; exact hb, e⟩
          | p n =>
            obtain ⟨a0, b, c, z, hb, hc2, e⟩ := q
            have mem : some (Sl.p n) ∈ ρ.set i none := List.mem_of_getElem? (i := m) (by rw [List.getElem?_set_ne (Ne.symm nm)]; exact hs')
            have hn : (n != j && n + 1 != j) = true := List.all_eq_true.mp hall _ mem
            rw [Bool.and_eq_true] at hn
            have h1 : n ≠ j := by simpa using hn.1
            have h2 : n + 1 ≠ j := by simpa using hn.2
            exact ⟨a0, b, c, z, by rw [List.getElem?_set_ne (Ne.symm h1)]; exact hb, by rw [List.getElem?_set_ne (Ne.symm h2)]; exact hc2, e⟩
          | x t =>
            have mem : some (Sl.x t) ∈ ρ.set i none := List.mem_of_getElem? (i := m) (by rw [List.getElem?_set_ne (Ne.symm nm)]; exact hs')
            have hn : (sxOwn t).all (· != j) = true := List.all_eq_true.mp hall _ mem
            exact sx_ow (fun k hk a ha => by
              have : k ≠ j := by simpa using List.all_eq_true.mp hn k hk
              rw [List.getElem?_set_ne (Ne.symm this)]; exact ha) q
/-! ### for -/
def forGo (t : Tg) (body : DS) : List PyData → Slots → Sto → Option (Fl × Sto)
  | [], ρ, so => some (.nx ρ, so)
  | d :: r, ρ, so => (putT t d ρ).bind fun ρ1 => (body ρ1 so).bind fun q => match q.1 with
    | .nx ρ2 => forGo t body r ρ2 q.2
    | .ct ρ2 => forGo t body r ρ2 q.2
    | .bk ρ2 => some (.nx ρ2, q.2)
    | .rt d => some (.rt d, q.2)
    | .ex n => some (.ex n, q.2)
def sFor (t : Tg) (fi : DL) (body : DS) : DS := fun ρ so => (fi ρ so).bind fun q => forGo t body q.1 ρ q.2
theorem tOf_for {w : Bool} {t : Tg} {fi : DL} {body : DS} (hw : w = true → isTp t = true) (D : Ends) (σ : L2.St) (H : Hp) (h : tOfS K p W (sFor t fi body) D σ H) : tFor (iOf K w fi) (gOf K t) (tOfS K p W body) D σ H := by
  obtain ⟨F, ow, ρ, so, fl, so', r0, rs, e, k⟩ := h
  obtain ⟨⟨ds, so1⟩, e1, e2⟩ := Option.bind_eq_some_iff.mp e
  refine ⟨F, ow, ρ, so, ds, so1, r0, rs, e1, fun F1 H1 J G Y r1 s1 wk hG hY => ?_⟩
  refine for_it wk (fun i σ' H' => ∃ F2 ow2 ρ2 so2, RelO K F2 H' ow2 so2 ∧ RelS K F2 ow2 σ' ρ2 ∧ Stp ow F1 H1 F2 H' ∧ OwTo p ow H1 ow2 ∧ forGo t body (ds.drop i) ρ2 so2 = some (fl, so'))
    ⟨F1, ow, ρ, so1, r1, rs.mono s1.fz, Stp.refl _ _ _, OwTo.refl _ _ _, e2⟩ (fun i σ' H' _ ⟨F2, ow2, ρ2, so2, r2, _, s2, _⟩ => hG F2 H' s2.fz r2.sub) (fun i x σ' H' H3 hi ⟨F2, ow2, ρ2, so2, r2, rs2, s2, t2, e3⟩ y => ?_) (fun σ' H' ⟨F2, ow2, ρ2, so2, r2, rs2, s2, t2, e3⟩ => ?_)
  · obtain ⟨F3, d, hd, s3, e3', dx⟩ := hY i F2 H' x H3 hi s2.fz r2.sub y
    rw [List.drop_eq_getElem_cons hi] at e3
    have ed : ds[i] = d := by rw [List.getElem?_eq_getElem hi] at hd; exact Option.some.inj hd
    rw [ed] at e3
    obtain ⟨ρ3, e4, e5⟩ := Option.bind_eq_some_iff.mp (show (putT t d ρ2).bind _ = _ from e3)
    obtain ⟨⟨fl3, so3⟩, e6, e7⟩ := Option.bind_eq_some_iff.mp e5
    have r3 := r2.grow s3 e3'
    refine put_okI r3.sub t hw d ρ2 ρ3 x σ' _ dx (rs2.mono s3.fz) e4 fun σ3 rs3 _ => ⟨F3, ow2, ρ3, so2, fl3, so3, r3, rs3, e6, fun F4 H4 ow4 r4 s4 t4 => ?_⟩
    have s23 : Stp ow F1 H1 F3 H3 := s2.next t2 s3.some_of
    have s04 : Stp ow F1 H1 F4 H4 := s23.next t2 s4
    have t23 : OwTo p ow H1 ow4 := OwTo.trans s23 t2 t4
    cases fl3 with
    | nx ρ4 => exact fun σ4 rs4 => ⟨F4, ow4, ρ4, so3, r4, rs4, s04, t23, e7⟩
    | ct ρ4 => exact fun σ4 rs4 => ⟨F4, ow4, ρ4, so3, r4, rs4, s04, t23, e7⟩
    | bk ρ4 => cases e7; exact k F4 H4 ow4 r4 (s1.trans s04) (OwTo.trans s1 (OwTo.refl _ _ _) t23)
    | ex n => cases e7; exact k F4 H4 ow4 r4 (s1.trans s04) (OwTo.trans s1 (OwTo.refl _ _ _) t23)
    | rt d' => cases e7; exact k F4 H4 ow4 r4 (s1.trans s04) (OwTo.trans s1 (OwTo.refl _ _ _) t23)
  · rw [List.drop_length] at e3
    cases e3
    exact k F2 H' ow2 r2 (s1.trans s2) (OwTo.trans s1 (OwTo.refl _ _ _) t2) σ' rs2
/-! ### while, so many turns at most -/
def whGo (c : DB) (body : DS) : Nat → Slots → Sto → Option (Fl × Sto)
  | 0, _, _ => none
  | n + 1, ρ, so => (c ρ so).bind fun b => if b.1 = true then (body ρ b.2).bind fun q => match q.1 with
      | .nx ρ2 => whGo c body n ρ2 q.2
      | .ct ρ2 => whGo c body n ρ2 q.2
      | .bk ρ2 => some (.nx ρ2, q.2)
      | .rt d => some (.rt d, q.2)
      | .ex n => some (.ex n, q.2)
    else some (.nx ρ, b.2)
def sWhile (n : Nat) (c : DB) (body : DS) : DS := whGo c body n
theorem tOf_while {n : Nat} {c : DB} {body : DS} (D : Ends) (σ : L2.St) (H : Hp) (h : tOfS K p W (sWhile n c body) D σ H) : tWhile (tOfB K c) (tOfS K p W body) D σ H := by
  obtain ⟨F, ow, ρ, so, fl, so', r0, rs, e, k⟩ := h
  refine ⟨fun m σ' H' => ∃ F2 ow2 ρ2 so2, RelO K F2 H' ow2 so2 ∧ RelS K F2 ow2 σ' ρ2 ∧ Stp ow F H F2 H' ∧ OwTo p ow H ow2 ∧ whGo c body m ρ2 so2 = some (fl, so'), ⟨n, F, ow, ρ, so, r0, rs, Stp.refl _ _ _, OwTo.refl _ _ _, e⟩, ?_⟩
  rintro m σ' H' ⟨F2, ow2, ρ2, so2, r2, rs2, s2, t2, e2⟩
  cases m with
  | zero => cases e2
  | succ m =>
    obtain ⟨⟨b, so3⟩, e3, e4⟩ := Option.bind_eq_some_iff.mp (show (c ρ2 so2).bind _ = _ from e2)
    refine ⟨F2, ow2, ρ2, so2, b, so3, r2, rs2, e3, fun F3 H3 r3 s3 => ?_⟩
    have s03 : Stp ow F H F3 H3 := s2.next t2 s3
    cases b with
    | true =>
      obtain ⟨⟨fl4, so4⟩, e5, e6⟩ := Option.bind_eq_some_iff.mp (show (body ρ2 so3).bind _ = _ from e4)
      refine ⟨fun σ4 H4 => ∃ F4 ow4 ρ4 so4, RelO K F4 H4 ow4 so4 ∧ RelS K F4 ow4 σ4 ρ4 ∧ Stp ow F H F4 H4 ∧ OwTo p ow H ow4 ∧ whGo c body m ρ4 so4 = some (fl, so'), fun σ4 H4 q => ⟨m, Nat.lt_succ_self m, q⟩, F3, ow2, ρ2, so3, fl4, so4, r3, rs2.mono s3.fz, e5, fun F4 H4 ow4 r4 s4 t4 => ?_⟩
      have s04 : Stp ow F H F4 H4 := s03.next t2 s4
      have t04 : OwTo p ow H ow4 := OwTo.trans s03 t2 t4
      cases fl4 with
      | nx ρ4 => exact fun σ4 rs4 => ⟨F4, ow4, ρ4, so4, r4, rs4, s04, t04, e6⟩
      | ct ρ4 => exact fun σ4 rs4 => ⟨F4, ow4, ρ4, so4, r4, rs4, s04, t04, e6⟩
      | bk ρ4 => cases e6; exact k F4 H4 ow4 r4 s04 t04
      | ex n => cases e6; exact k F4 H4 ow4 r4 s04 t04
      | rt d' => cases e6; exact k F4 H4 ow4 r4 s04 t04
    | false =>
      cases e4
      exact k F3 H3 ow2 r3 s03 t2 σ' (rs2.mono s3.fz)
end
section
variable {X : Cx} {p : Nat} {W : Str → Hp → Prop} {st : Stmt} {rest body orelse : List Stmt} {f g : DS} {pos : Pos} {e c : Expr} {fe : DE} {fb : DB}
theorem pdss_nil : PDSs X p W [] sNext := pss_nil.imp tOf_next
theorem pdss_cons (h1 : PDS X p W st f) (h2 : PDSs X p W rest g) : PDSs X p W (st :: rest) (sSeq f g) := (pss_cons h1 h2).imp tOf_seq
theorem pdss_one (h1 : PDS X p W st f) : PDSs X p W [st] f := pss_one h1
theorem pds_pass : PDS X p W (.Pass pos) sNext := ps_pass.imp tOf_next
theorem pds_expr (h : PD X e fe) (hs : swapsWith e none pos.line X.env = pure false := by rfl) : PDS X p W (.Expr e pos) (sDrop fe) := (ps_expr h hs).imp tOf_drop
theorem pds_ret (h : PD X e fe) : PDS X p W (.Return (some e) pos) (sRet fe) := (ps_ret h).imp tOf_ret
theorem pds_if (hc : PDB X c fb) (ha : PDSs X p W body f) (hb : PDSs X p W orelse g) : PDS X p W (.If c body orelse pos) (sIf fb f g) := (ps_if hc ha hb).imp tOf_ifS
theorem pds_asg {tg : Expr} {t : Tg} (he : PD X e fe) (hg : PDG X tg t) (hs : swapsWithSole [tg] e pos.line X.env = pure false := by rfl) (hw : swappedStores [tg] e X.env = pure none := by rfl)
    (h1 : (assignEach [tg] X.env).map (·.2) = [assign tg X.env] := by rfl) : PDS X p W (.Assign [tg] e pos) (sSet t fe) := (ps_asg he hg hs hw h1).imp tOf_set
theorem pds_set {i : Nat} {x : Str} {pos' : Pos} (hN : X.N.Nodup) (hi : X.N[i]? = some x) (hx : Loc X.env.scope x) (he : PD X e fe) (hs : swapsWith e (some (.Name x pos')) pos.line X.env = pure false := by rfl) (hf : X.fn x = true ∨ X.env.scope.names.lookup x = some .local := by first | exact .inl rfl | exact .inr rfl | assumption) :
    PDS X p W (.Assign [.Name x pos'] e pos) (sSet (.nm i) fe) := (ps_set hN hi hx he hs hf).imp (tOf_set (t := .nm i))
theorem pds_new {i j : Nat} {x : Str} {pos' : Pos} {fl : DL} (hj : p ≤ j) (hN : X.N.Nodup) (hi : X.N[i]? = some x) (hx : Loc X.env.scope x) (he : PDN X e fl) (hs : swapsWith e (some (.Name x pos')) pos.line X.env = pure false := by rfl) (hf : X.fn x = true ∨ X.env.scope.names.lookup x = some .local := by first | exact .inl rfl | exact .inr rfl | assumption) :
    PDS X p W (.Assign [.Name x pos'] e pos) (sNew i j fl) := (ps_set hN hi hx he hs hf).imp (tOf_new hj)
theorem pds_for {tg iter : Expr} {t : Tg} {fi : DL} (hp : PassesOwn (model X.prog X.w) X.A X.env X.xe) (hc : X.calm = true) (hi : PDI X tg iter fi) (hg : PDG X tg t) (hb : PDSs X p W body f)
    (hs : ∀ x, foldedSetIterable iter X.env x = pure x := by intro _; rfl) (hw : isTup tg = true → isTp t = true := by first | exact fun _ => rfl | exact fun h => nomatch (show false = true from h)) : PDS X p W (.For tg iter body [] pos) (sFor t fi f) := (ps_for hp hc hi hg hb hs).imp (tOf_for hw)
theorem pds_while (n : Nat) (hp : PassesOwn (model X.prog X.w) X.A X.env X.xe) (hc : PDB X c fb) (hb : PDSs X p W body f) : PDS X p W (.While c body [] pos) (sWhile n fb f) := (ps_while hp hc hb).imp tOf_while
end
end MP
namespace MP
open PySem PySem.Spec PyProof.Rows L2 RL
/-! ### comprehensions -/
def lcGo (body : PyData → Sto → Option (List PyData × Sto)) : List PyData → Sto → Option (List PyData × Sto)
  | [], so => some ([], so)
  | d :: r, so => (body d so).bind fun p => (lcGo body r p.2).bind fun q => some (p.1 ++ q.1, q.2)
def bYes : DB := fun _ so => some (true, so)
def lcBody (t : Tg) (tt : DB) (te : DE) (ρ : Slots) (d : PyData) (so : Sto) : Option (List PyData × Sto) :=
  (putT t d ρ).bind fun ρ1 => (tt ρ1 so).bind fun b => if b.1 = true then (te ρ1 b.2).map fun y => ([y.1], y.2) else some ([], b.2)
def nLc (vs : List Nat) (t : Tg) (fi : DL) (tt : DB) (te : DE) : DL := fun ρ so => (fi ρ so).bind fun p => (lcGo (lcBody t tt te (wipeS ρ vs)) p.1 p.2).bind fun q => if q.1.length ≤ LIM then some q else none
def lcBody2 (t : Tg) (tt : DB) (vs1 : List Nat) (fi1 : DL) (t1 : Tg) (tt1 : DB) (te : DE) (ρ : Slots) (d : PyData) (so : Sto) : Option (List PyData × Sto) :=
  (putT t d ρ).bind fun ρ1 => (tt ρ1 so).bind fun b => if b.1 = true then (fi1 ρ1 b.2).bind fun p => lcGo (lcBody t1 tt1 te (wipeS ρ1 vs1)) p.1 p.2 else some ([], b.2)
def nLc2 (vs vs1 : List Nat) (t : Tg) (fi : DL) (tt : DB) (fi1 : DL) (t1 : Tg) (tt1 : DB) (te : DE) : DL := fun ρ so => (fi ρ so).bind fun p => (lcGo (lcBody2 t tt vs1 fi1 t1 tt1 te (wipeS ρ vs)) p.1 p.2).bind fun q => if q.1.length ≤ LIM then some q else none
section
variable {K : PySem.W.Frag}
/-- a list that is no one's yet is changed -/
theorem RelO.out {F H : Hp} {ow : Ads} {so : Sto} {D : Addr} {o : HO} (r : RelO K F H ow so) (f : F D = none) (n : some D ∉ ow) : RelO K F (upd H D o) ow so := by
  refine ⟨fun b u hb => ?_, r.len, fun k a w ha hw => ?_, r.inj, fun k a h => live_upd (r.old k a h)⟩
  · rw [upd_ne (ne_of_none hb f)]
    exact r.sub b u hb
  · have q := r.own k a w ha hw
    cases w with
    | no => cases a <;> trivial
    | lst es =>
      cases a with
      | none => exact q.elim
      | some a =>
        obtain ⟨fb, us, hu, hd2⟩ := q
        have nab : a ≠ D := fun e => n (by rw [← e]; exact List.mem_of_getElem? ha)
        exact ⟨fb, us, by rw [upd_ne nab]; exact hu, hd2⟩
    | dct es =>
      cases a with
      | none => exact q.elim
      | some a =>
        obtain ⟨fb, us, hu, hd2⟩ := q
        have nab : a ≠ D := fun e => n (by rw [← e]; exact List.mem_of_getElem? ha)
        exact ⟨fb, us, by rw [upd_ne nab]; exact hu, hd2⟩
    | x t0 =>
      cases a with
      | none => exact q.elim
      | some a =>
        obtain ⟨fb, us, hu, hd2⟩ := q
        have nab : a ≠ D := fun e => n (by rw [← e]; exact List.mem_of_getElem? ha)
        exact ⟨fb, us, by rw [upd_ne nab]; exact hu, hd2⟩
    | fz d =>
      cases a with
      | none => exact q.elim
      | some a => exact ⟨live_upd q.1, q.2⟩
/-- the list that a comprehension makes, so far -/
structure Acc (F0 H0 F H : Hp) (ow : Ads) (so : Sto) (D : Addr) (acc : List V) (ds : List PyData) : Prop where
  rel : RelO K F H ow so
  stp : Stp ow F0 H0 F H
  lst : H D = some (.lst acc)
  fre : F D = none
  all : DqAll K F acc ds
theorem Acc.step {F0 H0 F H F' H' : Hp} {ow : Ads} {so so' : Sto} {D : Addr} {acc : List V} {ds : List PyData} (A : Acc (K := K) F0 H0 F H ow so D acc ds) (n : some D ∉ ow) (r : RelO K F' H' ow so') (s : Stp ow F H F' H') : Acc (K := K) F0 H0 F' H' ow so' D acc ds :=
  ⟨r, A.stp.trans s, s.keep D _ n A.lst, s.own D _ n A.lst A.fre, dqAll_same s.fz _ _ A.all⟩
theorem Acc.push {F0 H0 F H : Hp} {ow : Ads} {so : Sto} {D : Addr} {acc : List V} {ds : List PyData} {y : V} {d : PyData} (A : Acc (K := K) F0 H0 F H ow so D acc ds) (n : some D ∉ ow) (h0 : H0 D = none) (hy : Dq K F y d) :
    Acc (K := K) F0 H0 F (upd H D (.lst (acc ++ [y]))) ow so D (acc ++ [y]) (ds ++ [d]) := by
  refine ⟨A.rel.out A.fre n, ⟨A.stp.fz, fun a o hn h => ?_, A.stp.own, fun a h => live_upd (A.stp.live a h)⟩, upd_same, A.fre, A.all.app (.cons hy .nil)⟩
  rw [upd_ne (ne_of_none h h0)]
  exact A.stp.keep a o hn h
theorem wipe_wipe (σ : L2.St) (vs : List Nat) : L2.wipe (L2.wipe σ vs) vs = L2.wipe σ vs := by
  refine List.ext_getElem? fun j => ?_
  rw [wipe_get, wipe_length]
  by_cases h : j ∈ vs ∧ j < σ.length
  · rw [if_pos h, wipe_get, if_pos h]
  · rw [if_neg h]
/-- a turn's expression and the new item -/
theorem lc_turn {w : Bool} {t : Tg} {tt : DB} {te : DE} {vs : List Nat} {F0 H0 F H F3 H3 : Hp} {ow : Ads} {so so1 : Sto} {D : Addr} {acc : List V} {ds ys rest : List PyData} {σ : L2.St} {ρ : Slots} {x : V} {d : PyData} {Nx : Hp → Prop}
    (hw : w = true → isTp t = true) (hv : ∀ i ∈ idT t, i ∈ vs) (n : some D ∉ ow) (h0 : H0 D = none) (A : Acc (K := K) F0 H0 F H ow so D acc ds) (rs : RelS K F ow (L2.wipe σ vs) ρ) (s3 : Stp [] F H F3 H3) (e3 : Same F3 H3) (dx : DqI K w F3 x d)
    (e : lcBody t tt te ρ d so = some (ys, so1)) (hl : (ds ++ ys ++ rest).length ≤ LIM) (k : ∀ F' H' acc', Same F F' → Acc (K := K) F0 H0 F' H' ow so1 D acc' (ds ++ ys) → RelS K F' ow (L2.wipe σ vs) ρ → Nx H') :
    gOf K t x (L2.wipe σ vs) H3 fun σ2 H2 => L2.wipe σ2 vs = L2.wipe σ vs ∧ tOfB K tt σ2 H2 fun b H3 =>
      if b = true then tOf K te σ2 H3 fun y H4 => ∃ acc, H4 D = some (.lst acc) ∧ acc.length < sizeLine ∧ Nx (upd H4 D (.lst (acc ++ [y]))) else Nx H3 := by
  obtain ⟨ρ1, e1, e2⟩ := Option.bind_eq_some_iff.mp e
  obtain ⟨⟨b, so2⟩, e4, e5⟩ := Option.bind_eq_some_iff.mp e2
  have A3 := A.step n (A.rel.grow s3 e3) s3.some_of
  have ww := wipe_wipe σ vs
  refine put_okI A3.rel.sub t hw d ρ ρ1 x _ _ dx (rs.mono s3.fz) e1 fun σ2 rs2 w2 => ⟨by rw [w2 vs hv, ww], F3, ow, ρ1, so, b, so2, A3.rel, rs2, e4, fun F4 H4 r4 s4 => ?_⟩
  have A4 := A3.step n r4 s4
  have rs0 : ∀ {F'}, Same F3 F' → RelS K F' ow (L2.wipe σ vs) ρ := fun h => rs.mono (s3.fz.trans h)
  cases b with
  | true =>
    obtain ⟨⟨y, so3⟩, e6, e7⟩ := Option.map_eq_some_iff.mp e5
    cases e7
    refine ⟨F4, ow, ρ1, so2, y, _, r4, rs2.mono s4.fz, e6, fun F5 H5 v r5 s5 d5 => ?_⟩
    have A5 := A4.step n r5 s5
    refine ⟨acc, A5.lst, ?_, k F5 _ _ (s3.fz.trans (s4.fz.trans s5.fz)) (A5.push n h0 d5) (rs0 (s4.fz.trans s5.fz))⟩
    rw [A5.all.len]
    rw [List.length_append, List.length_append] at hl
    exact lim_lt (by omega)
  | false =>
    cases e5
    rw [List.append_nil] at k
    exact k F4 H4 acc (s3.fz.trans s4.fz) A4 (rs0 s4.fz)
theorem lcGo_cons {body : PyData → Sto → Option (List PyData × Sto)} {d : PyData} {r tot : List PyData} {so soE : Sto} (e : lcGo body (d :: r) so = some (tot, soE)) : ∃ ys so1 rest, body d so = some (ys, so1) ∧ lcGo body r so1 = some (rest, soE) ∧ tot = ys ++ rest := by
  obtain ⟨⟨ys, so1⟩, e1, e2⟩ := Option.bind_eq_some_iff.mp (show (body d so).bind _ = _ from e)
  obtain ⟨⟨rest, so2⟩, e3, e4⟩ := Option.bind_eq_some_iff.mp e2
  cases e4
  exact ⟨ys, so1, rest, e1, e3, rfl⟩
theorem tOf_lc {w : Bool} {vs : List Nat} {t : Tg} {fi : DL} {tt : DB} {te : DE} (hw : w = true → isTp t = true) (hv : ∀ i ∈ idT t, i ∈ vs) (σ : L2.St) (H : Hp) (Q : VK) (h : tOfN K (nLc vs t fi tt te) σ H Q) : tLc (iOf K w fi) (gOf K t) (tOfB K tt) (tOf K te) vs σ H Q := by
  obtain ⟨F, ow, ρ, so, ds, so', r0, rs, e, k⟩ := h
  obtain ⟨⟨items, so1⟩, e1, e2⟩ := Option.bind_eq_some_iff.mp e
  obtain ⟨⟨tot, so2⟩, e3, e4⟩ := Option.bind_eq_some_iff.mp e2
  obtain ⟨hl, e5⟩ := if_some e4
  cases e5
  refine ⟨F, ow, ρ, so, items, so1, r0, rs, e1, fun F1 H1 J G Y r1 s1 wk hG hY D nD => ?_⟩
  have nD0 : H D = none := by
    cases q : H D with
    | none => rfl
    | some o => exact absurd nD (s1.live D (by rw [q]; exact nofun))
  have nw : some D ∉ ow := fun m => by
    obtain ⟨j, hj⟩ := List.mem_iff_getElem?.mp m
    exact r1.old j D hj nD
  have fD : F1 D = none := r1.sub.free nD
  refine walk_any wk (body := fun x H' Nx => gOf K t x (L2.wipe σ vs) H' fun σ2 H2 => L2.wipe σ2 vs = L2.wipe σ vs ∧ tOfB K tt σ2 H2 fun b H3 =>
      if b = true then tOf K te σ2 H3 fun y H4 => ∃ acc, H4 D = some (.lst acc) ∧ acc.length < sizeLine ∧ Nx (upd H4 D (.lst (acc ++ [y]))) else Nx H3)
    (fun i H' => ∃ F2 so_i acc dacc rest, Acc (K := K) F1 H1 F2 H' ow so_i D acc dacc ∧ RelS K F2 ow (L2.wipe σ vs) (wipeS ρ vs) ∧ lcGo (lcBody t tt te (wipeS ρ vs)) (items.drop i) so_i = some (rest, so') ∧ dacc ++ rest = ds)
    ⟨F1, so1, [], [], ds, ⟨r1.out fD nw, ⟨Same.refl _, fun a o _ h => by rw [upd_ne (ne_of_none h nD)]; exact h, fun _ _ _ _ h => h, fun a h => live_upd h⟩, upd_same, fD, .nil⟩, (rs.mono s1.fz).wipe vs, e3, rfl⟩
    (fun i H' _ ⟨F2, so_i, acc, dacc, rest, A, _⟩ => hG F2 H' A.stp.fz A.rel.sub) (fun i x H2 H3 hi ⟨F2, so_i, acc, dacc, rest, A, rs2, e6, e7⟩ y => ?_) (fun H2 ⟨F2, so_i, acc, dacc, rest, A, rs2, e6, e7⟩ => ?_)
  · obtain ⟨F3, d, hd, s3, e3', dx⟩ := hY i F2 H2 x H3 hi A.stp.fz A.rel.sub y
    rw [List.drop_eq_getElem_cons hi] at e6
    have ed : items[i] = d := by rw [List.getElem?_eq_getElem hi] at hd; exact Option.some.inj hd
    rw [ed] at e6
    obtain ⟨ys, so3, rest', e8, e9, rfl⟩ := lcGo_cons e6
    refine lc_turn (rest := rest') hw hv nw nD A rs2 s3 e3' dx e8 (by rw [List.append_assoc, e7]; exact hl) fun F' H' acc' _ A' rs' => ⟨F', so3, acc', _, rest', A', rs', e9, by rw [List.append_assoc]; exact e7⟩
  · rw [List.drop_length] at e6
    cases e6
    rw [List.append_nil] at e7
    subst e7
    exact k F2 H2 D acc A.rel (s1.trans A.stp) nD0 A.fre A.lst A.all
theorem tOf_lc2 {w w1 : Bool} {vs vs1 : List Nat} {t t1 : Tg} {fi fi1 : DL} {tt tt1 : DB} {te : DE} (hw : w = true → isTp t = true) (hw1 : w1 = true → isTp t1 = true) (hv : ∀ i ∈ idT t, i ∈ vs) (hv1 : ∀ i ∈ idT t1, i ∈ vs1) (σ : L2.St) (H : Hp) (Q : VK) (h : tOfN K (nLc2 vs vs1 t fi tt fi1 t1 tt1 te) σ H Q) :
    tLc2 (iOf K w fi) (gOf K t) (tOfB K tt) (iOf K w1 fi1) (gOf K t1) (tOfB K tt1) (tOf K te) vs vs1 σ H Q := by
  obtain ⟨F, ow, ρ, so, ds, so', r0, rs, e, k⟩ := h
  obtain ⟨⟨items, so1⟩, e1, e2⟩ := Option.bind_eq_some_iff.mp e
  obtain ⟨⟨tot, so2⟩, e3, e4⟩ := Option.bind_eq_some_iff.mp e2
  obtain ⟨hl, e5⟩ := if_some e4
  cases e5
  refine ⟨F, ow, ρ, so, items, so1, r0, rs, e1, fun F1 H1 J G Y r1 s1 wk hG hY D nD => ?_⟩
  have nD0 : H D = none := by
    cases q : H D with
    | none => rfl
    | some o => exact absurd nD (s1.live D (by rw [q]; exact nofun))
  have nw : some D ∉ ow := fun m => by
    obtain ⟨j, hj⟩ := List.mem_iff_getElem?.mp m
    exact r1.old j D hj nD
  have fD : F1 D = none := r1.sub.free nD
  refine walk_any wk (body := fun x H' Nx => gOf K t x (L2.wipe σ vs) H' fun σ2 H2 => L2.wipe σ2 vs = L2.wipe σ vs ∧ tOfB K tt σ2 H2 fun b H3 =>
      if b = true then iOf K w1 fi1 σ2 H3 fun J1 H4 => ∃ W1 : Nat → Nat → Hp → Prop, (∃ m, W1 0 m H4) ∧ ∀ j k H, W1 j k H →
      (J1.stop j H ∧ Nx H) ∨ (J1.go j H ∧ ∃ Nx1 : Hp → Prop, (∀ H', Nx1 H' → ∃ k', k' < k ∧ W1 (j + 1) k' H') ∧ ∀ x H', J1.yld j H x H' → gOf K t1 x (L2.wipe σ2 vs1) H' fun σ3 H5 => L2.wipe σ3 vs1 = L2.wipe σ2 vs1 ∧ tOfB K tt1 σ3 H5 fun b H6 =>
        if b = true then tOf K te σ3 H6 fun y H7 => ∃ acc, H7 D = some (.lst acc) ∧ acc.length < sizeLine ∧ Nx1 (upd H7 D (.lst (acc ++ [y]))) else Nx1 H6)
      else Nx H3)
    (fun i H' => ∃ F2 so_i acc dacc rest, Acc (K := K) F1 H1 F2 H' ow so_i D acc dacc ∧ RelS K F2 ow (L2.wipe σ vs) (wipeS ρ vs) ∧ lcGo (lcBody2 t tt vs1 fi1 t1 tt1 te (wipeS ρ vs)) (items.drop i) so_i = some (rest, so') ∧ dacc ++ rest = ds)
    ⟨F1, so1, [], [], ds, ⟨r1.out fD nw, ⟨Same.refl _, fun a o _ h => by rw [upd_ne (ne_of_none h nD)]; exact h, fun _ _ _ _ h => h, fun a h => live_upd h⟩, upd_same, fD, .nil⟩, (rs.mono s1.fz).wipe vs, e3, rfl⟩
    (fun i H' _ ⟨F2, so_i, acc, dacc, rest, A, _⟩ => hG F2 H' A.stp.fz A.rel.sub) (fun i x H2 H3 hi ⟨F2, so_i, acc, dacc, rest, A, rs2, e6, e7⟩ y => ?_) (fun H2 ⟨F2, so_i, acc, dacc, rest, A, rs2, e6, e7⟩ => ?_)
  · obtain ⟨F3, d, hd, s3, e3', dx⟩ := hY i F2 H2 x H3 hi A.stp.fz A.rel.sub y
    rw [List.drop_eq_getElem_cons hi] at e6
    have ed : items[i] = d := by rw [List.getElem?_eq_getElem hi] at hd; exact Option.some.inj hd
    rw [ed] at e6
    obtain ⟨ys, so3, rest', e8, e9, rfl⟩ := lcGo_cons e6
    obtain ⟨ρ1, e10, e11⟩ := Option.bind_eq_some_iff.mp (show (putT t d (wipeS ρ vs)).bind _ = _ from e8)
    obtain ⟨⟨b, so4⟩, e12, e13⟩ := Option.bind_eq_some_iff.mp e11
    have A3 := A.step nw (A.rel.grow s3 e3') s3.some_of
    have ww := wipe_wipe σ vs
    refine put_okI A3.rel.sub t hw d _ ρ1 x _ _ dx (rs2.mono s3.fz) e10 fun σ2 rs3 w2 => ⟨by rw [w2 vs hv, ww], F3, ow, ρ1, so_i, b, so4, A3.rel, rs3, e12, fun F4 H4 r4 s4 => ?_⟩
    have A4 := A3.step nw r4 s4
    have rs0 : ∀ {F'}, Same F3 F' → RelS K F' ow (L2.wipe σ vs) (wipeS ρ vs) := fun h => rs2.mono (s3.fz.trans h)
    cases b with
    | false =>
      cases e13
      rw [List.nil_append] at e7
      exact ⟨F4, _, acc, dacc, rest', A4, rs0 s4.fz, e9, e7⟩
    | true =>
      obtain ⟨⟨items1, so5⟩, e14, e15⟩ := Option.bind_eq_some_iff.mp e13
      refine ⟨F4, ow, ρ1, so4, items1, so5, r4, rs3.mono s4.fz, e14, fun F5 H5 J1 G1 Y1 r5 s5 wk1 hG1 hY1 => ?_⟩
      have A5 := A4.step nw r5 s5
      have rs5 : RelS K F5 ow σ2 ρ1 := rs3.mono (s4.fz.trans s5.fz)
      refine walk_any wk1 (body := fun x H' Nx1 => gOf K t1 x (L2.wipe σ2 vs1) H' fun σ3 H5 => L2.wipe σ3 vs1 = L2.wipe σ2 vs1 ∧ tOfB K tt1 σ3 H5 fun b H6 =>
          if b = true then tOf K te σ3 H6 fun y H7 => ∃ acc, H7 D = some (.lst acc) ∧ acc.length < sizeLine ∧ Nx1 (upd H7 D (.lst (acc ++ [y]))) else Nx1 H6)
        (fun j H' => ∃ F6 so_j acc dacc' rest1, Acc (K := K) F1 H1 F6 H' ow so_j D acc dacc' ∧ Same F5 F6 ∧ RelS K F6 ow (L2.wipe σ2 vs1) (wipeS ρ1 vs1) ∧ lcGo (lcBody t1 tt1 te (wipeS ρ1 vs1)) (items1.drop j) so_j = some (rest1, so3) ∧ dacc' ++ rest1 = dacc ++ ys)
        ⟨F5, so5, acc, dacc, ys, A5, Same.refl _, rs5.wipe vs1, e15, rfl⟩ (fun j H' _ ⟨F6, so_j, acc, dacc', rest1, A6, q6, _⟩ => hG1 F6 H' q6 A6.rel.sub) (fun j x H6 H7 hj ⟨F6, so_j, acc, dacc', rest1, A6, q6, rs6, e16, e17⟩ y => ?_) (fun H6 ⟨F6, so_j, acc, dacc', rest1, A6, q6, rs6, e16, e17⟩ => ?_)
      · obtain ⟨F7, d', hd', s7, e7', dx'⟩ := hY1 j F6 H6 x H7 hj q6 A6.rel.sub y
        rw [List.drop_eq_getElem_cons hj] at e16
        have ed' : items1[j] = d' := by rw [List.getElem?_eq_getElem hj] at hd'; exact Option.some.inj hd'
        rw [ed'] at e16
        obtain ⟨ys', so6, rest2, e18, e19, rfl⟩ := lcGo_cons e16
        refine lc_turn (rest := rest2 ++ rest') hw1 hv1 nw nD A6 rs6 s7 e7' dx' e18 ?_ fun F' H' acc' q' A' rs' => ⟨F', so6, acc', _, rest2, A', q6.trans q', rs', e19, by rw [List.append_assoc]; exact e17⟩
        have : dacc' ++ ys' ++ (rest2 ++ rest') = ds := by rw [← e7, ← List.append_assoc dacc, ← e17]; simp [List.append_assoc]
        rw [this]
        exact hl
      · rw [List.drop_length] at e16
        cases e16
        rw [List.append_nil] at e17
        subst e17
        refine ⟨F6, _, acc, _, rest', A6, rs0 (s4.fz.trans (s5.fz.trans q6)), e9, by rw [List.append_assoc]; exact e7⟩
  · rw [List.drop_length] at e6
    cases e6
    rw [List.append_nil] at e7
    subst e7
    exact k F2 H2 D acc A.rel (s1.trans A.stp) nD0 A.fre A.lst A.all
end
abbrev PDTs (X : Cx) (ifs : List Expr) (f : DB) : Prop := PTs X ifs (tOfB X.K f)
section
variable {X : Cx} {elt tg iter tg1 iter1 c : Expr} {ifs ifs1 : List Expr} {scope : Scope} {own : List (Str × Nat)} {vs1 : List Nat} {pos : Pos} {fi fi1 : DL} {t t1 : Tg} {tt tt1 : DB} {te : DE}
theorem pdts_nil : PDTs X [] bYes := ⟨fun pins s σ H Q I h => pts_nil.run pins s σ H Q I (by
  obtain ⟨F, ow, ρ, so, b, so', r0, rs, e, k⟩ := h
  cases e
  exact k F H r0 (Stp.refl _ _ _))⟩
theorem pdts_one {f : DB} (h : PDB X c f) : PDTs X [c] f := pts_one h
theorem pdn_lc (hc : X.calm = true) (hN : X.N.Nodup) (hi : PDI X tg iter fi) (ok : BlkOk X.N X.env.scope scope own) (hv : ∀ i ∈ idT t, i ∈ own.map (·.2))
    (hg : ∀ (s : Shared) (H : Hp) (C : Addr) (cl : List (Str × Addr)) (fp : List Addr), PDG (X.blk s H scope (compEnvC scope cl C X.env) fp) tg t) (ht : ∀ (s : Shared) (H : Hp) (C : Addr) (cl : List (Str × Addr)) (fp : List Addr), PDTs (X.blk s H scope (compEnvC scope cl C X.env) fp) ifs tt)
    (he : ∀ (s : Shared) (H : Hp) (C : Addr) (cl : List (Str × Addr)) (fp : List Addr), PD (X.blk s H scope (compEnvC scope cl C X.env) fp) elt te) (hs : ∀ x, foldedSetIterable iter X.env x = pure x := by intro _; rfl) (hw : isTup tg = true → isTp t = true := by first | exact fun _ => rfl | exact fun h => nomatch (show false = true from h)) :
    PDN X (.ListComp elt [⟨tg, iter, ifs, 0⟩] scope pos) (nLc (own.map (·.2)) t fi tt te) := (pe_lc hc hN hi ok hg ht he hs).imp (tOf_lc hw hv)
theorem pdn_lc2 (hc : X.calm = true) (hN : X.N.Nodup) (hi : PDI X tg iter fi) (ok : BlkOk X.N X.env.scope scope own) (hwv : ∀ i ∈ vs1, i ∈ own.map (·.2)) (hv : ∀ i ∈ idT t, i ∈ own.map (·.2)) (hv1 : ∀ i ∈ idT t1, i ∈ vs1)
    (hg : ∀ (s : Shared) (H : Hp) (C : Addr) (cl : List (Str × Addr)) (fp : List Addr), PDG (X.blk s H scope (compEnvC scope cl C X.env) fp) tg t) (ht : ∀ (s : Shared) (H : Hp) (C : Addr) (cl : List (Str × Addr)) (fp : List Addr), PDTs (X.blk s H scope (compEnvC scope cl C X.env) fp) ifs tt)
    (hi1 : ∀ (s : Shared) (H : Hp) (C : Addr) (cl : List (Str × Addr)) (fp : List Addr), PDI (X.blk s H scope (compEnvC scope cl C X.env) fp) tg1 iter1 fi1)
    (hg1 : ∀ (s : Shared) (H : Hp) (C : Addr) (cl : List (Str × Addr)) (fp : List Addr), PDG (X.blk s H scope (compEnvC scope cl C X.env) fp) tg1 t1) (ht1 : ∀ (s : Shared) (H : Hp) (C : Addr) (cl : List (Str × Addr)) (fp : List Addr), PDTs (X.blk s H scope (compEnvC scope cl C X.env) fp) ifs1 tt1)
    (he : ∀ (s : Shared) (H : Hp) (C : Addr) (cl : List (Str × Addr)) (fp : List Addr), PD (X.blk s H scope (compEnvC scope cl C X.env) fp) elt te) (hs : ∀ x, foldedSetIterable iter X.env x = pure x := by intro _; rfl) (hs1 : ∀ env x, foldedSetIterable iter1 env x = pure x := by intro _ _; rfl) (hw : isTup tg = true → isTp t = true := by first | exact fun _ => rfl | exact fun h => nomatch (show false = true from h)) (hw1 : isTup tg1 = true → isTp t1 = true := by first | exact fun _ => rfl | exact fun h => nomatch (show false = true from h)) :
    PDN X (.ListComp elt [⟨tg, iter, ifs, 0⟩, ⟨tg1, iter1, ifs1, 0⟩] scope pos) (nLc2 (own.map (·.2)) vs1 t fi tt fi1 t1 tt1 te) := (pe_lc2 hc hN hi ok hwv hg ht hi1 hg1 ht1 he hs hs1).imp (tOf_lc2 hw hw1 hv hv1)
/-- x = [..] on one line, x a plain local: as a list of one's own, or at once as data -/
theorem tOf_asgN {K : PySem.W.Frag} {p i : Nat} {W : Str → Hp → Prop} {f : DL} (D : Ends) (σ : L2.St) (H : Hp) (h : tOfS K p W (sSet (.nm i) (eOfN f)) D σ H) : tAsg (tOfN K f) (gName i) D σ H := tOf_ofN σ H _ (tOf_set (t := .nm i) D σ H h)
theorem pds_setLc {p : Nat} {W : Str → Hp → Prop} {i : Nat} {y : Str} {py spos : Pos} (hc : X.calm = true) (hN : X.N.Nodup) (hy : X.N[i]? = some y) (hyl : X.env.scope.names.lookup y = some .local)
    (hsw : swapsWith (.ListComp elt [⟨tg, iter, ifs, 0⟩] scope pos) (some (.Name y py)) spos.line X.env = pure true) (hi : PDI X tg iter fi) (ok : BlkOk X.N X.env.scope scope own) (hv : ∀ i ∈ idT t, i ∈ own.map (·.2))
    (hg : ∀ (s : Shared) (H : Hp) (C : Addr) (cl : List (Str × Addr)) (fp : List Addr), PDG (X.blk s H scope (compEnvC scope cl C X.env) fp) tg t) (ht : ∀ (s : Shared) (H : Hp) (C : Addr) (cl : List (Str × Addr)) (fp : List Addr), PDTs (X.blk s H scope (compEnvC scope cl C X.env) fp) ifs tt)
    (he : ∀ (s : Shared) (H : Hp) (C : Addr) (cl : List (Str × Addr)) (fp : List Addr), PD (X.blk s H scope (compEnvC scope cl C X.env) fp) elt te) (hs : ∀ x, foldedSetIterable iter X.env x = pure x := by intro _; rfl) (hw : isTup tg = true → isTp t = true := by first | exact fun _ => rfl | exact fun h => nomatch (show false = true from h)) :
    PDS X p W (.Assign [.Name y py] (.ListComp elt [⟨tg, iter, ifs, 0⟩] scope pos) spos) (sSet (.nm i) (eOfN (nLc (own.map (·.2)) t fi tt te))) :=
  ((ps_setLc hc hN hy hyl hsw hi ok hg ht he hs).imp fun D σ H h => tOf_lc hw hv σ H _ (tOf_asgN D σ H h))
end
end MP
namespace MP
open PySem PySem.Spec PyProof.Rows L2 RL
/-! ### defs -/
abbrev FD := List Sl → Sto → Option (PyData × Sto)
/-- n parameters, m names, p lists that are handed in, q lists of its own -/
def fDef (n m p q : Nat) (f : DS) : FD := fun as so => if as.length = n ∧ so.length = p then
    (f (as.map some ++ List.replicate (m - n) none) (so ++ List.replicate q .no)).bind fun r => match r.1 with
      | .rt d => some (d, r.2.take p)
      | .nx _ => some (.none, r.2.take p)
      | _ => none
  else none
def spF (K : PySem.W.Frag) (n : Nat) (G : FD) : Sp := fun vs H Q _ => vs.length = n ∧ ∃ F ow so as d so', RelO K F H ow so ∧ RelS K F ow (vs.map some) (as.map some) ∧ G as so = some (d, so') ∧
  ∀ F' H' v, RelO K F' H' ow so' → Stp ow F H F' H' → Dq K F' v d → Q v H'
section
variable {K : PySem.W.Frag}
theorem body_of {N : List Str} {n p q : Nat} {f : DS} {W : Str → Hp → Prop} (vs : List V) (H : Hp) (Q : VK) (E : XK) (h : spF K n (fDef n N.length p q f) vs H Q E) : tOfS K p W f { nx := fun _ H' => Q .non H', rt := Q } (L2.start N vs) H := by
  obtain ⟨hn, F, ow, so, as, d, so', r0, rs, e, k⟩ := h
  have la : vs.length = as.length := by have := rs.len; simpa using this
  have e : (if as.length = n ∧ so.length = p then _ else none) = some (d, so') := e
  by_cases hc : as.length = n ∧ so.length = p
  · rw [if_pos hc] at e
    obtain ⟨⟨fl, so1⟩, e1, e2⟩ := Option.bind_eq_some_iff.mp e
    have hp : so.length = p := hc.2
    have ho : ow.length = p := by rw [r0.len]; exact hp
    have nn : ∀ a : Addr, some a ∈ ow ++ List.replicate q none ↔ some a ∈ ow := fun a => by
      rw [List.mem_append, List.mem_replicate]
      constructor
      · rintro (h | h)
        · exact h
        · cases h.2
      · exact .inl
    have get1 : ∀ {m : Nat} {a : Addr}, (ow ++ List.replicate q none)[m]? = some (some a) → m < p ∧ ow[m]? = some (some a) := fun {m a} h => by
      by_cases hm : m < p
      · rw [List.getElem?_append_left (by omega)] at h
        exact ⟨hm, h⟩
      · rw [List.getElem?_append_right (by omega)] at h
        rw [List.getElem?_replicate] at h
        split at h <;> cases h
    have r1 : RelO K F H (ow ++ List.replicate q none) (so ++ List.replicate q .no) := by
      refine ⟨r0.sub, by rw [List.length_append, List.length_append, r0.len, List.length_replicate, List.length_replicate], fun m a w ha hw => ?_, fun i j a hi hj => ?_, fun m a ha => r0.old m a (get1 ha).2⟩
      · by_cases hm : m < p
        · rw [List.getElem?_append_left (by omega)] at ha hw
          exact r0.own m a w ha hw
        · rw [List.getElem?_append_right (by omega), List.getElem?_replicate] at hw
          split at hw
          · cases hw
            cases a <;> trivial
          · cases hw
      · exact r0.inj i j a (get1 hi).2 (get1 hj).2
    have rs1 : RelS K F (ow ++ List.replicate q none) (L2.start N vs) (as.map some ++ List.replicate (N.length - n) none) := by
      refine ⟨?_, fun i v s hv hs => ?_⟩
      · unfold L2.start
        rw [List.length_append, List.length_append, List.length_map, List.length_map, List.length_replicate, List.length_replicate, la, hc.1]
      · unfold L2.start at hv
        by_cases hi : i < as.length
        · rw [List.getElem?_append_left (by rw [List.length_map]; omega)] at hv hs
          have q := rs.ats i v s hv hs
          cases s with
          | none => trivial
          | some s =>
            obtain ⟨u, hu, q⟩ := q
            refine ⟨u, hu, ?_⟩
            cases s with
            | d x => exact q
            | s ns => exact q
            | o j =>
              obtain ⟨a, ha, e⟩ := q
              exact ⟨a, by rw [List.getElem?_append_left (List.getElem?_eq_some_iff.mp ha).1]; exact ha, e⟩
            | p j =>
              obtain ⟨a, b, c, z, ha, hb, e⟩ := q
              exact ⟨a, b, c, z, by rw [List.getElem?_append_left (List.getElem?_eq_some_iff.mp ha).1]; exact ha, by rw [List.getElem?_append_left (List.getElem?_eq_some_iff.mp hb).1]; exact hb, e⟩
            | x t => exact sx_ow (fun k _ a ha => by rw [List.getElem?_append_left (List.getElem?_eq_some_iff.mp ha).1]; exact ha) q
        · rw [List.getElem?_append_right (by rw [List.length_map]; omega), List.getElem?_replicate] at hs
          split at hs
          · cases hs; trivial
          · cases hs
    refine ⟨F, _, _, _, fl, so1, r1, rs1, e1, fun F' H' ow' r' s' t' => ?_⟩
    have lt' : ow'.length = p + q := by rw [t'.1, List.length_append, List.length_replicate, ho]
    have same : ∀ m, m < p → ow'[m]? = ow[m]? := fun m hm => by
      rcases t'.2 m with z | ⟨z, _⟩
      · rw [z, List.getElem?_append_left (by omega)]
      · omega
    have r2 : RelO K F' H' ow (so1.take p) := by
      have l1 : so1.length = p + q := by rw [← r'.len]; exact lt'
      refine ⟨r'.sub, by rw [List.length_take, ho, l1]; omega, fun m a w ha hw => ?_, r0.inj, fun m a ha => ?_⟩
      · have hm : m < p := by have := (List.getElem?_eq_some_iff.mp ha).1; omega
        rw [List.getElem?_take_of_lt hm] at hw
        exact r'.own m a w (by rw [same m hm]; exact ha) hw
      · have hm : m < p := by have := (List.getElem?_eq_some_iff.mp ha).1; omega
        exact r'.old m a (by rw [same m hm]; exact ha)
    have s2 : Stp ow F H F' H' := ⟨s'.fz, fun a o h => s'.keep a o (fun z => h ((nn a).mp z)), fun a o h => s'.own a o (fun z => h ((nn a).mp z)), s'.live⟩
    cases fl with
    | nx ρ => cases e2; exact fun σ _ => k F' H' _ r2 s2 .non
    | rt d' => cases e2; exact fun v hv => k F' H' v r2 s2 hv
    | bk ρ => cases e2
    | ct ρ => cases e2
    | ex n => cases e2
  · rw [if_neg hc] at e
    cases e
end
section
variable {P : Program} {w : World} {K : PySem.W.Frag} {mg : Str → Option Value} {base : Heap} {x : Str} {st : Stmt} {N ps : List Str} {k n p q : Nat} {f : DS} {W : Str → Hp → Prop}
theorem mk_cal (D : Df K mg x st) (S : FnScope N ps (defScope st)) (hn : ps.length = n)
    (hb : ∀ (kV doc pm : Value) (an : Option Addr) (cdv ct : Value) (us : List Value), us.length = ps.length → bindArgs (PySem.W.fnOf x x (defArgs st) (defBody st) (defScope st) .none kV doc pm an cdv ct) ⟨us, []⟩ = pure (ps.zip us))
    (h : ∀ (f0 : Addr) (cdv : Value) (A : Around) (outer : List Env) (s : Shared) (H : Hp) (E : XK), Room k (A.deeper (envOfC x (defScope st) s.heap.objs.size f0 cdv)) → PDSs (cxOf CX0 P w K mg base N x (defScope st) f0 cdv A outer s H E).nox p W (defBody st) f) :
    C8.Cal P w K mg base (k + 1) x (spF K n (fDef n N.length p q f)) [] :=
  D.cal S hb (fun vs H Q E h => by rw [hn]; exact h.1) fun f0 cdv A outer s H vs Q E hr hsp => ⟨_, h f0 cdv A outer s H E hr, body_of vs H Q E hsp⟩
/-- where nothing is being shown: for the defs that ask repr -/
structure CalG (P : Program) (w : World) (K : PySem.W.Frag) (mg : Str → Option Value) (base : Heap) (k : Nat) (x : Str) (sp : Sp) : Prop where
  ex : ∃ (f : Addr) (fd : FuncData) (ps : List Str), FnG P w K mg base k f fd ps sp ∧ mg x = some (.ref f) ∧ PySem.W.keepIn K (.ref f) = true ∧ Binds K fd ps []
theorem mk_calG (D : Df K mg x st) (S : FnScope N ps (defScope st)) (hn : ps.length = n)
    (hb : ∀ (kV doc pm : Value) (an : Option Addr) (cdv ct : Value) (us : List Value), us.length = ps.length → bindArgs (PySem.W.fnOf x x (defArgs st) (defBody st) (defScope st) .none kV doc pm an cdv ct) ⟨us, []⟩ = pure (ps.zip us))
    (h : ∀ (f0 : Addr) (cdv : Value) (A : Around) (outer : List Env) (s : Shared) (H : Hp) (E : XK), A.guards = some [] → Room k (A.deeper (envOfC x (defScope st) s.heap.objs.size f0 cdv)) → PDSs (cxOf CX0 P w K mg base N x (defScope st) f0 cdv A outer s H E).nox p W (defBody st) f) :
    CalG P w K mg base (k + 1) x (spF K n (fDef n N.length p q f)) := by
  obtain ⟨f0, fd, F, g⟩ := D.ex
  exact ⟨⟨f0, fd, ps, fnG F S (fun vs H Q E h => by rw [hn]; exact h.1) fun cdv A outer s H vs Q E gd hr hsp => ⟨_, h f0 cdv A outer s H E gd hr, body_of vs H Q E hsp⟩, g, F.kp, F.binds hb⟩⟩
end
/-! ### calls of defs -/
def fCall0 (G : FD) (g : DL) : DE := fun ρ so => (g ρ so).bind fun p => (G (p.1.map .d) []).map fun r => (r.1, p.2)
/-- the first argument is a list of one's own -/
def fCall1 (G : FD) (i : Nat) (g : DL) : DE := fun ρ so => (g ρ so).bind fun p => match ρ[i]? with
  | some (some (.o k)) => match p.2[k]? with
    | some (.lst ds) => (G (.o 0 :: p.1.map .d) [.lst ds]).bind fun r => match r.2 with
      | [w] => some (r.1, p.2.set k w)
      | _ => none
    | _ => none
  | _ => none
/-- the first argument is the script -/
def fCallS (G : FD) (i : Nat) (g : DL) : DE := fun ρ so => (g ρ so).bind fun p => match ρ[i]? with
  | some (some (.s ns)) => (G (.s ns :: p.1.map .d) []).map fun r => (r.1, p.2)
  | _ => none
section
variable {K : PySem.W.Frag}
theorem RelO.none {F H : Hp} {ow : Ads} {so : Sto} (r : RelO K F H ow so) : RelO K F H [] [] := ⟨r.sub, rfl, fun k a w h => by simp at h, fun j k a h => by simp at h, fun k a h => by simp at h⟩
theorem relS_args {F : Hp} {ow : Ads} {vs : List V} {ds : List PyData} (h : DqAll K F vs ds) : RelS K F ow (vs.map some) ((ds.map Sl.d).map some) := by
  refine ⟨by rw [List.length_map, List.length_map, List.length_map, h.len], fun i v s hv hs => ?_⟩
  obtain ⟨u, hu, rfl⟩ := get_map hv
  rw [List.map_map] at hs
  obtain ⟨d, hd, rfl⟩ := get_map hs
  obtain ⟨d', hd', q⟩ := h.get hu
  rw [hd] at hd'
  cases hd'
  exact ⟨u, rfl, q⟩
theorem relS_cons {F : Hp} {ow : Ads} {v : V} {s : Sl} {σ : L2.St} {ρ : Slots} (h : SvOk K F ow v s) (r : RelS K F ow σ ρ) : RelS K F ow (some v :: σ) (some s :: ρ) := by
  refine ⟨by rw [List.length_cons, List.length_cons, r.len], fun i a b ha hb => ?_⟩
  cases i with
  | zero =>
    cases ha
    cases hb
    exact ⟨v, rfl, h⟩
  | succ i => exact r.ats i a b (by simpa using ha) (by simpa using hb)
theorem tOf_call0 {G : FD} {n : Nat} {g : DL} {E : XK} (σ : L2.St) (H : Hp) (Q : VK) (h : tOf K (fCall0 G g) σ H Q) (hn : ∀ ρ so p, g ρ so = some p → p.1.length = n) : tCall (spF K n G) [] E (tOfA K g) σ H Q := by
  obtain ⟨F, ow, ρ, so, d, so', r0, rs, e, k⟩ := h
  obtain ⟨⟨ds, so1⟩, e1, e2⟩ := Option.bind_eq_some_iff.mp e
  obtain ⟨⟨x, so2⟩, e3, e4⟩ := Option.map_eq_some_iff.mp e2
  cases e4
  refine ⟨F, ow, ρ, so, ds, _, r0, rs, e1, fun F1 H1 vs r1 s1 d1 => ?_⟩
  simp only [List.append_nil]
  exact ⟨by rw [d1.len]; exact hn _ _ _ e1, F1, [], [], ds.map .d, x, so2, r1.none, relS_args d1, e3, fun F2 H2 v r2 s2 d2 => k F2 H2 v (r1.grow s2 r2.sub) (s1.trans s2.some_of) d2⟩
theorem tOf_callS {G : FD} {n i : Nat} {g : DL} {E : XK} (σ : L2.St) (H : Hp) (Q : VK) (h : tOf K (fCallS G i g) σ H Q) (hn : ∀ ρ so p, g ρ so = some p → p.1.length + 1 = n) : tCall (spF K n G) [] E (tCons (tVar i) (tOfA K g)) σ H Q := by
  obtain ⟨F, ow, ρ, so, d, so', r0, rs, e, k⟩ := h
  obtain ⟨⟨ds, so1⟩, e1, e2⟩ := Option.bind_eq_some_iff.mp e
  split at e2
  · rename_i ns hi
    obtain ⟨⟨x, so2⟩, e3, e4⟩ := Option.map_eq_some_iff.mp e2
    cases e4
    obtain ⟨v, hv, a, ha, rfl⟩ := rs.get hi
    refine ⟨_, hv, F, ow, ρ, so, ds, _, r0, rs, e1, fun F1 H1 vs r1 s1 d1 => ?_⟩
    simp only [List.append_nil]
    exact ⟨by rw [List.length_cons, d1.len]; exact hn _ _ _ e1, F1, [], [], .s ns :: ds.map .d, x, so2, r1.none, relS_cons ⟨a, s1.fz.seq ha, rfl⟩ (relS_args d1), e3, fun F2 H2 v r2 s2 d2 => k F2 H2 v (r1.grow s2 r2.sub) (s1.trans s2.some_of) d2⟩
  · cases e2
/-- one list of one's own, as it stands alone -/
theorem RelO.one {F H : Hp} {ow : Ads} {so : Sto} {k : Nat} {a : Addr} {w : Own} (r : RelO K F H ow so) (ha : ow[k]? = some (some a)) (hw : so[k]? = some w) : RelO K F H [some a] [w] := by
  refine ⟨r.sub, rfl, fun m b w' hb hw' => ?_, fun i j b hi hj => ?_, fun m b hb => ?_⟩
  · cases m with
    | zero =>
      cases hb
      cases hw'
      exact r.own k _ _ ha hw
    | succ m => simp at hb
  · cases i with
    | zero =>
      cases j with
      | zero => rfl
      | succ j => simp at hj
    | succ i => simp at hi
  · cases m with
    | zero =>
      cases hb
      exact r.old k a ha
    | succ m => simp at hb
/-- .. and put back -/
theorem RelO.back {F H F' H' : Hp} {ow : Ads} {so : Sto} {k : Nat} {a : Addr} {w w' : Own} (r : RelO K F H ow so) (ha : ow[k]? = some (some a)) (hw : so[k]? = some w) (r' : RelO K F' H' [some a] [w']) (s : Stp [some a] F H F' H') :
    RelO K F' H' ow (so.set k w') ∧ Stp ow F H F' H' := by
  have out : ∀ {m : Nat} {b : Addr}, ow[m]? = some (some b) → m ≠ k → some b ∉ [some a] := fun {m b} hb hm z => by
    have : b = a := by simpa using z
    exact hm (r.inj m k a (by rw [← this]; exact hb) ha)
  refine ⟨⟨r'.sub, by rw [List.length_set]; exact r.len, fun m b u hb hu => ?_, r.inj, fun m b hb => s.live b (r.old m b hb)⟩, ⟨s.fz, fun c o n h => s.keep c o (fun z => n ?_) h, fun c o n h => s.own c o (fun z => n ?_) h, s.live⟩⟩
  · rcases get_set hu with ⟨rfl, rfl⟩ | ⟨nm, hu⟩
    · rw [ha] at hb
      cases hb
      exact r'.own 0 _ _ rfl rfl
    · have q := r.own m b u hb hu
      cases u with
      | no => cases b <;> trivial
      | lst es =>
        cases b with
        | none => exact q.elim
        | some b =>
          obtain ⟨fb, us, hu', hd2⟩ := q
          exact ⟨s.own b _ (out hb nm) hu' fb, us, s.keep b _ (out hb nm) hu', dqAll_same s.fz _ _ hd2⟩
      | dct es =>
        cases b with
        | none => exact q.elim
        | some b =>
          obtain ⟨fb, us, hu', hd2⟩ := q
          exact ⟨s.own b _ (out hb nm) hu' fb, us, s.keep b _ (out hb nm) hu', dct_same s.fz hd2⟩
      | x t0 =>
        cases b with
        | none => exact q.elim
        | some b =>
          obtain ⟨fb, us, hu', hd2⟩ := q
          exact ⟨s.own b _ (out hb nm) hu' fb, us, s.keep b _ (out hb nm) hu', xt_same s.fz hd2⟩
      | fz d =>
        cases b with
        | none => exact q.elim
        | some b => exact ⟨s.live b q.1, dq_same s.fz _ _ q.2⟩
  · have : c = a := by simpa using z
    rw [this]
    exact List.mem_of_getElem? ha
  · have : c = a := by simpa using z
    rw [this]
    exact List.mem_of_getElem? ha
/-- the arguments' number -/
theorem aNil_len {ρ : Slots} {so : Sto} {p : List PyData × Sto} (h : aNil ρ so = some p) : p.1.length = 0 := by cases h; rfl
theorem aCons_len {f : DE} {g : DL} {m : Nat} (hg : ∀ ρ so p, g ρ so = some p → p.1.length = m) : ∀ ρ so p, aCons f g ρ so = some p → p.1.length = m + 1 := fun ρ so p h => by
  obtain ⟨x, _, h⟩ := Option.bind_eq_some_iff.mp h
  obtain ⟨y, hy, h⟩ := Option.bind_eq_some_iff.mp h
  cases h
  rw [List.length_cons, hg _ _ _ hy]
end
section
variable {X : Cx} {k j n : Nat} {x y : Str} {G : FD} {p p2 pos : Pos} {e : Expr} {es : List Expr} {g : DL}
theorem pd_call0 (c : C8.Cal X.prog X.w X.K X.mg X.base k x (spF X.K n G) []) (hr : Room j X.A) (hk : k ≤ j) (hg : Gl X x) (ha : PDA X (e :: es) g) (hn : ∀ ρ so p, g ρ so = some p → p.1.length = n)
    (hdb : (x == ("__debug__" : Str)) = false := by decide) (he : starEach (e :: es) X.env = (false, eval e X.env) :: starEach es X.env := by rfl) (hpl : (backTo pos (starEach es X.env)).any (·.1) = false := by rfl) :
    PD X (.Call (.Name x p) (e :: es) [] pos) (fCall0 G g) := (C8.pe_c c hr hk hg ha hdb he hpl).imp fun σ H Q h => tOf_call0 σ H Q h hn
theorem pd_callS {i : Nat} (c : C8.Cal X.prog X.w X.K X.mg X.base k x (spF X.K n G) []) (hr : Room j X.A) (hk : k ≤ j) (hg : Gl X x) (hN : X.N[i]? = some y) (hv : Vis X.env.scope y) (ha : PDA X es g) (hn : ∀ ρ so p, g ρ so = some p → p.1.length + 1 = n)
    (hd : (y == ("__debug__" : Str)) = false := by decide) (hcd : (y == ("__classdict__" : Str)) = false := by decide)
    (hdb : (x == ("__debug__" : Str)) = false := by decide) (he : starEach (.Name y p2 :: es) X.env = (false, eval (.Name y p2) X.env) :: starEach es X.env := by rfl) (hpl : (backTo pos (starEach es X.env)).any (·.1) = false := by rfl) :
    PD X (.Call (.Name x p) (.Name y p2 :: es) [] pos) (fCallS G i g) := (C8.pe_c c hr hk hg (pa_cons (pe_var hN hv hd hcd) ha he) hdb he hpl).imp fun σ H Q h => tOf_callS σ H Q h hn
theorem pe_cG (c : CalG X.prog X.w X.K X.mg X.base k x (spF X.K n G)) (gd : X.A.guards = some []) (hr : Room j X.A) (hk : k ≤ j) (hg : Gl X x) {t : TA} (ha : PA X (e :: es) t)
    (hdb : (x == ("__debug__" : Str)) = false := by decide) (he : starEach (e :: es) X.env = (false, eval e X.env) :: starEach es X.env := by rfl) (hpl : (backTo pos (starEach es X.env)).any (·.1) = false := by rfl) :
    PE X (.Call (.Name x p) (e :: es) [] pos) (tCall (spF X.K n G) [] E0 t) := by
  obtain ⟨f, fd, ps, F, hm, kp, b⟩ := c.ex
  exact pe_callG F gd (hr.mono hk) hg hm kp b ha hdb he hpl
theorem pd_callG0 (c : CalG X.prog X.w X.K X.mg X.base k x (spF X.K n G)) (gd : X.A.guards = some []) (hr : Room j X.A) (hk : k ≤ j) (hg : Gl X x) (ha : PDA X (e :: es) g) (hn : ∀ ρ so p, g ρ so = some p → p.1.length = n)
    (hdb : (x == ("__debug__" : Str)) = false := by decide) (he : starEach (e :: es) X.env = (false, eval e X.env) :: starEach es X.env := by rfl) (hpl : (backTo pos (starEach es X.env)).any (·.1) = false := by rfl) :
    PD X (.Call (.Name x p) (e :: es) [] pos) (fCall0 G g) := (pe_cG c gd hr hk hg ha hdb he hpl).imp fun σ H Q h => tOf_call0 σ H Q h hn
end
/-! ### lists of one's own: items, lengths, more, less -/
/-- the items of the list of one's own in slot i -/
def ownAt (i : Nat) (ρ : Slots) (so : Sto) : Option (Nat × List PyData) := match ρ[i]? with
  | some (some (.o k)) => match so[k]? with
    | some (.lst ds) => some (k, ds)
    | _ => none
  | _ => none
def oIx (i : Nat) (b : DE) : DE := fun ρ so => (b ρ so).bind fun p => (ownAt i ρ p.2).bind fun q => match p.1 with
  | .int j => (atI q.2 j).map fun d => (d, p.2)
  | _ => none
/-- a built-in of the list that hands on a number, a text, a bool -/
def oCall (i : Nat) (g : List PyData → Option PyData) : DE := fun ρ so => (ownAt i ρ so).bind fun q => (g [.list q.2]).bind fun d => (scV d).map fun _ => (d, so)
def oTuple (i : Nat) : DE := fun ρ so => (ownAt i ρ so).map fun q => (.tuple q.2, so)
def oAppend (i : Nat) (f : DE) : DE := fun ρ so => (ownAt i ρ so).bind fun _ => (f ρ so).bind fun p => (ownAt i ρ p.2).bind fun q => if q.2.length < LIM then some (.none, p.2.set q.1 (.lst (q.2 ++ [p.1]))) else none
def oExtend (i : Nat) (f : DL) : DE := fun ρ so => (ownAt i ρ so).bind fun _ => (f ρ so).bind fun p => (ownAt i ρ p.2).bind fun q => if q.2.length + p.1.length ≤ LIM then some (.none, p.2.set q.1 (.lst (q.2 ++ p.1))) else none
def oPop (i : Nat) (f : DE) : DE := fun ρ so => (ownAt i ρ so).bind fun _ => (f ρ so).bind fun p => (ownAt i ρ p.2).bind fun q => match p.1 with
  | .int j => (ixN q.2.length j).bind fun m => (q.2[m]?).bind fun d => if -5000 ≤ j ∧ j ≤ 5000 then some (d, p.2.set q.1 (.lst (q.2.eraseIdx m))) else none
  | _ => none
def sOwn (i : Nat) (b f : DE) : DS := fun ρ so => (f ρ so).bind fun p => (b ρ p.2).bind fun r => (ownAt i ρ r.2).bind fun q => match r.1 with
  | .int j => (ixN q.2.length j).map fun m => (.nx ρ, r.2.set q.1 (.lst (q.2.set m p.1)))
  | _ => none
def oEq (neg : Bool) (i : Nat) (f : DE) : DE := fun ρ so => (f ρ so).bind fun p => (ownAt i ρ p.2).bind fun q => (if neg then dNe (.list q.2) p.1 else dEq (.list q.2) p.1).map fun d => (d, p.2)
section
variable {K : PySem.W.Frag} {F H : Hp} {ow : Ads} {so : Sto} {σ : L2.St} {ρ : Slots}
theorem own_at {i k : Nat} {ds : List PyData} (rs : RelS K F ow σ ρ) (h : ownAt i ρ so = some (k, ds)) : ∃ a, σ[i]? = some (some (.ref a)) ∧ ow[k]? = some (some a) ∧ so[k]? = some (.lst ds) := by
  unfold ownAt at h
  split at h
  · rename_i j hj
    split at h
    · rename_i es he
      cases h
      obtain ⟨v, hv, a, ha, rfl⟩ := rs.get hj
      exact ⟨a, hv, ha, he⟩
    · cases h
  · cases h
theorem own_lst {F' H' : Hp} {so' : Sto} {k : Nat} {a : Addr} {ds : List PyData} (r : RelO K F' H' ow so') (ha : ow[k]? = some (some a)) (h : so'[k]? = some (.lst ds)) : F' a = none ∧ ∃ vs, H' a = some (.lst vs) ∧ DqAll K F' vs ds := r.own k _ _ ha h
/-- the list of one's own is changed -/
theorem RelO.put {k : Nat} {a : Addr} {vs vs' : List V} {ds ds' : List PyData} (r : RelO K F H ow so) (ha : ow[k]? = some (some a)) (h : so[k]? = some (.lst ds)) (hv : H a = some (.lst vs)) (hd : DqAll K F vs' ds') :
    RelO K F (upd H a (.lst vs')) ow (so.set k (.lst ds')) ∧ Stp ow F H F (upd H a (.lst vs')) := by
  obtain ⟨fa, _⟩ := own_lst r ha h
  refine ⟨⟨fun b o hb => ?_, by rw [List.length_set]; exact r.len, fun m b u hb hu => ?_, r.inj, fun m b hb => live_upd (r.old m b hb)⟩, ⟨Same.refl _, fun c o n hc => ?_, fun _ _ _ _ h => h, fun c h => live_upd h⟩⟩
  · rw [upd_ne (ne_of_none hb fa)]
    exact r.sub b o hb
  · rcases get_set hu with ⟨rfl, rfl⟩ | ⟨nm, hu⟩
    · rw [ha] at hb
      cases hb
      exact ⟨fa, vs', upd_same, hd⟩
    · have q := r.own m b u hb hu
      cases u with
      | no => cases b <;> trivial
      | lst es =>
        cases b with
        | none => exact q.elim
        | some b =>
          obtain ⟨fb, us, hu', hd2⟩ := q
          have nb : b ≠ a := fun e => nm (r.inj m k a (by rw [← e]; exact hb) ha)
          exact ⟨fb, us, by rw [upd_ne nb]; exact hu', hd2⟩
      | dct es =>
        cases b with
        | none => exact q.elim
        | some b =>
          obtain ⟨fb, us, hu', hd2⟩ := q
          have nb : b ≠ a := fun e => nm (r.inj m k a (by rw [← e]; exact hb) ha)
          exact ⟨fb, us, by rw [upd_ne nb]; exact hu', hd2⟩
      | x t0 =>
        cases b with
        | none => exact q.elim
        | some b =>
          obtain ⟨fb, us, hu', hd2⟩ := q
          have nb : b ≠ a := fun e => nm (r.inj m k a (by rw [← e]; exact hb) ha)
          exact ⟨fb, us, by rw [upd_ne nb]; exact hu', hd2⟩
      | fz d =>
        cases b with
        | none => exact q.elim
        | some b => exact ⟨live_upd q.1, q.2⟩
  · have nc : c ≠ a := fun e => n (by rw [e]; exact List.mem_of_getElem? ha)
    rw [upd_ne nc]
    exact hc
end
end MP
namespace RL
open PySem PySem.Spec PyProof.Rows L2
/-! ### zip of three tuples -/
def iZip3 (K : PySem.W.Frag) (ta : TA) : TI := fun σ H R => ta σ H fun vs H1 => ∃ a b c x1 x2 x3, vs = [.ref a, .ref b, .ref c] ∧ SqT K H1 a x1 ∧ SqT K H1 b x2 ∧ SqT K H1 c x3 ∧ R (ItzN K [a, b, c]) H1
/-! ### t.count(k), t.index(k) of a tuple of ints -/
section
variable {X : Cx}
def rCntT (K : PySem.W.Frag) : V → List V → Hp → VK → Prop := fun x xs H Q => ∃ (p : Addr) (ns : List Int) (k : Int), x = .ref p ∧ xs = [.int k] ∧ SqT K H p (ns.map V.int) ∧ Q (.int (ns.count k : Nat)) H
/-! ### min of a list of things that are alike, told as its place -/
end
end RL
namespace MP
open PySem PySem.Spec PyProof.Rows L2 RL
/-! ### built-ins -/
def CallD (K : PySem.W.Frag) (r : List V → Hp → VK → Prop) (g : List PyData → Option PyData) : Prop := ∀ (F H : Hp) (vs : List V) (ds : List PyData) (d : PyData) (Q : VK), Same F H → DqAll K F vs ds → g ds = some d →
  (∀ F' H' v, Stp [] F H F' H' → Same F' H' → Dq K F' v d → Q v H') → r vs H Q
def eCall (g : List PyData → Option PyData) (a : DL) : DE := fun ρ so => (a ρ so).bind fun p => (g p.1).map fun d => (d, p.2)
section
variable {K : PySem.W.Frag}
theorem tOf_eCall {r : List V → Hp → VK → Prop} {g : List PyData → Option PyData} {a : DL} (hr : CallD K r g) (σ : L2.St) (H : Hp) (Q : VK) (h : tOf K (eCall g a) σ H Q) : tCB r (tOfA K a) σ H Q := by
  obtain ⟨F, ow, ρ, so, d, so', r0, rs, e, k⟩ := h
  obtain ⟨⟨ds, so1⟩, e1, e2⟩ := Option.bind_eq_some_iff.mp e
  obtain ⟨z, e3, e4⟩ := Option.map_eq_some_iff.mp e2
  cases e4
  exact ⟨F, ow, ρ, so, ds, _, r0, rs, e1, fun F1 H1 vs r1 s1 d1 => hr F1 H1 vs ds _ Q r1.sub d1 e3 fun F2 H2 v s2 e5 d2 => k F2 H2 v (r1.grow s2 e5) (s1.trans s2.some_of) d2⟩
end
section
variable {X : Cx} {x : Str} {p pos : Pos} {e : Expr} {es : List Expr} {a : DL} {id T : String} {r : List V → Hp → VK → Prop} {g : List PyData → Option PyData}
theorem pd_callB (hc : CallR X (.builtin id) r) (hd : CallD X.K r g) (hg : Gl X x) (hm : X.mg x = none) (hv : bootBuiltins x = some (.builtin id)) (ha : PDA X (e :: es) a) (hn : x ≠ "__name__" := by decide) (hdb : (x == ("__debug__" : Str)) = false := by decide)
    (he : starEach (e :: es) X.env = (false, eval e X.env) :: starEach es X.env := by rfl) (hpl : (backTo pos (starEach es X.env)).any (·.1) = false := by rfl) : PD X (.Call (.Name x p) (e :: es) [] pos) (eCall g a) := (pe_callB hc hg hm hv ha hn hdb he hpl).imp (tOf_eCall hd)
theorem pd_callTy (hc : CallR X (.type T) r) (hd : CallD X.K r g) (hg : Gl X x) (hm : X.mg x = none) (hv : bootBuiltins x = some (.type T)) (ha : PDA X (e :: es) a) (hn : x ≠ "__name__" := by decide) (hdb : (x == ("__debug__" : Str)) = false := by decide)
    (he : starEach (e :: es) X.env = (false, eval e X.env) :: starEach es X.env := by rfl) (hpl : (backTo pos (starEach es X.env)).any (·.1) = false := by rfl) : PD X (.Call (.Name x p) (e :: es) [] pos) (eCall g a) := (pe_callTy hc hg hm hv ha hn hdb he hpl).imp (tOf_eCall hd)
end
theorem DqAll.one {K : PySem.W.Frag} {F : Hp} {vs : List V} {d : PyData} (h : DqAll K F vs [d]) : ∃ v, vs = [v] ∧ Dq K F v d := by
  cases h with
  | cons h1 h2 => cases h2; exact ⟨_, rfl, h1⟩
theorem DqAll.two {K : PySem.W.Frag} {F : Hp} {vs : List V} {d e : PyData} (h : DqAll K F vs [d, e]) : ∃ v u, vs = [v, u] ∧ Dq K F v d ∧ Dq K F u e := by
  cases h with
  | cons h1 h2 =>
    cases h2 with
    | cons h3 h4 => cases h4; exact ⟨_, _, rfl, h1, h3⟩
/-! len -/
def gLen : List PyData → Option PyData
  | [.list ds] => some (.int ds.length)
  | [.tuple ds] => some (.int ds.length)
  | [.str x] => if x.length ≤ 1000000 then some (.int x.length) else none
  | _ => none
def rLenU (K : PySem.W.Frag) : List V → Hp → VK → Prop := fun xs H Q => (∃ p ys, xs = [.ref p] ∧ (SqL K H p ys ∨ SqT K H p ys) ∧ Q (.int ys.length) H) ∨ (∃ z, xs = [.str z] ∧ z.length ≤ sizeLine ∧ Q (.int z.length) H)
theorem cr_lenU {X : Cx} : CallR X (.builtin "len") (rLenU X.K) := call_len_seq.or call_len_str
theorem cd_len {X : Cx} : CallD X.K (rLenU X.K) gLen := by
  intro F H vs ds d Q s hv e k
  unfold gLen at e
  split at e
  · cases e
    obtain ⟨v, rfl, h⟩ := hv.one
    obtain ⟨a, xs, rfl, ha, hx⟩ := dq_lst h
    exact .inl ⟨a, xs, rfl, .inl (SqL.of (s _ _ ha)), by rw [hx.len]; exact here k s (.int _)⟩
  · cases e
    obtain ⟨v, rfl, h⟩ := hv.one
    obtain ⟨a, xs, rfl, ha, hx⟩ := dq_tup h
    exact .inl ⟨a, xs, rfl, .inr ((ha.sq s)), by rw [hx.len]; exact here k s (.int _)⟩
  · obtain ⟨hl, rfl⟩ := if_some e
    obtain ⟨v, rfl, h⟩ := hv.one
    cases h
    exact .inr ⟨_, rfl, Nat.le_trans hl (by decide), here k s (.int _)⟩
  · cases e
/-! tuple(..), list(..) -/
def gTuple : List PyData → Option PyData
  | [.list ds] => some (.tuple ds)
  | [.tuple ds] => some (.tuple ds)
  | _ => none
theorem cd_tuple {X : Cx} : CallD X.K (fun xs H Q => ∃ p ys, xs = [.ref p] ∧ ((SqL X.K H p ys ∧ NewT H ys Q) ∨ (SqT X.K H p ys ∧ Q (.ref p) H))) gTuple := by
  intro F H vs ds d Q s hv e k
  unfold gTuple at e
  split at e
  · cases e
    obtain ⟨v, rfl, h⟩ := hv.one
    obtain ⟨a, xs, rfl, ha, hx⟩ := dq_lst h
    exact ⟨a, xs, rfl, .inl ⟨SqL.of (s _ _ ha), fun l ob nl pl => fresh k s nl (new_tup (s.free nl) pl hx)⟩⟩
  · cases e
    obtain ⟨v, rfl, h⟩ := hv.one
    obtain ⟨a, xs, rfl, ha, hx⟩ := dq_tup h
    exact ⟨a, xs, rfl, .inr ⟨(ha.sq s), here k s (.tup ha hx)⟩⟩
  · cases e
def nList (f : DE) : DL := fun ρ so => (f ρ so).bind fun p => (seqOf p.1).map fun ds => (ds, p.2)
theorem tOf_nList {K : PySem.W.Frag} {f : DE} (σ : L2.St) (H : Hp) (Q : VK) (h : tOfN K (nList f) σ H Q) : tCB (fun xs H Q => ∃ p ys, xs = [.ref p] ∧ (SqL K H p ys ∨ SqT K H p ys) ∧ ∀ l, H l = none → Q (.ref l) (upd H l (.lst ys))) (tCons (tOf K f) tNil) σ H Q := by
  obtain ⟨F, ow, ρ, so, ds, so', r0, rs, e, k⟩ := h
  obtain ⟨⟨d, so1⟩, e1, e2⟩ := Option.bind_eq_some_iff.mp e
  obtain ⟨es, e3, e4⟩ := Option.map_eq_some_iff.mp e2
  cases e4
  refine ⟨F, ow, ρ, so, d, _, r0, rs, e1, fun F1 H1 v r1 s1 d1 => ?_⟩
  obtain ⟨p, xs, rfl, hs, ha⟩ := dq_seq d1 e3
  refine ⟨p, xs, rfl, ?_, fun l nl => keepN k r1 s1 ha nl⟩
  rcases hs with ⟨hs, _⟩ | ⟨hs, _⟩
  · exact .inl (SqL.of (r1.sub _ _ hs))
  · exact .inr ((hs.sq r1.sub))
section
variable {X : Cx} {p pos : Pos} {e : Expr} {f : DE}
theorem pdn_list (hg : Gl X "list") (hm : X.mg "list" = none) (ha : PD X e f) (hs : starEach [e] X.env = (false, eval e X.env) :: starEach [] X.env := by rfl) : PDN X (.Call (.Name "list" p) [e] [] pos) (nList f) :=
  (pe_callTy call_list_of hg hm (by decide +kernel) (pa_cons ha pa_nil hs) (by decide) (by decide) hs rfl).imp tOf_nList
end
/-! list(range(n)) -/
def nRange (f : DE) : DL := fun ρ so => (f ρ so).bind fun p => match p.1 with
  | .int n => if 0 ≤ n ∧ n ≤ 5000 then some (rangeD 0 n.toNat, p.2) else none
  | _ => none
theorem rgV_dq {K : PySem.W.Frag} {F : Hp} {n : Int} : DqAll K F (rgV 0 n) (rangeD 0 n.toNat) := by
  unfold rgV rangeD
  rw [Int.sub_zero]
  generalize List.range n.toNat = xs
  induction xs with
  | nil => exact .nil
  | cons x r ih => exact .cons (.int _) ih
theorem tOf_nRange {K : PySem.W.Frag} {f : DE} (σ : L2.St) (H : Hp) (Q : VK) (h : tOfN K (nRange f) σ H Q) : tLstRg (tRg1 (tOf K f)) σ H Q := by
  obtain ⟨F, ow, ρ, so, ds, so', r0, rs, e, k⟩ := h
  obtain ⟨⟨d, so1⟩, e1, e2⟩ := Option.bind_eq_some_iff.mp e
  refine ⟨F, ow, ρ, so, d, so1, r0, rs, e1, fun F1 H1 v r1 s1 d1 => ?_⟩
  split at e2
  · rename_i n hn
    replace hn : d = .int n := hn
    subst hn
    obtain ⟨hc, e3⟩ := if_some e2
    cases e3
    exact ⟨n, dq_int d1, RgOk.of_le (by omega) (by omega) (by omega) (by omega), fun q nq => keepN k r1 s1 rgV_dq nq⟩
  · cases e2
section
variable {X : Cx} {p p2 pos pos2 : Pos} {e : Expr} {f : DE}
theorem pdn_listRange (hc : X.calm = true) (hg : Gl X "list") (hm : X.mg "list" = none) (hg2 : Gl X "range") (hm2 : X.mg "range" = none) (ha : PD X e f) (hs : starEach [e] X.env = (false, eval e X.env) :: starEach [] X.env := by rfl)
    (hs2 : starEach [.Call (.Name "range" p2) [e] [] pos2] X.env = (false, eval (.Call (.Name "range" p2) [e] [] pos2) X.env) :: starEach [] X.env := by rfl) : PDN X (.Call (.Name "list" p) [.Call (.Name "range" p2) [e] [] pos2] [] pos) (nRange f) :=
  (pe_listRg hc hg hm (prg_1 hg2 hm2 ha hs) hs2).imp tOf_nRange
end
/-! sum -/
def gSum : List PyData → Option PyData
  | [.list ds] => (intsOf ds).map fun ns => .int ns.sum
  | [.tuple ds] => (intsOf ds).map fun ns => .int ns.sum
  | _ => none
def rSumU (K : PySem.W.Frag) : List V → Hp → VK → Prop := fun vs H Q => ∃ (a : Addr) (ns : List Int), vs = [V.ref a] ∧ (SqL K H a (ns.map V.int) ∨ SqT K H a (ns.map V.int)) ∧ Q (.int ns.sum) H
theorem sum_rawT {prog : Program} {w : World} {A : Around} {E : Value → Shared → Prop} {s : Shared} {l : Addr} {its : List Value} {ns : List Int} {Q : Value → Shared → Prop} (hh : A.handled = none) (hl : s.heap.IsTuple l its.toArray) (hi : IntsAre its ns)
    (h : ∀ h' tk t', (∀ b o, s.heap.get? b = some o → h'.get? b = some o) → Q (.int ns.sum t') { s with heap := h', toks := tk }) : wpAny (model prog w) A (call (.builtin "sum") [.ref l]) Q E s := by
  obtain ⟨xs, e⟩ := hi.allInts.items
  have hn : numsOf (intItems xs).toList = ns := by rw [← e]; exact hi.numsOf
  rw [nums_intItems] at hn
  rw [e] at hl
  have hlt : l < s.heap.objs.size := by obtain ⟨_, e, _⟩ := hl; exact Heap.lt_size e
  refine call_sum_walkG (wpAny_pyIter_tuple hl ?_)
  refine ⟨_, _, _, _, _, _, PySem.numAt xs, rfl, Walks.tuple (A := A.in1) hh _ l (Nat.ne_of_lt hlt) (intItems xs), ⟨⟨_, Heap.get?_push_size _ rfl, rfl, rfl⟩, hl.push _⟩, (fun b hb => ?_), (fun _ _ => intItems_at), fun h' tk t' hk => ?_⟩
  · show b < (s.heap.push _).objs.size
    rw [Heap.size_push]
    rcases List.mem_cons.mp hb with rfl | hb
    · exact Nat.lt_succ_self _
    · rcases List.mem_cons.mp hb with rfl | hb
      · exact Nat.lt_succ_of_lt hlt
      · cases hb
  · have := h h' tk t' (fun b o eo => hk b o (fun hm => absurd (Heap.lt_size eo) ((List.mem_singleton.mp hm) ▸ Nat.lt_irrefl _)) (Heap.get?_push_of_some _ eo))
    rw [preSum_eq, List.take_of_length_le (by simp [intItems]), hn]
    exact this
theorem cr_sumU {X : Cx} (hc : X.calm = true) : CallR X (.builtin "sum") (rSumU X.K) := by
  intro pins s σ H vs us Q I r h
  obtain ⟨a, ns, rfl, hs, q⟩ := h
  rcases hs with hs | hs
  · exact cr_sum hc pins s σ H _ us Q I r ⟨a, ns, rfl, hs, q⟩
  · obtain ⟨its, rv, hl, _⟩ := I.tuple hs
    rw [Vals.ref1 r]
    exact sum_rawT (I.ok.hd hc) hl rv.ints fun h' tk t' hk => ⟨.int _, H, I.kept hk, ⟨_, rfl⟩, q⟩
theorem cd_sum {X : Cx} : CallD X.K (rSumU X.K) gSum := by
  intro F H vs ds d Q s hv e k
  unfold gSum at e
  split at e
  · obtain ⟨ns, h1, rfl⟩ := Option.map_eq_some_iff.mp e
    obtain ⟨v, rfl, h⟩ := hv.one
    obtain ⟨a, xs, rfl, ha, hx⟩ := dq_lst h
    rw [intsOf_eq h1] at hx
    rw [dqInts hx] at ha
    exact ⟨a, ns, rfl, .inl (SqL.of (s _ _ ha)), here k s (.int _)⟩
  · obtain ⟨ns, h1, rfl⟩ := Option.map_eq_some_iff.mp e
    obtain ⟨v, rfl, h⟩ := hv.one
    obtain ⟨a, xs, rfl, ha, hx⟩ := dq_tup h
    rw [intsOf_eq h1] at hx
    rw [dqInts hx] at ha
    exact ⟨a, ns, rfl, .inr ((ha.sq s)), here k s (.int _)⟩
  · cases e
/-! max, min -/
def gMax : List PyData → Option PyData
  | [.int a, .int b] => some (.int (if b > a then b else a))
  | [d] => (seqOf d).bind fun ds => (intsOf ds).bind fun ns => match ns with
    | [] => none
    | n :: r => some (.int (r.foldl max n))
  | _ => none
def rMaxU (K : PySem.W.Frag) : List V → Hp → VK → Prop := fun xs H Q => (∃ i j, xs = [.int i, .int j] ∧ Q (.int (if j > i then j else i)) H) ∨ rMaxD K xs H Q
theorem cr_maxU {X : Cx} (hc : X.calm = true) (hu : X.A.units + 64 < cLine) : CallR X (.builtin "max") (rMaxU X.K) := (call_max2 hc).or (cr_maxD hc hu)
theorem cd_max {X : Cx} : CallD X.K (rMaxU X.K) gMax := by
  intro F H vs ds d Q s hv e k
  unfold gMax at e
  split at e
  · cases e
    obtain ⟨v, u, rfl, h1, h2⟩ := hv.two
    cases h1
    cases h2
    exact .inl ⟨_, _, rfl, here k s (.int _)⟩
  · obtain ⟨es, e1, e2⟩ := Option.bind_eq_some_iff.mp e
    obtain ⟨ns, e3, e4⟩ := Option.bind_eq_some_iff.mp e2
    obtain ⟨v, rfl, h⟩ := hv.one
    cases ns with
    | nil => cases e4
    | cons n r =>
      cases e4
      obtain ⟨p, xs, rfl, hs, ha⟩ := dq_seq h e1
      rw [intsOf_eq e3] at ha
      rw [dqInts ha] at hs
      refine .inr ⟨p, n, r, rfl, ?_, here k s (.int _)⟩
      rcases hs with ⟨hs, _⟩ | ⟨hs, _⟩
      · exact .inr (SqL.of (s _ _ hs))
      · exact .inl ((hs.sq s))
  · cases e
def gMin : List PyData → Option PyData
  | [.int a, .int b] => some (.int (if b < a then b else a))
  | [d] => (seqOf d).bind fun ds => (intsOf ds).bind fun ns => match ns with
    | [] => none
    | n :: r => some (.int (r.foldl min n))
  | _ => none
end MP
namespace MP
open PySem PySem.Spec PyProof.Rows L2 RL
/-! ### isinstance -/
def isA : String → PyData → Option Bool
  | "int", d => some d.isInt
  | "str", d => some d.isStr
  | "tuple", d => some d.isTuple
  | "list", d => some d.isList
  | "bool", d => some d.isBool
  | _, _ => none
def eIsi (T : String) (f : DE) : DE := fun ρ so => (f ρ so).bind fun p => (isA T p.1).map fun b => (.bool b, p.2)
/-- what the type of a value is told by -/
inductive TopR (h : Heap) : Value → PyData → Prop
  | none : TopR h .none .none
  | bool (b : Bool) : TopR h (.bool b) (.bool b)
  | int (i : Int) (t : Tok) : TopR h (.int i t) (.int i)
  | str (x : Str) (t : Tok) : TopR h (.str x t) (.str x)
  | list {a : Addr} {o : Obj} {ds : List PyData} : h.get? a = some o → o.cls = .type "list" → TopR h (.ref a) (.list ds)
  | tuple {a : Addr} {o : Obj} {ds : List PyData} : h.get? a = some o → o.cls = .type "tuple" → TopR h (.ref a) (.tuple ds)
  | dict {a : Addr} {o : Obj} {kvs : List (PyData × PyData)} : h.get? a = some o → o.cls = .type "dict" → TopR h (.ref a) (.dict kvs)
theorem dq_top {X : Cx} {pins : List (Addr × Obj)} {σ : L2.St} {H : Hp} {s : Shared} (I : Inv X pins σ H s) {x : V} {u : Value} {d : PyData} (h : Dq X.K H x d) (r : RelV x u) : TopR s.heap u d ∨ ∃ a C dx fs cls kvs, x = .ref a ∧ d = .dict kvs ∧ H a = some (.ins C dx fs) ∧ InsK X.K cls C := by
  cases h with
  | non => cases r; exact .inl .none
  | bl b => cases r; exact .inl (.bool b)
  | int i => obtain ⟨t, rfl⟩ := r; exact .inl (.int i t)
  | str y => obtain ⟨t, rfl⟩ := r; exact .inl (.str y t)
  | lst hs ha =>
    cases r
    obtain ⟨its, rv, ⟨o, n, ho, hc, _, hd⟩, _⟩ := I.list (SqL.of hs)
    exact .inl (.list ho hc)
  | tup hs ha =>
    cases r
    obtain ⟨its, rv, ⟨o, ho, hc, n, hd⟩, _⟩ := I.tuple (hs.sq (Same.refl _))
    exact .inl (.tuple ho hc)
  | dct ho =>
    cases ho with
    | nil h =>
      cases r
      obtain ⟨_, _, vs, r, o, es, ep, ho, ⟨hc, _⟩, _⟩ := I.hok _ _ h
      exact .inl (.dict ho hc)
    | one h _ =>
      cases r
      obtain ⟨_, _, vs, r, o, es, ep, ho, ⟨hc, _⟩, _⟩ := I.hok _ _ h
      exact .inl (.dict ho hc)
    | ins h k => exact .inr ⟨_, _, _, _, _, _, rfl, rfl, h, k⟩
    | inu h k => exact .inr ⟨_, _, _, _, _, _, rfl, rfl, h, k⟩
theorem isi_top {prog : Program} {w : World} {A : Around} {E : Value → Shared → Prop} {s : Shared} {Q : Value → Shared → Prop} {T : String} {v : Value} {d : PyData} {b : Bool} (r : TopR s.heap v d) (hb : isA T d = some b) (k : ∀ tk, Q (.bool b) { s with toks := tk }) :
    wpAny (model prog w) A (call (.builtin "isinstance") [v, .type T]) Q E s := by
  unfold isA at hb
  split at hb <;> cases hb
  · cases r with
    | none => exact PySem.IsiPair.NoneType_int (k _)
    | bool b => exact PySem.IsiPair.bool_int (k s.toks)
    | int i t => exact PySem.IsiPair.int_int (k s.toks)
    | str x t => exact PySem.IsiPair.str_int (k _)
    | list h1 h2 => exact PySem.IsiPair.list_int h1 h2 (k _)
    | tuple h1 h2 => exact PySem.IsiPair.tuple_int h1 h2 (k _)
    | dict h1 h2 => exact PySem.IsiPair.dict_int h1 h2 (k _)
  · cases r with
    | none => exact PySem.IsiPair.NoneType_str (k _)
    | bool b => exact PySem.IsiPair.bool_str (k _)
    | int i t => exact PySem.IsiPair.int_str (k _)
    | str x t => exact PySem.IsiPair.str_str (k s.toks)
    | list h1 h2 => exact PySem.IsiPair.list_str h1 h2 (k _)
    | tuple h1 h2 => exact PySem.IsiPair.tuple_str h1 h2 (k _)
    | dict h1 h2 => exact PySem.IsiPair.dict_str h1 h2 (k _)
  · cases r with
    | none => exact PySem.IsiPair.NoneType_tuple (k _)
    | bool b => exact PySem.IsiPair.bool_tuple (k _)
    | int i t => exact PySem.IsiPair.int_tuple (k _)
    | str x t => exact PySem.IsiPair.str_tuple (k _)
    | list h1 h2 => exact PySem.IsiPair.list_tuple h1 h2 (k _)
    | tuple h1 h2 => exact PySem.IsiPair.tuple_tuple h1 h2 (k s.toks)
    | dict h1 h2 => exact PySem.IsiPair.dict_tuple h1 h2 (k _)
  · cases r with
    | none => exact PySem.IsiPair.NoneType_list (k _)
    | bool b => exact PySem.IsiPair.bool_list (k _)
    | int i t => exact PySem.IsiPair.int_list (k _)
    | str x t => exact PySem.IsiPair.str_list (k _)
    | list h1 h2 => exact PySem.IsiPair.list_list h1 h2 (k s.toks)
    | tuple h1 h2 => exact PySem.IsiPair.tuple_list h1 h2 (k _)
    | dict h1 h2 => exact PySem.IsiPair.dict_list h1 h2 (k _)
  · cases r with
    | none => exact PySem.IsiPair.NoneType_bool (k _)
    | bool b => exact PySem.IsiPair.bool_bool (k s.toks)
    | int i t => exact PySem.IsiPair.int_bool (k _)
    | str x t => exact PySem.IsiPair.str_bool (k _)
    | list h1 h2 => exact PySem.IsiPair.list_bool h1 h2 (k _)
    | tuple h1 h2 => exact PySem.IsiPair.tuple_bool h1 h2 (k _)
    | dict h1 h2 => exact PySem.IsiPair.dict_bool h1 h2 (k _)
def rIsiD (K : PySem.W.Frag) (T : String) : List V → Hp → VK → Prop := fun xs H Q => ∃ x d b, xs = [x, .ty T] ∧ Dq K H x d ∧ isA T d = some b ∧ Q (.bl b) H
theorem cr_isiD {X : Cx} {T : String} : CallR X (.builtin "isinstance") (rIsiD X.K T) := by
  intro pins s σ H xs us Q I r h
  obtain ⟨x, d, b, rfl, hd, hb, q⟩ := h
  obtain ⟨u, w, rfl, r1, r2⟩ := vals2 r
  cases r2
  rcases dq_top I hd r1 with rd | ⟨a, C, dx, fs, cls, kvs, rfl, rfl, hi, k⟩
  · exact isi_top rd hb fun tk => ⟨.bl _, H, I.tok _, rfl, q⟩
  · have hT : T ∈ (["int", "str", "tuple", "list", "bool"] : List String) ∧ b = false := by
      unfold isA at hb
      split at hb <;> cases hb <;> exact ⟨by decide, rfl⟩
    obtain ⟨hT, rfl⟩ := hT
    exact isinst_ok I r1 (.ins hi k.cl k.ha k.hn k.htk k.hm) (k.ty T hT) fun tk => ⟨.bl _, H, I.tok _, rfl, q⟩
theorem tOf_isi {K : PySem.W.Frag} {T : String} {f : DE} (σ : L2.St) (H : Hp) (Q : VK) (h : tOf K (eIsi T f) σ H Q) : tCB (rIsiD K T) (tCons (tOf K f) (tCons (tC (.ty T)) tNil)) σ H Q := by
  obtain ⟨F, ow, ρ, so, d, so', r0, rs, e, k⟩ := h
  obtain ⟨⟨x, so1⟩, e1, e2⟩ := Option.bind_eq_some_iff.mp e
  obtain ⟨b, e3, e4⟩ := Option.map_eq_some_iff.mp e2
  cases e4
  exact ⟨F, ow, ρ, so, x, _, r0, rs, e1, fun F1 H1 v r1 s1 d1 => ⟨v, x, b, rfl, dq_same r1.sub _ _ d1, e3, k F1 H1 _ r1 s1 (.bl _)⟩⟩
section
variable {X : Cx} {p p2 pos : Pos} {e : Expr} {f : DE} {t : Str} {T : String}
theorem pd_isi (hg : Gl X "isinstance") (hm : X.mg "isinstance" = none) (hg2 : Gl X t) (hm2 : X.mg t = none) (hv2 : bootBuiltins t = some (.type T)) (ha : PD X e f) (hn2 : t ≠ "__name__" := by decide) (hd2 : (t == ("__debug__" : Str)) = false := by decide)
    (hs : starEach [e, .Name t p2] X.env = (false, eval e X.env) :: starEach [.Name t p2] X.env := by rfl) (hs2 : starEach [.Name t p2] X.env = (false, eval (.Name t p2) X.env) :: starEach [] X.env := by rfl) (hpl : (backTo pos (starEach [.Name t p2] X.env)).any (·.1) = false := by rfl) :
    PD X (.Call (.Name "isinstance" p) [e, .Name t p2] [] pos) (eIsi T f) :=
  (pe_callB cr_isiD hg hm (by decide +kernel) (pa_cons ha (pa_cons (pe_bltn (v := .ty T) hg2 hm2 hv2 rfl hn2 hd2) pa_nil hs2) hs) (by decide) (by decide) hs hpl).imp tOf_isi
end
/-! ### any, all -/
def fits63b : PyData → Bool
  | .str x => decide (x.length < 2 ^ 60)
  | .list xs => decide (xs.length < 2 ^ 60)
  | .tuple xs => decide (xs.length < 2 ^ 60)
  | _ => true
theorem fits63_of {d : PyData} (h : fits63b d = true) : d.fits63 := by
  cases d <;> first
    | trivial
    | (have := of_decide_eq_true (show decide _ = true from h); simp only [PyData.fits63]; omega)
theorem seq_nod {d : PyData} {es : List PyData} (e : seqOf d = some es) (h : PyData.hasDictAll es = false) : d.hasDict = false := by
  cases d <;> cases e <;> simpa [PyData.hasDict] using h
def gAll : List PyData → Option PyData
  | [d] => (seqOf d).bind fun ds => if PyData.plainAll ds && ds.all fits63b then some (.bool (ds.all PyData.truthy)) else none
  | _ => none
def rAnyD (K : PySem.W.Frag) (f : List PyData → Bool) : List V → Hp → VK → Prop := fun vs H Q => ∃ v d ds, vs = [v] ∧ Dp K H v d ∧ seqOf d = some ds ∧ PyData.plainAll ds = true ∧ ds.all fits63b = true ∧ Q (.bl (f ds)) H
theorem cr_allD {X : Cx} (hc : X.calm = true) : CallR X (.builtin "all") (rAnyD X.K fun ds => ds.all PyData.truthy) := by
  intro pins s σ H vs us Q I r h
  obtain ⟨v, d, ds, rfl, hd, e, hp, hf, q⟩ := h
  obtain ⟨u, rfl, ru⟩ := vals1 r
  obtain ⟨as, rd⟩ := Dp.reads I d v u hd ru
  have hf' : ∀ x ∈ ds, x.fits63 := fun x hx => fits63_of (List.all_eq_true.mp hf x hx)
  have fin : ∀ h' tk, (∀ b o, s.heap.get? b = some o → h'.get? b = some o) → EP X pins σ Q (.bool (ds.all PyData.truthy)) { s with heap := h', toks := tk } := fun h' tk hk => ⟨.bl _, H, I.kept hk, rfl, q⟩
  cases rd with
  | list h1 h2 h3 h4 => cases e; exact PySem.W.all_list_data (I.ok.hd hc) ⟨_, h1, h2, _, h3⟩ h4 hp hf' fin
  | tuple h1 h2 h3 h4 => cases e; exact PySem.W.all_tuple_data (I.ok.hd hc) ⟨_, h1, h2, _, h3⟩ h4 hp hf' fin
  | _ => cases e
theorem cd_all {X : Cx} : CallD X.K (rAnyD X.K fun ds => ds.all PyData.truthy) gAll := by
  intro F H vs ds d Q s hv e k
  unfold gAll at e
  split at e
  · obtain ⟨es, e1, e2⟩ := Option.bind_eq_some_iff.mp e
    obtain ⟨hc, rfl⟩ := if_some e2
    rw [Bool.and_eq_true] at hc
    obtain ⟨v, rfl, h⟩ := hv.one
    exact ⟨v, _, es, rfl, dq_dp _ _ (seq_nod e1 (nods_plain _ hc.1)) (dq_same s _ _ h), e1, hc.1, hc.2, here k s (.bl _)⟩
  · cases e
/-! ### repr, str, int -/
def isShown : PyData → Bool
  | .dict _ => false
  | _ => true
theorem isShown_of {d : PyData} (h : isDisplay d = true) : isShown d = true := by cases d <;> first | rfl | cases h
def fitsB (d : PyData) : Bool := isShown d && d.showable && !d.hasDict && decide (d.depth ≤ 50) && decide (d.shown.length ≤ 16000000)
theorem fits_B {d : PyData} (h1 : isDisplay d = true) (h2 : plainD d = true) (h3 : d.depth ≤ 50) (h4 : wt d ≤ 1000000) : fitsB d = true := by
  have f := Fits.of h1 h2 h3 h4
  unfold fitsB
  have h5 := Nat.le_trans (shown_le d h2) h4
  rw [isShown_of f.disp, f.sh, f.nd, decide_eq_true f.dp, decide_eq_true (by omega)]
  rfl
def gInt : List PyData → Option PyData
  | [.int i] => some (.int i)
  | [.bool b] => some (.int (if b then 1 else 0))
  | _ => none
/-! ### parts of lists and tuples -/
abbrev DO := Slots → Sto → Option (Option Int × Sto)
def oNo : DO := fun _ so => some (none, so)
def oSome (f : DE) : DO := fun ρ so => (f ρ so).bind fun p => match p.1 with
  | .int i => some (some i, p.2)
  | _ => none
def tOfO (K : PySem.W.Frag) (f : DO) : TO := fun σ H Q => ∃ F ow ρ so d so', RelO K F H ow so ∧ RelS K F ow σ ρ ∧ f ρ so = some (d, so') ∧ ∀ F' H', RelO K F' H' ow so' → Stp ow F H F' H' → Q d H'
abbrev PDO (X : Cx) (e : Option Expr) (f : DO) : Prop := PO X e (tOfO X.K f)
theorem _root_.L2.PO.imp {X : Cx} {e : Option Expr} {t t' : TO} (h : PO X e t) (i : ∀ σ H Q, t' σ H Q → t σ H Q) : PO X e t' := ⟨fun pins s σ H Q I q => h.run pins s σ H Q I (i σ H Q q)⟩
section
variable {X : Cx} {e : Expr} {f : DE}
theorem pdo_none : PDO X none oNo := po_none.imp fun σ H Q h => by
  obtain ⟨F, ow, ρ, so, d, so', r0, rs, e, k⟩ := h
  cases e
  exact k F H r0 (Stp.refl _ _ _)
theorem pdo_some (h : PD X e f) : PDO X (some e) (oSome f) := (po_some h).imp fun σ H Q h => by
  obtain ⟨F, ow, ρ, so, d, so', r0, rs, e, k⟩ := h
  obtain ⟨⟨x, so1⟩, e1, e2⟩ := Option.bind_eq_some_iff.mp e
  refine ⟨F, ow, ρ, so, x, so1, r0, rs, e1, fun F1 H1 v r1 s1 d1 => ?_⟩
  split at e2
  · rename_i i hi
    cases e2
    replace hi : x = .int i := hi
    subst hi
    exact ⟨i, dq_int d1, k F1 H1 r1 s1⟩
  · cases e2
end
def cutD (xs : List PyData) (lo hi : Option Int) : List PyData := (xs.drop (HT.sIx xs.length 0 lo)).take (HT.sIx xs.length xs.length hi - HT.sIx xs.length 0 lo)
def dSl (d : PyData) (lo hi : Option Int) : Option PyData := match d with
  | .list xs => some (.list (cutD xs lo hi))
  | .tuple xs => some (.tuple (cutD xs lo hi))
  | _ => none
def eSl (f : DE) (lo hi : DO) : DE := fun ρ so => (f ρ so).bind fun p => (lo ρ p.2).bind fun q => (hi ρ q.2).bind fun r => (dSl p.1 q.1 r.1).map fun d => (d, r.2)
theorem cut_dq {K : PySem.W.Frag} {F : Hp} {vs : List V} {ds : List PyData} (h : DqAll K F vs ds) (lo hi : Option Int) : DqAll K F (cutV vs lo hi) (cutD ds lo hi) := by
  unfold cutV cutD
  rw [h.len]
  exact (h.drop _).take _
theorem cutV_whole {vs : List V} {lo hi : Option Int} (h : HT.sIx vs.length 0 lo = 0 ∧ HT.sIx vs.length vs.length hi = vs.length) : cutV vs lo hi = vs := by
  unfold cutV
  rw [h.1, h.2]
  simp
theorem tOf_sl {K : PySem.W.Frag} {f : DE} {lo hi : DO} (σ : L2.St) (H : Hp) (Q : VK) (h : tOf K (eSl f lo hi) σ H Q) : tSl (fun x lo hi H Q => rSlL K x lo hi H Q ∨ rSlP K x lo hi H Q) (tOf K f) (tOfO K lo) (tOfO K hi) σ H Q := by
  obtain ⟨F, ow, ρ, so, d, so', r0, rs, e, k⟩ := h
  obtain ⟨⟨x, so1⟩, e1, e⟩ := Option.bind_eq_some_iff.mp e
  obtain ⟨⟨l, so2⟩, e2, e⟩ := Option.bind_eq_some_iff.mp e
  obtain ⟨⟨u, so3⟩, e3, e⟩ := Option.bind_eq_some_iff.mp e
  obtain ⟨z, e4, e⟩ := Option.map_eq_some_iff.mp e
  cases e
  refine ⟨F, ow, ρ, so, x, so1, r0, rs, e1, fun F1 H1 v r1 s1 d1 => ⟨F1, ow, ρ, so1, l, so2, r1, rs.mono s1.fz, e2, fun F2 H2 r2 s2 => ⟨F2, ow, ρ, so2, u, _, r2, (rs.mono s1.fz).mono s2.fz, e3, fun F3 H3 r3 s3 => ?_⟩⟩⟩
  have s03 := s1.trans (s2.trans s3)
  have dx := dq_same (s2.fz.trans s3.fz) _ _ d1
  have kk : ∀ F' H' v, Stp [] F3 H3 F' H' → Same F' H' → Dq K F' v _ → Q v H' := fun F' H' v s e d => k F' H' v (r3.grow s e) (s03.trans s.some_of) d
  cases x with
  | list xs =>
    cases e4
    obtain ⟨a, vs, rfl, ha, hv⟩ := dq_lst dx
    exact .inl ⟨a, vs, rfl, SqL.of (r3.sub _ _ ha), fun p np => fresh kk r3.sub np (new_lst (r3.sub.free np) (cut_dq hv _ _))⟩
  | tuple xs =>
    cases e4
    obtain ⟨a, vs, rfl, ha, hv⟩ := dq_tup dx
    refine .inr ⟨a, vs, rfl, (ha.sq r3.sub), fun w => ?_, fun _ p ob np pl => fresh kk r3.sub np (new_tup (r3.sub.free np) pl (cut_dq hv _ _))⟩
    have := cut_dq hv l u
    rw [cutV_whole w] at this
    exact here kk r3.sub (.tup ha this)
  | _ => cases e4
theorem pd_sl {X : Cx} {e : Expr} {lo hi : Option Expr} {f : DE} {l h : DO} {pos p2 : Pos} (he : PD X e f) (hl : PDO X lo l) (hh : PDO X hi h) : PD X (.Subscript e (.Slice lo hi none p2) pos) (eSl f l h) := (pe_slice (sl_list.or sl_tupP) he hl hh).imp tOf_sl
/-! ### lists of one's own, the rest -/
section
variable {K : PySem.W.Frag}
theorem tOf_oTuple {i : Nat} (σ : L2.St) (H : Hp) (Q : VK) (h : tOf K (oTuple i) σ H Q) : tCB (fun xs H Q => ∃ p ys, xs = [.ref p] ∧ ((SqL K H p ys ∧ NewT H ys Q) ∨ (SqT K H p ys ∧ Q (.ref p) H))) (tCons (tVar i) tNil) σ H Q := by
  obtain ⟨F, ow, ρ, so, d, so', r0, rs, e, k⟩ := h
  obtain ⟨⟨j, ds⟩, e1, e2⟩ := Option.map_eq_some_iff.mp e
  cases e2
  obtain ⟨a, hv, ha, hj⟩ := own_at rs e1
  obtain ⟨fa, vs, hvs, hd⟩ := own_lst r0 ha hj
  exact ⟨_, hv, a, vs, rfl, .inl ⟨SqL.of hvs, fun l ob nl pl => k _ _ _ (r0.grow (Stp.new nl r0.sub) (same_upd r0.sub)) (Stp.new nl r0.sub).some_of (new_tup (r0.sub.free nl) pl hd)⟩⟩
theorem tOf_oAppend {i : Nat} {f : DE} (σ : L2.St) (H : Hp) (Q : VK) (h : tOf K (oAppend i f) σ H Q) : tBM K "list" rAppend (tVar i) (tCons (tOf K f) tNil) σ H Q := by
  obtain ⟨F, ow, ρ, so, d, so', r0, rs, e, k⟩ := h
  obtain ⟨⟨j0, ds0⟩, e0, e⟩ := Option.bind_eq_some_iff.mp e
  obtain ⟨⟨x, so1⟩, e1, e2⟩ := Option.bind_eq_some_iff.mp e
  obtain ⟨⟨j, ds⟩, e3, e4⟩ := Option.bind_eq_some_iff.mp e2
  obtain ⟨hl, e5⟩ := if_some e4
  cases e5
  obtain ⟨a0, hv0, ha0, hj0⟩ := own_at rs e0
  obtain ⟨_, vs0, hvs0, _⟩ := own_lst r0 ha0 hj0
  obtain ⟨a, hv, ha, hj⟩ := own_at rs e3
  rw [hv] at hv0
  cases hv0
  refine ⟨_, hv, .inl ⟨rfl, _, SqL.of hvs0⟩, F, ow, ρ, so, x, so1, r0, rs, e1, fun F1 H1 v r1 s1 d1 => ?_⟩
  obtain ⟨fa, vs, hvs, hd⟩ := own_lst r1 ha hj
  obtain ⟨p1, p2⟩ := r1.put ha hj hvs (hd.app (.cons d1 .nil))
  exact ⟨_, vs, v, rfl, rfl, hvs, by rw [hd.len]; exact lim_lt (Nat.le_of_lt hl), k F1 _ _ p1 (s1.trans p2) .non⟩
theorem tOf_oExtend {i : Nat} {f : DL} (σ : L2.St) (H : Hp) (Q : VK) (h : tOf K (oExtend i f) σ H Q) : tBM K "list" rExtend (tVar i) (tCons (tOfN K f) tNil) σ H Q := by
  obtain ⟨F, ow, ρ, so, d, so', r0, rs, e, k⟩ := h
  obtain ⟨⟨j0, ds0⟩, e0, e⟩ := Option.bind_eq_some_iff.mp e
  obtain ⟨⟨x, so1⟩, e1, e2⟩ := Option.bind_eq_some_iff.mp e
  obtain ⟨⟨j, ds⟩, e3, e4⟩ := Option.bind_eq_some_iff.mp e2
  obtain ⟨hl, e5⟩ := if_some e4
  cases e5
  obtain ⟨a0, hv0, ha0, hj0⟩ := own_at rs e0
  obtain ⟨_, vs0, hvs0, _⟩ := own_lst r0 ha0 hj0
  obtain ⟨a, hv, ha, hj⟩ := own_at rs e3
  rw [hv] at hv0
  cases hv0
  refine ⟨_, hv, .inl ⟨rfl, _, SqL.of hvs0⟩, F, ow, ρ, so, x, so1, r0, rs, e1, fun F1 H1 b ws r1 s1 n0 f1 h1 d1 => ?_⟩
  obtain ⟨fa, vs, hvs, hd⟩ := own_lst r1 ha hj
  obtain ⟨p1, p2⟩ := r1.put ha hj hvs (hd.app d1)
  exact ⟨_, b, vs, ws, rfl, rfl, hvs, h1, by rw [hd.len, d1.len]; exact lim_le hl, k F1 _ _ p1 (s1.trans p2) .non⟩
theorem tOf_oEq {neg : Bool} {i : Nat} {f : DE} (σ : L2.St) (H : Hp) (Q : VK) (h : tOf K (oEq neg i f) σ H Q) : tOp (rEqU K neg) (tVar i) (tOf K f) σ H Q := by
  obtain ⟨F, ow, ρ, so, d, so', r0, rs, e, k⟩ := h
  obtain ⟨⟨x, so1⟩, e1, e2⟩ := Option.bind_eq_some_iff.mp e
  obtain ⟨⟨j, ds⟩, e3, e4⟩ := Option.bind_eq_some_iff.mp e2
  obtain ⟨z, e5, e6⟩ := Option.map_eq_some_iff.mp e4
  cases e6
  obtain ⟨a, hv, ha, hj⟩ := own_at rs e3
  refine ⟨_, hv, F, ow, ρ, so, x, so1, r0, rs, e1, fun F1 H1 v r1 s1 d1 => ?_⟩
  obtain ⟨fa, vs, hvs, hd⟩ := own_lst r1 ha hj
  have dl : (PyData.list ds).plain = true → Dp K H1 (.ref a) (.list ds) := fun hp => .lst (SqL.of hvs) (dqAll_dp _ _ (nods_plain _ (by simpa [PyData.plain] using hp)) (dqAll_same r1.sub _ _ hd))
  have dx : x.plain = true → Dp K H1 v x := fun hp => dq_dp _ _ (nod_plain _ hp) (dq_same r1.sub _ _ d1)
  cases neg with
  | true =>
    obtain ⟨hc, rfl⟩ := if_some (show dNe (.list ds) x = some _ from e5)
    simp only [Bool.and_eq_true, decide_eq_true_eq] at hc
    exact ⟨_, _, dl hc.1.1, dx hc.1.2, hc.1.1, hc.1.2, hc.2, k F1 H1 _ r1 s1 (.bl _)⟩
  | false =>
    obtain ⟨hc, rfl⟩ := if_some (show dEq (.list ds) x = some _ from e5)
    simp only [Bool.and_eq_true, decide_eq_true_eq] at hc
    exact ⟨_, _, dl hc.1.1, dx hc.1.2, hc.1.1, hc.1.2, hc.2, k F1 H1 _ r1 s1 (.bl _)⟩
/-! the script -/
def scLen (i : Nat) : DE := fun ρ so => match ρ[i]? with
  | some (some (.s ns)) => some (.int ns.length, so)
  | _ => none
def scIx (i : Nat) (b : DE) : DE := fun ρ so => (b ρ so).bind fun p => match ρ[i]? with
  | some (some (.s ns)) => match p.1 with
    | .int j => (atI ns j).map fun n => (.int n, p.2)
    | _ => none
  | _ => none
theorem tOf_scLen {i : Nat} (σ : L2.St) (H : Hp) (Q : VK) (h : tOf K (scLen i) σ H Q) : tCB (rLenU K) (tCons (tVar i) tNil) σ H Q := by
  obtain ⟨F, ow, ρ, so, d, so', r0, rs, e, k⟩ := h
  unfold scLen at e
  split at e
  · rename_i ns hi
    cases e
    obtain ⟨v, hv, a, ha, rfl⟩ := rs.get hi
    refine ⟨_, hv, .inl ⟨a, _, rfl, .inl (r0.sub.seq ha), ?_⟩⟩
    rw [List.length_map]
    exact k F H _ r0 (Stp.refl _ _ _) (.int _)
  · cases e
theorem atI_map {α β : Type} (f : α → β) {xs : List α} {i : Int} {x : α} (h : atI xs i = some x) : atI (xs.map f) i = some (f x) := by
  unfold atI at h ⊢
  rw [List.length_map]
  obtain ⟨j, e1, e2⟩ := Option.bind_eq_some_iff.mp h
  rw [e1]
  show (xs.map f)[j]? = _
  rw [List.getElem?_map, e2]
  rfl
theorem tOf_scIx {i : Nat} {b : DE} (σ : L2.St) (H : Hp) (Q : VK) (h : tOf K (scIx i b) σ H Q) : tOp (rIxL K) (tVar i) (tOf K b) σ H Q := by
  obtain ⟨F, ow, ρ, so, d, so', r0, rs, e, k⟩ := h
  obtain ⟨⟨x, so1⟩, e1, e2⟩ := Option.bind_eq_some_iff.mp e
  split at e2
  · rename_i ns hi
    split at e2
    · rename_i m hm
      replace hm : x = .int m := hm
      subst hm
      obtain ⟨n, e3, e4⟩ := Option.map_eq_some_iff.mp e2
      cases e4
      obtain ⟨v, hv, a, ha, rfl⟩ := rs.get hi
      refine ⟨_, hv, F, ow, ρ, so, _, so1, r0, rs, e1, fun F1 H1 v r1 s1 d1 => ?_⟩
      cases d1
      exact ⟨a, _, m, .int n, rfl, rfl, r1.sub.seq (s1.fz.seq ha), atI_map V.int e3, k F1 H1 _ r1 s1 (.int _)⟩
    · cases e2
  · cases e2
end
section
variable {X : Cx} {x y : Str} {p p2 pos apos cpos : Pos} {e : Expr} {f : DE} {fl : DL} {i : Nat} {id T : String} {r : List V → Hp → VK → Prop} {g : List PyData → Option PyData}
theorem pd_scIx {b : Expr} {fb : DE} (hN : X.N[i]? = some y) (hv : Vis X.env.scope y) (hb : PD X b fb) (hs : PlainIx b) (hd : (y == ("__debug__" : Str)) = false := by decide) (hcd : (y == ("__classdict__" : Str)) = false := by decide) : PD X (.Subscript (.Name y p2) b pos) (scIx i fb) := (pe_ix ix_list (pe_var hN hv hd hcd) hb hs).imp tOf_scIx
theorem pd_scLen (hg : Gl X "len") (hm : X.mg "len" = none) (hN : X.N[i]? = some y) (hv2 : Vis X.env.scope y)
    (hd2 : (y == ("__debug__" : Str)) = false := by decide) (hcd : (y == ("__classdict__" : Str)) = false := by decide) (he : starEach [.Name y p2] X.env = (false, eval (.Name y p2) X.env) :: starEach [] X.env := by rfl) (hpl : (backTo pos (starEach [] X.env)).any (·.1) = false := by rfl) :
    PD X (.Call (.Name "len" p) [.Name y p2] [] pos) (scLen i) := (pe_callB cr_lenU hg hm PySem.boot_len (pa_cons (pe_var hN hv2 hd2 hcd) pa_nil he) (by decide) (by decide) he hpl).imp tOf_scLen
theorem pd_oTuple (hg : Gl X "tuple") (hm : X.mg "tuple" = none) (hN : X.N[i]? = some y) (hv2 : Vis X.env.scope y)
    (hd2 : (y == ("__debug__" : Str)) = false := by decide) (hcd : (y == ("__classdict__" : Str)) = false := by decide) (he : starEach [.Name y p2] X.env = (false, eval (.Name y p2) X.env) :: starEach [] X.env := by rfl) (hpl : (backTo pos (starEach [] X.env)).any (·.1) = false := by rfl) :
    PD X (.Call (.Name "tuple" p) [.Name y p2] [] pos) (oTuple i) := (pe_callTy call_tupleP hg hm (by decide +kernel) (pa_cons (pe_var hN hv2 hd2 hcd) pa_nil he) (by decide) (by decide) he hpl).imp tOf_oTuple
theorem pd_oAppend (hN : X.N[i]? = some y) (hv : Vis X.env.scope y) (ha : PD X e f) (hd : (y == ("__debug__" : Str)) = false := by decide) (hcd : (y == ("__classdict__" : Str)) = false := by decide)
    (hbase : attributeBase (.Name y p2) "append" X.env (eval (.Name y p2) X.env) = eval (.Name y p2) X.env := by rfl)
    (hfew : ((backTo cpos (starEach [e] X.env)).all (fun x => !x.1) && (backToKw cpos (keywordEach [] X.env)).all (fun x => x.1.isSome) && decide (([e] : List Expr).length + ([] : List Keyword).length + (if ([] : List Keyword).isEmpty then 0 else 1) < 30)) = true := by rfl)
    (hline : (apos.endLine == cpos.line) = true := by rfl) (hs : starEach [e] X.env = (false, eval e X.env) :: starEach [] X.env := by rfl) (hplain : (backTo cpos (starEach [] X.env)).any (·.1) = false := by rfl) :
    PD X (.Call (.Attribute (.Name y p2) "append" apos) [e] [] cpos) (oAppend i f) := (pe_bm PySem.F.plainAttrs_list PySem.F.slot_list_append PySem.F.type_list_append mt_append (pe_var hN hv hd hcd) (pa_cons ha pa_nil hs) hbase hfew hline hs hplain).imp tOf_oAppend
theorem pd_oExtend (hN : X.N[i]? = some y) (hv : Vis X.env.scope y) (ha : PDN X e fl) (hd : (y == ("__debug__" : Str)) = false := by decide) (hcd : (y == ("__classdict__" : Str)) = false := by decide)
    (hbase : attributeBase (.Name y p2) "extend" X.env (eval (.Name y p2) X.env) = eval (.Name y p2) X.env := by rfl)
    (hfew : ((backTo cpos (starEach [e] X.env)).all (fun x => !x.1) && (backToKw cpos (keywordEach [] X.env)).all (fun x => x.1.isSome) && decide (([e] : List Expr).length + ([] : List Keyword).length + (if ([] : List Keyword).isEmpty then 0 else 1) < 30)) = true := by rfl)
    (hline : (apos.endLine == cpos.line) = true := by rfl) (hs : starEach [e] X.env = (false, eval e X.env) :: starEach [] X.env := by rfl) (hplain : (backTo cpos (starEach [] X.env)).any (·.1) = false := by rfl) :
    PD X (.Call (.Attribute (.Name y p2) "extend" apos) [e] [] cpos) (oExtend i fl) := (pe_bm PySem.F.plainAttrs_list PySem.F.slot_list_extend PySem.F.type_list_extend mt_extend (pe_var hN hv hd hcd) (pa_cons ha pa_nil hs) hbase hfew hline hs hplain).imp tOf_oExtend
end
end MP
namespace MP
open PySem PySem.Spec PyProof.Rows L2 RL
theorem pdv (i : Nat) {X : Cx} {x : Str} {pos : Pos} (hN : X.N[i]? = some x := by rfl) (hv : Vis X.env.scope x := by first | exact Or.inl rfl | exact Or.inr (Or.inl rfl) | exact Or.inr (Or.inr rfl)) (hd : (x == ("__debug__" : Str)) = false := by decide)
    (hcd : (x == ("__classdict__" : Str)) = false := by decide) : PD X (.Name x pos) (eVar i) := pd_var hN hv hd hcd
/-! ### defs that hand on a new list -/
def fDefN (n m : Nat) (f : DL) : List Sl → Option (List PyData) := fun as => if as.length = n then (f (as.map some ++ List.replicate (m - n) none) []).map (·.1) else none
section
variable {K : PySem.W.Frag}
theorem relO_nil {F H : Hp} (s : Same F H) : RelO K F H [] [] := ⟨s, rfl, fun k a w h => by simp at h, fun j k a h => by simp at h, fun k a h => by simp at h⟩
end
def nCall (G : List Sl → Option (List PyData)) (g : DL) : DL := fun ρ so => (g ρ so).bind fun p => (G (p.1.map .d)).map fun ds => (ds, p.2)
/-! ### two names at once -/
section
variable {K : PySem.W.Frag} {F H : Hp} {ow : Ads} {so : Sto} {σ : L2.St} {ρ : Slots}
theorem new_rel {j : Nat} {a : Addr} {vs : List V} {ds : List PyData} (r1 : RelO K F H ow so) (ne : ∀ (m : Nat) (b : Addr), ow[m]? = some (some b) → b ≠ a) (f1 : F a = none) (h1 : H a = some (.lst vs)) (d1 : DqAll K F vs ds) : RelO K F H (ow.set j (some a)) (so.set j (.lst ds)) := by
  refine ⟨r1.sub, by rw [List.length_set, List.length_set]; exact r1.len, fun m b w hb hw => ?_, fun m n b hm hn => ?_, fun m b hb => ?_⟩
  · rcases get_set hw with ⟨rfl, rfl⟩ | ⟨nm, hw⟩
    · rcases get_set hb with ⟨_, rfl⟩ | ⟨nm, _⟩
      · exact ⟨f1, vs, h1, d1⟩
      · exact absurd rfl nm
    · rcases get_set hb with ⟨z, _⟩ | ⟨_, hb⟩
      · exact absurd z nm
      · exact r1.own m b w hb hw
  · rcases get_set hm with ⟨z1, y1⟩ | ⟨nm, hm'⟩
    · rcases get_set hn with ⟨z2, y2⟩ | ⟨nn, hn'⟩
      · rw [z1, z2]
      · exact absurd (Option.some.inj y1) (ne n b hn')
    · rcases get_set hn with ⟨z2, y2⟩ | ⟨nn, hn'⟩
      · exact absurd (Option.some.inj y2) (ne m b hm')
      · exact r1.inj m n b hm' hn'
  · rcases get_set hb with ⟨rfl, e1⟩ | ⟨nm, hb⟩
    · cases e1
      rw [h1]
      exact nofun
    · exact r1.old m b hb
theorem new_slots {i j : Nat} {a : Addr} (rs : RelS K F ow σ ρ) (hj : j < ow.length) (hall : (ρ.set i none).all (noO j) = true) : RelS K F (ow.set j (some a)) (σ.set i (some (.ref a))) (ρ.set i (some (.o j))) := by
  refine ⟨by rw [List.length_set, List.length_set]; exact rs.len, fun m v s hv hs => ?_⟩
  rcases get_set hs with ⟨rfl, rfl⟩ | ⟨nm, hs'⟩
  · rcases get_set hv with ⟨_, rfl⟩ | ⟨nm, _⟩
    · exact ⟨_, rfl, a, by rw [List.getElem?_set_self hj], rfl⟩
    · exact absurd rfl nm
  · rcases get_set hv with ⟨z, _⟩ | ⟨_, hv⟩
    · exact absurd z nm
    · have q := rs.ats m v s hv hs'
      cases s with
      | none => trivial
      | some s =>
        obtain ⟨u, hu, q⟩ := q
        refine ⟨u, hu, ?_⟩
        cases s with
        | d x => exact q
        | s ns => exact q
        | o n =>
          obtain ⟨b, hb, e⟩ := q
          have mem : some (Sl.o n) ∈ ρ.set i none := List.mem_of_getElem? (i := m) (by rw [List.getElem?_set_ne (Ne.symm nm)]; exact hs')
          have hn : (n != j) = true := List.all_eq_true.mp hall _ mem
          have hn : n ≠ j := by simpa using hn
          exact ⟨b, by rw [List.getElem?_set_ne (Ne.symm hn)]; exact hb, e⟩
        | p n =>
          obtain ⟨a0, b, c, z, hb, hc2, e⟩ := q
          have mem : some (Sl.p n) ∈ ρ.set i none := List.mem_of_getElem? (i := m) (by rw [List.getElem?_set_ne (Ne.symm nm)]; exact hs')
          have hn : (n != j && n + 1 != j) = true := List.all_eq_true.mp hall _ mem
          rw [Bool.and_eq_true] at hn
          have h1 : n ≠ j := by simpa using hn.1
          have h2 : n + 1 ≠ j := by simpa using hn.2
          exact ⟨a0, b, c, z, by rw [List.getElem?_set_ne (Ne.symm h1)]; exact hb, by rw [List.getElem?_set_ne (Ne.symm h2)]; exact hc2, e⟩
        | x t =>
          have mem : some (Sl.x t) ∈ ρ.set i none := List.mem_of_getElem? (i := m) (by rw [List.getElem?_set_ne (Ne.symm nm)]; exact hs')
          have hn : (sxOwn t).all (· != j) = true := List.all_eq_true.mp hall _ mem
          exact sx_ow (fun k hk a ha => by
            have : k ≠ j := by simpa using List.all_eq_true.mp hn k hk
            rw [List.getElem?_set_ne (Ne.symm this)]; exact ha) q
theorem owTo_set {p j : Nat} {a : Addr} {H0 : Hp} (hj : p ≤ j) (n0 : H0 a = none) : OwTo p ow H0 (ow.set j (some a)) := by
  refine ⟨by rw [List.length_set], fun m => ?_⟩
  by_cases e : j = m
  · subst e
    refine .inr ⟨hj, fun b hb => ?_⟩
    rcases get_set hb with ⟨_, e1⟩ | ⟨nm, _⟩
    · cases e1
      exact n0
    · exact absurd rfl nm
  · exact .inl (List.getElem?_set_ne e)
end
/-- x, y = data, data -/
def sParDD (i j : Nat) (f g : DE) : DS := fun ρ so => (f ρ so).bind fun p => (g ρ p.2).map fun q => (.nx ((ρ.set i (some (.d p.1))).set j (some (.d q.1))), q.2)
def putN (i k : Nat) (ds : List PyData) (ρ : Slots) (so : Sto) : Option (Slots × Sto) := if decide (k < so.length) && (ρ.set i none).all (noO k) then some (ρ.set i (some (.o k)), so.set k (.lst ds)) else none
/-- x, y = data, a new list -/
def sParDN (i j k : Nat) (f : DE) (g : DL) : DS := fun ρ so => (f ρ so).bind fun p => (g ρ p.2).bind fun q => (putN j k q.1 (ρ.set i (some (.d p.1))) q.2).map fun r => (.nx r.1, r.2)
/-- x, y = a new list, a new list -/
def sParNN (i k j l : Nat) (f g : DL) : DS := fun ρ so => (f ρ so).bind fun p => (g ρ p.2).bind fun q => (putN i k p.1 ρ q.2).bind fun r => (putN j l q.1 r.1 r.2).map fun t => (.nx t.1, t.2)
section
variable {K : PySem.W.Frag} {p : Nat} {W : Str → Hp → Prop}
theorem tOf_parDD {i j : Nat} {f g : DE} (D : Ends) (σ : L2.St) (H : Hp) (h : tOfS K p W (sParDD i j f g) D σ H) : tPar i j (tCons (tOf K f) (tCons (tOf K g) tNil)) D σ H := by
  obtain ⟨F, ow, ρ, so, fl, so', r0, rs, e, k⟩ := h
  obtain ⟨⟨x, so1⟩, e1, e⟩ := Option.bind_eq_some_iff.mp e
  obtain ⟨⟨y, so2⟩, e2, e⟩ := Option.map_eq_some_iff.mp e
  cases e
  exact ⟨F, ow, ρ, so, x, so1, r0, rs, e1, fun F1 H1 v r1 s1 d1 => ⟨F1, ow, ρ, so1, y, _, r1, rs.mono s1.fz, e2, fun F2 H2 u r2 s2 d2 => ⟨v, u, rfl, k F2 H2 ow r2 (s1.trans s2) (OwTo.refl _ _ _) _ ((((rs.mono s1.fz).mono s2.fz).set (i := i) (v := some v) (s := some (.d x)) ⟨v, rfl, dq_same s2.fz _ _ d1⟩).set (i := j) (v := some u) (s := some (.d y)) ⟨u, rfl, d2⟩)⟩⟩⟩
theorem putN_ok {i k : Nat} {ds : List PyData} {ρ ρ' : Slots} {so so' : Sto} (e : putN i k ds ρ so = some (ρ', so')) : k < so.length ∧ (ρ.set i none).all (noO k) = true ∧ ρ' = ρ.set i (some (.o k)) ∧ so' = so.set k (.lst ds) := by
  obtain ⟨hc, e⟩ := if_some e
  rw [Bool.and_eq_true, decide_eq_true_eq] at hc
  cases e
  exact ⟨hc.1, hc.2, rfl, rfl⟩
theorem tOf_parDN {i j k : Nat} {f : DE} {g : DL} (hk : p ≤ k) (D : Ends) (σ : L2.St) (H : Hp) (h : tOfS K p W (sParDN i j k f g) D σ H) : tPar i j (tCons (tOf K f) (tCons (tOfN K g) tNil)) D σ H := by
  obtain ⟨F, ow, ρ, so, fl, so', r0, rs, e, kk⟩ := h
  obtain ⟨⟨x, so1⟩, e1, e⟩ := Option.bind_eq_some_iff.mp e
  obtain ⟨⟨y, so2⟩, e2, e⟩ := Option.bind_eq_some_iff.mp e
  obtain ⟨⟨ρ', so3⟩, e3, e4⟩ := Option.map_eq_some_iff.mp e
  cases e4
  obtain ⟨h1, h2, h3, h4⟩ := putN_ok e3
  subst h3 h4
  refine ⟨F, ow, ρ, so, x, so1, r0, rs, e1, fun F1 H1 v r1 s1 d1 => ⟨F1, ow, ρ, so1, y, so2, r1, rs.mono s1.fz, e2, fun F2 H2 a us r2 s2 n0 f2 hu d2 => ⟨v, _, rfl, ?_⟩⟩⟩
  have lo : k < ow.length := by rw [r2.len]; exact h1
  have ne : ∀ (m : Nat) (b : Addr), ow[m]? = some (some b) → b ≠ a := fun m b hb e => r1.old m b hb (by rw [e]; exact n0)
  have nH : H a = none := by
    cases q : H a with
    | none => rfl
    | some o => exact absurd n0 (s1.live a (by rw [q]; exact nofun))
  exact kk F2 H2 _ (new_rel r2 ne f2 hu d2) (s1.trans s2) (owTo_set hk nH) _ (new_slots ((((rs.mono s1.fz).mono s2.fz)).set (i := i) (v := some v) (s := some (.d x)) ⟨v, rfl, dq_same s2.fz _ _ d1⟩) lo h2)
end
section
variable {X : Cx} {q : Nat} {W : Str → Hp → Prop} {i j : Nat} {x y : Str} {a b : Expr} {px py pt pos : Pos} {kt k2 : Nat} {pt2 : Pos}
theorem pds_parDD {f g : DE} (hc : X.calm = true) (hN : X.N.Nodup) (hi : X.N[i]? = some x) (hj : X.N[j]? = some y) (hij : i ≠ j) (hx : X.env.scope.names.lookup x = some .local) (hy : X.env.scope.names.lookup y = some .local) (ha : PD X a f) (hb : PD X b g)
    (hw : swappedStores [.Tuple [.Name x px, .Name y py] kt pt] (.Tuple [a, b] k2 pt2) X.env = pure (some [x, y])) (hs : swapsWithSole [.Tuple [.Name x px, .Name y py] kt pt] (.Tuple [a, b] k2 pt2) pos.line X.env = pure false := by rfl)
    (s1 : starEach [a, b] X.env = (false, eval a X.env) :: starEach [b] X.env := by rfl) (s2 : starEach [b] X.env = (false, eval b X.env) :: starEach [] X.env := by rfl) :
    PDS X q W (.Assign [.Tuple [.Name x px, .Name y py] kt pt] (.Tuple [a, b] k2 pt2) pos) (sParDD i j f g) := (ps_par hc hN hi hj hij hx hy (pa_cons ha (pa_cons hb pa_nil s2) s1) hw hs).imp tOf_parDD
theorem pds_parDN {f : DE} {g : DL} {k : Nat} (hk : q ≤ k) (hc : X.calm = true) (hN : X.N.Nodup) (hi : X.N[i]? = some x) (hj : X.N[j]? = some y) (hij : i ≠ j) (hx : X.env.scope.names.lookup x = some .local) (hy : X.env.scope.names.lookup y = some .local) (ha : PD X a f) (hb : PDN X b g)
    (hw : swappedStores [.Tuple [.Name x px, .Name y py] kt pt] (.Tuple [a, b] k2 pt2) X.env = pure (some [x, y])) (hs : swapsWithSole [.Tuple [.Name x px, .Name y py] kt pt] (.Tuple [a, b] k2 pt2) pos.line X.env = pure false := by rfl)
    (s1 : starEach [a, b] X.env = (false, eval a X.env) :: starEach [b] X.env := by rfl) (s2 : starEach [b] X.env = (false, eval b X.env) :: starEach [] X.env := by rfl) :
    PDS X q W (.Assign [.Tuple [.Name x px, .Name y py] kt pt] (.Tuple [a, b] k2 pt2) pos) (sParDN i j k f g) := (ps_par hc hN hi hj hij hx hy (pa_cons ha (pa_cons hb pa_nil s2) s1) hw hs).imp (tOf_parDN hk)
end
/-! ### zip of two -/
def pairsD (xs ys : List PyData) : List PyData := List.zipWith (fun a b => .tuple [a, b]) xs ys
def iZip2 (g : DL) : DL := fun ρ so => (g ρ so).bind fun p => match p.1 with
  | [a, b] => (seqOf a).bind fun xs => (seqOf b).bind fun ys => if xs.length = ys.length then some (pairsD xs ys, p.2) else none
  | _ => none
theorem pairs_len {xs ys : List PyData} (h : xs.length = ys.length) : (pairsD xs ys).length = xs.length := by unfold pairsD; rw [List.length_zipWith]; omega
section
variable {K : PySem.W.Frag}
theorem pair_item {F1 F2 H2 H3 : Hp} {xs ys : List PyData} {us ws : List V} {i : Nat} {x : V} (h1 : DqAll K F1 us xs) (h2 : DqAll K F1 ws ys) (a1 : Same F1 F2) (a2 : Same F2 H2) (y : YPair (fun i => us[i]?) (fun i => ws[i]?) i H2 x H3) :
    ∃ F3 d, (pairsD xs ys)[i]? = some d ∧ Stp [] F2 H2 F3 H3 ∧ Same F3 H3 ∧ DqI K true F3 x d := by
  obtain ⟨T, u, w, rfl, nT, rfl, hu, hw⟩ := y
  obtain ⟨d1, g1, q1⟩ := h1.get hu
  obtain ⟨d2, g2, q2⟩ := h2.get hw
  refine ⟨_, .tuple [d1, d2], ?_, Stp.new nT a2, same_upd a2, new_tupI (a2.free nT) (.cons (dq_same a1 _ _ q1) (.cons (dq_same a1 _ _ q2) .nil))⟩
  unfold pairsD
  rw [List.getElem?_zipWith, g1, g2]
end
theorem pdi_zip2 {X : Cx} {e e2 : Expr} {g : DL} {p pos tpos : Pos} {elts : List Expr} {kk : Nat} (hg : Gl X "zip") (hm : X.mg "zip" = none) (ha : PDA X [e, e2] g)
    (hs : starEach [e, e2] X.env = (false, eval e X.env) :: starEach [e2] X.env := by rfl) (hpl : (backTo pos (starEach [e2] X.env)).any (·.1) = false := by rfl) : PDI X (.Tuple elts kk tpos) (.Call (.Name "zip" p) [e, e2] [] pos) (iZip2 g) := by
  refine ⟨fun pins s σ H R I q => ?_⟩
  obtain ⟨F, ow, ρ, so, ds, so', r0, rs, e, k⟩ := q
  obtain ⟨⟨as, so1⟩, e1, e2⟩ := Option.bind_eq_some_iff.mp e
  split at e2
  · rename_i a b hab
    replace hab : as = [a, b] := hab
    subst hab
    obtain ⟨xs, e3, e2⟩ := Option.bind_eq_some_iff.mp e2
    obtain ⟨ys, e4, e2⟩ := Option.bind_eq_some_iff.mp e2
    obtain ⟨hl, e5⟩ := if_some e2
    cases e5
    cases a with
    | list xs' =>
      cases e3
      cases b with
      | list ys' =>
        cases e4
        refine (pi_zip hg hm ha hs hpl).run pins s σ H R I ⟨F, ow, ρ, so, _, so1, r0, rs, e1, fun F1 H1 vs r1 s1 d1 => ?_⟩
        obtain ⟨v, u, rfl, dv, du⟩ := d1.two
        obtain ⟨a, us, rfl, ha, hus⟩ := dq_lst dv
        obtain ⟨b, ws, rfl, hb, hws⟩ := dq_lst du
        have lu := hus.len
        have lw := hws.len
        exact ⟨a, b, us, ws, rfl, SqL.of (r1.sub _ _ ha), SqL.of (r1.sub _ _ hb), k F1 H1 _ _ _ r1 s1 (walk_zip (xs := us) (ys := ws) (by rw [pairs_len hl]; omega)) (fun F2 H2 a1 a2 => ⟨SqL.of (a2 _ _ (a1 _ _ ha)), SqL.of (a2 _ _ (a1 _ _ hb))⟩) fun i F2 H2 x H3 hi a1 a2 y => pair_item hus hws a1 a2 y⟩
      | tuple ys' =>
        cases e4
        refine (pi_zipLT hg hm ha hs hpl).run pins s σ H R I ⟨F, ow, ρ, so, _, so1, r0, rs, e1, fun F1 H1 vs r1 s1 d1 => ?_⟩
        obtain ⟨v, u, rfl, dv, du⟩ := d1.two
        obtain ⟨a, us, rfl, ha, hus⟩ := dq_lst dv
        obtain ⟨b, ws, rfl, hb, hws⟩ := dq_tup du
        have lu := hus.len
        have lw := hws.len
        have wk := walk_zipLT (K := X.K) (a := a) (b := b) (xs := us) (ys := ws) (by omega)
        rw [lu, ← pairs_len hl] at wk
        exact ⟨a, b, us, ws, rfl, SqL.of (r1.sub _ _ ha), (hb.sq r1.sub), k F1 H1 _ _ _ r1 s1 wk (fun F2 H2 a1 a2 => ⟨SqL.of (a2 _ _ (a1 _ _ ha)), (hb.sq (a1.trans a2))⟩) fun i F2 H2 x H3 hi a1 a2 y => pair_item hus hws a1 a2 y⟩
      | _ => cases e4
    | tuple xs' =>
      cases e3
      cases b with
      | list ys' =>
        cases e4
        refine (pi_zipM hg hm ha hs hpl).run pins s σ H R I ⟨F, ow, ρ, so, _, so1, r0, rs, e1, fun F1 H1 vs r1 s1 d1 => ?_⟩
        obtain ⟨v, u, rfl, dv, du⟩ := d1.two
        obtain ⟨a, us, rfl, ha, hus⟩ := dq_tup dv
        obtain ⟨b, ws, rfl, hb, hws⟩ := dq_lst du
        have lu := hus.len
        have lw := hws.len
        have wk := walk_zipM (K := X.K) (a := a) (b := b) (xs := us) (ys := ws) (by omega)
        rw [lu, ← pairs_len hl] at wk
        exact ⟨a, b, us, ws, rfl, (ha.sq r1.sub), SqL.of (r1.sub _ _ hb), k F1 H1 _ _ _ r1 s1 wk (fun F2 H2 a1 a2 => ⟨(ha.sq (a1.trans a2)), SqL.of (a2 _ _ (a1 _ _ hb))⟩) fun i F2 H2 x H3 hi a1 a2 y => pair_item hus hws a1 a2 y⟩
      | tuple ys' =>
        cases e4
        refine (RZ.pi_zipA hg hm ha hs hpl).run pins s σ H R I ⟨F, ow, ρ, so, _, so1, r0, rs, e1, fun F1 H1 vs r1 s1 d1 => ?_⟩
        obtain ⟨v, u, rfl, dv, du⟩ := d1.two
        obtain ⟨a, us, rfl, ha, hus⟩ := dq_tup dv
        obtain ⟨b, ws, rfl, hb, hws⟩ := dq_tup du
        have lu := hus.len
        have lw := hws.len
        have wk := walk_zipT (K := X.K) (a := a) (b := b) (xs := us) (ys := ws) (by omega)
        rw [lu, ← pairs_len hl] at wk
        exact ⟨a, b, us, ws, rfl, .inr ⟨(ha.sq r1.sub), (hb.sq r1.sub), k F1 H1 _ _ _ r1 s1 wk (fun F2 H2 a1 a2 => ⟨(ha.sq (a1.trans a2)), (hb.sq (a1.trans a2))⟩) fun i F2 H2 x H3 hi a1 a2 y => pair_item hus hws a1 a2 y⟩⟩
      | _ => cases e4
    | _ => cases e3
  · cases e2
end MP
namespace MP
open PySem PySem.Spec PyProof.Rows L2 RL
def dNeg : PyData → Option PyData
  | .int i => some (.int (-i))
  | _ => none
theorem ud_neg {X : Cx} : UnD X.K (rU fun i => .int (-i)) dNeg := by
  intro F H x dx d Q s hx e k
  cases dx with
  | int i => cases e; cases hx; exact ⟨i, rfl, here k s (.int _)⟩
  | _ => cases e
def dBits : PyData → Option PyData
  | .int i => some (.int (Builtin.Int.intBits i : Nat))
  | _ => none
theorem tOf_bits {K : PySem.W.Frag} {f : DE} (σ : L2.St) (H : Hp) (Q : VK) (h : tOf K (eUn dBits f) σ H Q) : tBits (tOf K f) σ H Q := by
  obtain ⟨F, ow, ρ, so, d, so', r0, rs, e, k⟩ := h
  obtain ⟨⟨x, so1⟩, e1, e2⟩ := Option.bind_eq_some_iff.mp e
  obtain ⟨z, e3, e4⟩ := Option.map_eq_some_iff.mp e2
  cases e4
  refine ⟨F, ow, ρ, so, x, _, r0, rs, e1, fun F1 H1 v r1 s1 d1 => ?_⟩
  cases x with
  | int i => cases e3; cases d1; exact ⟨i, rfl, k F1 H1 _ r1 s1 (.int _)⟩
  | _ => cases e3
theorem pd_bits {X : Cx} {o : Expr} {f : DE} {apos pos : Pos} (ho : PD X o f) (hbase : attributeBase o "bit_length" X.env (eval o X.env) = eval o X.env := by rfl) (hline : (apos.endLine == pos.line) = true := by rfl) : PD X (.Call (.Attribute o "bit_length" apos) [] [] pos) (eUn dBits f) :=
  (pe_bits ho hbase hline).imp tOf_bits
/-! ### defs without parameters -/
def fCallZ (G : FD) : DE := fun _ so => (G [] []).map fun r => (r.1, so)
theorem tOf_oEqB {K : PySem.W.Frag} {neg : Bool} {i : Nat} {f : DE} (σ : L2.St) (H : Hp) (Q : Bool → Hp → Prop) (h : tOfB K (bVal (oEq neg i f)) σ H Q) : tTest (tOp (rEqU K neg) (tVar i) (tOf K f)) σ H Q := by
  obtain ⟨F, ow, ρ, so, z, so', r0, rs, e, k⟩ := h
  obtain ⟨⟨d, so1⟩, e1, e2⟩ := Option.bind_eq_some_iff.mp e
  refine tOf_oEq σ H _ ⟨F, ow, ρ, so, d, so1, r0, rs, e1, fun F1 H1 v r1 s1 d1 => ?_⟩
  split at e2
  · rename_i hd
    cases e2
    replace hd : d = .bool z := hd
    subst hd
    exact ⟨z, dq_bl d1, k F1 H1 r1 s1⟩
  · cases e2
theorem pdb_oNe {X : Cx} {y : Str} {i : Nat} {p2 pos : Pos} {b : Expr} {fb : DE} (hu : X.A.units + 64 < cLine) (hN : X.N[i]? = some y) (hv : Vis X.env.scope y) (hb : PD X b fb) (hm : behindInMarks .NotEq b = false) (hd : (y == ("__debug__" : Str)) = false := by decide) (hcd : (y == ("__classdict__" : Str)) = false := by decide) : PDB X (.Compare (.Name y p2) [.NotEq] [b] pos) (bVal (oEq true i fb)) := (pt_cmpR (op_neU hu) (pe_var hN hv hd hcd) hb hm).imp tOf_oEqB
end MP
namespace MP
open PySem PySem.Spec PyProof.Rows L2 RL
/-! ### the law itself, and what the row asks of it -/
end MP
namespace MP
open PySem PySem.Spec PyProof.Rows L2 RL
/-! ### the first place of an equal thing in a list -/
def idxGo (d : PyData) : List PyData → Nat → Option Nat
  | [], _ => none
  | x :: r, i => if PyData.eqv x d then some i else idxGo d r (i + 1)
theorem idxGo_ok {d : PyData} : ∀ {ds : List PyData} {i j : Nat}, idxGo d ds i = some j → i ≤ j ∧ ∃ z, ds[j - i]? = some z ∧ PyData.eqv z d = true ∧ ∀ (m : Nat) (z' : PyData), m < j - i → ds[m]? = some z' → PyData.eqv z' d = false
  | [], i, j, h => by cases h
  | x :: r, i, j, h => by
    unfold idxGo at h
    by_cases e : PyData.eqv x d = true
    · rw [if_pos e] at h
      cases h
      exact ⟨Nat.le_refl _, x, by rw [Nat.sub_self]; rfl, e, fun m z' hm => by omega⟩
    · rw [if_neg e] at h
      obtain ⟨h1, z, h2, h3, h4⟩ := idxGo_ok h
      have e1 : j - i = j - (i + 1) + 1 := by omega
      refine ⟨by omega, z, by rw [e1]; exact h2, h3, fun m z' hm hz => ?_⟩
      cases m with
      | zero => cases hz; exact Bool.not_eq_true _ ▸ e
      | succ m => exact h4 m z' (by omega) hz
/-- xs.index(d) of a list -/
def dIndex : PyData → PyData → Option PyData
  | .list ds, d => if SeqAt.shaped (.list ds) && SeqAt.shaped d then (idxGo d ds 0).map fun j => .int (j : Nat) else none
  | _, _ => none
section
variable {K : PySem.W.Frag}
theorem tOf_index {fa fb : DE} (σ : L2.St) (H : Hp) (Q : VK) (h : tOf K (eOp dIndex fa fb) σ H Q) : tBM K "list" (rIndexD K) (tOf K fa) (tCons (tOf K fb) tNil) σ H Q := by
  obtain ⟨F, ow, ρ, so, d, so', r0, rs, e, k⟩ := h
  obtain ⟨⟨x, so1⟩, e1, e2⟩ := Option.bind_eq_some_iff.mp e
  obtain ⟨⟨y, so2⟩, e3, e4⟩ := Option.bind_eq_some_iff.mp e2
  obtain ⟨z, e5, e6⟩ := Option.map_eq_some_iff.mp e4
  cases e6
  replace e5 : dIndex x y = some d := e5
  cases x with
  | list ds =>
    have e9 : (if SeqAt.shaped (.list ds) && SeqAt.shaped y then (idxGo y ds 0).map fun j => PyData.int (j : Nat) else none) = some d := e5
    have hc : (SeqAt.shaped (.list ds) && SeqAt.shaped y) = true := by
      cases hz : (SeqAt.shaped (.list ds) && SeqAt.shaped y) with
      | true => rfl
      | false => rw [hz] at e9; cases e9
    rw [if_pos hc] at e9
    have e7 := e9
    rw [Bool.and_eq_true] at hc
    obtain ⟨j, e8, rfl⟩ := Option.map_eq_some_iff.mp e7
    obtain ⟨_, u, g1, g2, g3⟩ := idxGo_ok e8
    rw [Nat.sub_zero] at g1 g3
    refine ⟨F, ow, ρ, so, _, so1, r0, rs, e1, fun F1 H1 v r1 s1 d1 => ?_⟩
    obtain ⟨a, us, rfl, ha, hus⟩ := dq_lst d1
    refine ⟨.inl ⟨rfl, _, SqL.of (r1.sub _ _ ha)⟩, F1, ow, ρ, so1, y, _, r1, rs.mono s1.fz, e3, fun F2 H2 w r2 s2 d2 => ?_⟩
    exact ⟨a, w, y, ds, j, u, rfl, rfl, dq_dp _ _ (nod_shaped hc.1) (dq_same r2.sub _ _ (dq_same s2.fz _ _ d1)), dq_dp _ _ (nod_shaped hc.2) (dq_same r2.sub _ _ d2), hc.1, hc.2, g1, g2, g3, k F2 H2 _ r2 (s1.trans s2) (.int _)⟩
  | _ => cases e5
end
theorem pd_index {X : Cx} {o e : Expr} {fa fb : DE} {apos cpos : Pos} (hu : X.A.units + 65 < cLine) (ho : PD X o fa) (ha : PD X e fb)
    (hbase : attributeBase o "index" X.env (eval o X.env) = eval o X.env := by rfl)
    (hfew : ((backTo cpos (starEach [e] X.env)).all (fun x => !x.1) && (backToKw cpos (keywordEach [] X.env)).all (fun x => x.1.isSome)
      && decide (([e] : List Expr).length + ([] : List Keyword).length + (if ([] : List Keyword).isEmpty then 0 else 1) < 30)) = true := by rfl)
    (hline : (apos.endLine == cpos.line) = true := by rfl) (hs : starEach [e] X.env = (false, eval e X.env) :: starEach [] X.env := by rfl) (hplain : (backTo cpos (starEach [] X.env)).any (·.1) = false := by rfl) :
    PD X (.Call (.Attribute o "index" apos) [e] [] cpos) (eOp dIndex fa fb) :=
  (pe_bm PySem.F.plainAttrs_list PySem.F.slot_list_index PySem.F.type_list_index (mt_indexD hu) ho (pa_cons ha pa_nil hs) hbase hfew hline hs hplain).imp tOf_index
/-! ### zip of three, of four tuples; enumerate -/
def zip3D (xs ys zs : List PyData) : List PyData := List.zipWith (fun a p => .tuple (a :: p)) xs (List.zipWith (fun b c => [b, c]) ys zs)
def zip4D (xs ys zs ws : List PyData) : List PyData := List.zipWith (fun a p => .tuple (a :: p)) xs (List.zipWith (fun b p => b :: p) ys (List.zipWith (fun b c => [b, c]) zs ws))
def iZip3 (g : DL) : DL := fun ρ so => (g ρ so).bind fun p => match p.1 with
  | [.tuple xs, .tuple ys, .tuple zs] => if ys.length = xs.length ∧ zs.length = xs.length then some (zip3D xs ys zs, p.2) else none
  | _ => none
def iZip4 (g : DL) : DL := fun ρ so => (g ρ so).bind fun p => match p.1 with
  | [.tuple xs, .tuple ys, .tuple zs, .tuple ws] => if ys.length = xs.length ∧ zs.length = xs.length ∧ ws.length = xs.length then some (zip4D xs ys zs ws, p.2) else none
  | _ => none
def enumD (xs : List PyData) : List PyData := List.zipWith (fun (i : Nat) a => .tuple [.int i, a]) (List.range xs.length) xs
def iEnm (f : DE) : DL := fun ρ so => (f ρ so).bind fun p => match p.1 with
  | .list xs => some (enumD xs, p.2)
  | _ => none
theorem enum_len (xs : List PyData) : (enumD xs).length = xs.length := by unfold enumD; rw [List.length_zipWith, List.length_range]; omega
end MP
namespace MP
open PySem PySem.Spec PyProof.Rows L2 RL
/-! ### list + list, a list of one's own -/
def nAdd (f g : DE) : DL := fun ρ so => (f ρ so).bind fun p => (g ρ p.2).bind fun q => match p.1, q.1 with
  | .list xs, .list ys => if xs.length + ys.length ≤ LIM then some (xs ++ ys, q.2) else none
  | _, _ => none
/-! ### min of a list of numbers, with what stands for none of them -/
def gMinD : PyData → PyData → Option PyData
  | .list ds, z => (intsOf ds).bind fun ns => match ns with
    | [] => (scV z).map fun _ => z
    | n :: r => some (.int (r.foldl min n))
  | _, _ => none
def eMinD (f g : DE) : DE := fun ρ so => (f ρ so).bind fun p => (g ρ p.2).bind fun q => (gMinD p.1 q.1).map fun d => (d, q.2)
end MP
namespace MP
open PySem PySem.Spec PyProof.Rows L2 RL
/-! ### sorted(set(a list of tuples of small numbers)) -/
def cd64 (k : List Int) : Int := TS.code 64 k
def insK (k : List Int) : List (List Int) → List (List Int)
  | [] => [k]
  | x :: r => if cd64 k < cd64 x then k :: x :: r else if cd64 k = cd64 x then x :: r else x :: insK k r
def sortK (ks : List (List Int)) : List (List Int) := ks.foldr insK []
def keysOf : List PyData → Option (List (List Int))
  | [] => some []
  | .tuple ds :: r => (intsOf ds).bind fun k => (keysOf r).map fun ks => k :: ks
  | _ :: _ => none
def keysOk (ks : List (List Int)) : Bool := decide (ks.length < 64) && decide (1 ≤ (ks.headD [0]).length) && ks.all fun k => decide (k.length = (ks.headD [0]).length) && k.all fun m => decide (0 ≤ m) && decide (m < 64)
def tupI (k : List Int) : PyData := .tuple (k.map .int)
def nSS (f : DE) : DL := fun ρ so => (f ρ so).bind fun p => match p.1 with
  | .list ds => (keysOf ds).bind fun ks => if keysOk ks = true then some ((sortK ks).map tupI, p.2) else none
  | _ => none
end MP
namespace MP
open PySem PySem.Spec PyProof.Rows L2 RL
/-! ### a row of data and of new lists, and names for them -/
inductive Pt where
  | d (x : PyData)
  | n (ds : List PyData)
abbrev DX := Slots → Sto → Option (List Pt × Sto)
def xNil : DX := fun _ so => some ([], so)
def xD (f : DE) (g : DX) : DX := fun ρ so => (f ρ so).bind fun p => (g ρ p.2).bind fun q => some (Pt.d p.1 :: q.1, q.2)
def xN (f : DL) (g : DX) : DX := fun ρ so => (f ρ so).bind fun p => (g ρ p.2).bind fun q => some (Pt.n p.1 :: q.1, q.2)
/-- the values: those of new lists are apart from all that stood in H0 -/
inductive PtAll (K : PySem.W.Frag) (F H : Hp) : Hp → List V → List Pt → Prop
  | nil {H0 : Hp} : PtAll K F H H0 [] []
  | d {H0 : Hp} {v : V} {x : PyData} {vs : List V} {ps : List Pt} : Dq K F v x → PtAll K F H H0 vs ps → PtAll K F H H0 (v :: vs) (.d x :: ps)
  | n {H0 H1 : Hp} {a : Addr} {us : List V} {ds : List PyData} {vs : List V} {ps : List Pt} : H0 a = none → H1 a ≠ none → (∀ b, H0 b ≠ none → H1 b ≠ none) → F a = none → H a = some (.lst us) → DqAll K F us ds →
      PtAll K F H H1 vs ps → PtAll K F H H0 (.ref a :: vs) (.n ds :: ps)
theorem PtAll.less {K : PySem.W.Frag} {F H : Hp} : ∀ {H0 H1 : Hp} {vs : List V} {ps : List Pt}, (∀ b, H0 b ≠ none → H1 b ≠ none) → PtAll K F H H1 vs ps → PtAll K F H H0 vs ps
  | _, _, _, _, _, .nil => .nil
  | _, _, _, _, l, .d h t => .d h (PtAll.less l t)
  | H0, _, _, _, l, .n (a := a) h1 h2 h3 h4 h5 h6 t => .n (by
      cases q : H0 a with
      | none => rfl
      | some o => exact absurd h1 (l a (by rw [q]; exact nofun))) h2 (fun b hb => h3 b (l b hb)) h4 h5 h6 t
theorem PtAll.len {K : PySem.W.Frag} {F H : Hp} : ∀ {H0 : Hp} {vs : List V} {ps : List Pt}, PtAll K F H H0 vs ps → vs.length = ps.length
  | _, _, _, .nil => rfl
  | _, _, _, .d _ t => by rw [List.length_cons, List.length_cons, t.len]
  | _, _, _, .n _ _ _ _ _ _ t => by rw [List.length_cons, List.length_cons, t.len]
section
variable (K : PySem.W.Frag)
def tOfX (f : DX) : TA := fun σ H Q => ∃ F ow ρ so ps so', RelO K F H ow so ∧ RelS K F ow σ ρ ∧ f ρ so = some (ps, so') ∧
  ∀ F' H' vs, RelO K F' H' ow so' → Stp ow F H F' H' → PtAll K F' H' H vs ps → Q vs H'
end
abbrev PDX (X : Cx) (es : List Expr) (f : DX) : Prop := PA X es (tOfX X.K f)
section
variable {K : PySem.W.Frag}
theorem tOf_xNil (σ : L2.St) (H : Hp) (Q : List V → Hp → Prop) (h : tOfX K xNil σ H Q) : tNil σ H Q := by
  obtain ⟨F, ow, ρ, so, d, so', r0, rs, e, k⟩ := h
  cases e
  exact k F H [] r0 (Stp.refl _ _ _) .nil
theorem tOf_xD {f : DE} {g : DX} (σ : L2.St) (H : Hp) (Q : List V → Hp → Prop) (h : tOfX K (xD f g) σ H Q) : tCons (tOf K f) (tOfX K g) σ H Q := by
  obtain ⟨F, ow, ρ, so, d, so', r0, rs, e, k⟩ := h
  obtain ⟨⟨x, so1⟩, e1, e⟩ := Option.bind_eq_some_iff.mp e
  obtain ⟨⟨xs, so2⟩, e2, e⟩ := Option.bind_eq_some_iff.mp e
  cases e
  refine ⟨F, ow, ρ, so, x, so1, r0, rs, e1, fun F1 H1 v1 r1 s1 d1 => ⟨F1, ow, ρ, so1, xs, so2, r1, rs.mono s1.fz, e2, fun F2 H2 vs r2 s2 d2 => ?_⟩⟩
  exact k F2 H2 _ r2 (s1.trans s2) (.d (dq_same s2.fz x v1 d1) (d2.less s1.live))
theorem tOf_xN {f : DL} {g : DX} (σ : L2.St) (H : Hp) (Q : List V → Hp → Prop) (h : tOfX K (xN f g) σ H Q) : tCons (tOfN K f) (tOfX K g) σ H Q := by
  obtain ⟨F, ow, ρ, so, d, so', r0, rs, e, k⟩ := h
  obtain ⟨⟨x, so1⟩, e1, e⟩ := Option.bind_eq_some_iff.mp e
  obtain ⟨⟨xs, so2⟩, e2, e⟩ := Option.bind_eq_some_iff.mp e
  cases e
  refine ⟨F, ow, ρ, so, x, so1, r0, rs, e1, fun F1 H1 a us r1 s1 n0 f1 h1 d1 => ⟨F1, ow, ρ, so1, xs, so2, r1, rs.mono s1.fz, e2, fun F2 H2 vs r2 s2 d2 => ?_⟩⟩
  have na : some a ∉ ow := fun z => by
    obtain ⟨m, hm⟩ := List.mem_iff_getElem?.mp z
    exact r0.old m a hm n0
  exact k F2 H2 _ r2 (s1.trans s2) (.n n0 (by rw [h1]; exact nofun) s1.live (s2.own a _ na h1 f1) (s2.keep a _ na h1) (dqAll_same s2.fz _ _ d1) d2)
end
section
variable {X : Cx} {e : Expr} {es : List Expr} {f : DE} {fl : DL} {g : DX}
theorem pdx_nil : PDX X [] xNil := pa_nil.imp tOf_xNil
theorem pdx_d (ha : PD X e f) (hr : PDX X es g) (hs : starEach (e :: es) X.env = (false, eval e X.env) :: starEach es X.env := by rfl) : PDX X (e :: es) (xD f g) := (pa_cons ha hr hs).imp tOf_xD
theorem pdx_n (ha : PDN X e fl) (hr : PDX X es g) (hs : starEach (e :: es) X.env = (false, eval e X.env) :: starEach es X.env := by rfl) : PDX X (e :: es) (xN fl g) := (pa_cons ha hr hs).imp tOf_xN
end
/-- names (slot, place) for the row -/
def putXs : List (Nat × Nat) → List Pt → Slots → Sto → Option (Slots × Sto)
  | [], [], ρ, so => some (ρ, so)
  | (i, _) :: ts, .d x :: ps, ρ, so => putXs ts ps (ρ.set i (some (.d x))) so
  | (i, k) :: ts, .n ds :: ps, ρ, so => (putN i k ds ρ so).bind fun r => putXs ts ps r.1 r.2
  | _, _, _, _ => none
def setAll : List (Nat × Nat) → List V → L2.St → L2.St
  | (i, _) :: ts, v :: vs, σ => setAll ts vs (σ.set i (some v))
  | _, _, σ => σ
theorem putXs_ok {K : PySem.W.Frag} {F H : Hp} {p : Nat} {H00 : Hp} : ∀ {ts : List (Nat × Nat)} {vs : List V} {ps : List Pt} {H0 : Hp} {ow : Ads} {ρ ρ' : Slots} {so so' : Sto} {σ : L2.St}, (∀ t ∈ ts, p ≤ t.2) → (∀ b, H00 b ≠ none → H0 b ≠ none) →
    (∀ (m : Nat) (b : Addr), ow[m]? = some (some b) → H0 b ≠ none) → PtAll K F H H0 vs ps → RelO K F H ow so → RelS K F ow σ ρ → putXs ts ps ρ so = some (ρ', so') →
    ∃ ow', RelO K F H ow' so' ∧ RelS K F ow' (setAll ts vs σ) ρ' ∧ OwTo p ow H00 ow'
  | [], _, _, H0, ow, ρ, ρ', so, so', σ, _, _, _, h, r, rs, e => by
    cases h with
    | nil => cases e; exact ⟨ow, r, rs, OwTo.refl _ _ _⟩
    | d _ _ => cases e
    | n _ _ _ _ _ _ _ => cases e
  | (i, k) :: ts, _, _, H0, ow, ρ, ρ', so, so', σ, hp, l0, live, h, r, rs, e => by
    cases h with
    | nil => cases e
    | d hd ht => exact putXs_ok (ts := ts) (fun t m => hp t (List.mem_cons_of_mem _ m)) l0 live ht r (rs.set (i := i) (s := some (.d _)) ⟨_, rfl, hd⟩) e
    | n h1 h2 h3 h4 h5 h6 ht =>
      rename_i H1 a us ds vs ps
      obtain ⟨⟨ρ1, so1⟩, e1, e2⟩ := Option.bind_eq_some_iff.mp (show (putN i k ds ρ so).bind _ = _ from e)
      obtain ⟨q1, q2, q3, q4⟩ := putN_ok e1
      subst q3 q4
      have hk : p ≤ k := hp _ List.mem_cons_self
      have lo : k < ow.length := by rw [r.len]; exact q1
      have ne : ∀ (m : Nat) (b : Addr), ow[m]? = some (some b) → b ≠ a := fun m b hb z => live m b hb (by rw [z]; exact h1)
      have n00 : H00 a = none := by
        cases q : H00 a with
        | none => rfl
        | some o => exact absurd h1 (l0 a (by rw [q]; exact nofun))
      obtain ⟨ow', r', rs', t'⟩ := putXs_ok (ts := ts) (ow := ow.set k (some a)) (H00 := H00) (fun t m => hp t (List.mem_cons_of_mem _ m)) (fun b hb => h3 b (l0 b hb)) (fun m b hb => by
        rcases get_set hb with ⟨_, z⟩ | ⟨_, hb⟩
        · cases z; exact h2
        · exact h3 b (live m b hb)) ht (new_rel (j := k) r ne h4 h5 h6) (new_slots rs lo q2) e2
      refine ⟨ow', r', rs', t'.1.trans (by rw [List.length_set]), fun m => ?_⟩
      rcases t'.2 m with z | z
      · rcases (owTo_set (ow := ow) (H0 := H00) (p := p) (j := k) (a := a) hk n00).2 m with z1 | z1
        · exact .inl (z.trans z1)
        · exact .inr ⟨z1.1, fun c hc => z1.2 c (by rw [← z]; exact hc)⟩
      · exact .inr z
/-- a, b, c = .., .., .. -/
def sParX (ts : List (Nat × Nat)) (g : DX) : DS := fun ρ so => (g ρ so).bind fun p => (putXs ts p.1 ρ p.2).map fun r => (.nx r.1, r.2)
section
variable {K : PySem.W.Frag} {p : Nat} {W : Str → Hp → Prop}
theorem tOf_parX3 {i j l a b c : Nat} {g : DX} (hp : ∀ t ∈ [(i, a), (j, b), (l, c)], p ≤ t.2) (D : Ends) (σ : L2.St) (H : Hp) (hl : ∀ ρ so q, g ρ so = some q → q.1.length = 3) (h : tOfS K p W (sParX [(i, a), (j, b), (l, c)] g) D σ H) : tPar3 i j l (tOfX K g) D σ H := by
  obtain ⟨F, ow, ρ, so, fl, so', r0, rs, e, k⟩ := h
  obtain ⟨⟨ps, so1⟩, e1, e⟩ := Option.bind_eq_some_iff.mp e
  obtain ⟨⟨ρ', so2⟩, e2, e⟩ := Option.map_eq_some_iff.mp e
  cases e
  refine ⟨F, ow, ρ, so, ps, so1, r0, rs, e1, fun F1 H1 vs r1 s1 d1 => ?_⟩
  have lv : vs.length = 3 := d1.len.trans (hl _ _ _ e1)
  obtain ⟨ow', r', rs', t'⟩ := putXs_ok (H00 := H) hp (fun _ h => h) r0.old d1 r1 (rs.mono s1.fz) e2
  match vs, lv with
  | [u, v, w], _ => exact ⟨u, v, w, rfl, k F1 H1 ow' r' s1 t' _ rs'⟩
end
theorem xNil_len {ρ : Slots} {so : Sto} {q : List Pt × Sto} (h : xNil ρ so = some q) : q.1.length = 0 := by cases h; rfl
theorem xD_len {f : DE} {g : DX} {m : Nat} (hg : ∀ ρ so q, g ρ so = some q → q.1.length = m) : ∀ ρ so q, xD f g ρ so = some q → q.1.length = m + 1 := fun ρ so q h => by
  obtain ⟨x, _, h⟩ := Option.bind_eq_some_iff.mp h
  obtain ⟨y, hy, h⟩ := Option.bind_eq_some_iff.mp h
  cases h
  rw [List.length_cons, hg _ _ _ hy]
theorem xN_len {f : DL} {g : DX} {m : Nat} (hg : ∀ ρ so q, g ρ so = some q → q.1.length = m) : ∀ ρ so q, xN f g ρ so = some q → q.1.length = m + 1 := fun ρ so q h => by
  obtain ⟨x, _, h⟩ := Option.bind_eq_some_iff.mp h
  obtain ⟨y, hy, h⟩ := Option.bind_eq_some_iff.mp h
  cases h
  rw [List.length_cons, hg _ _ _ hy]
section
variable {X : Cx} {q : Nat} {W : Str → Hp → Prop} {i j l ka kb kc : Nat} {x y z : Str} {a b c : Expr} {px py pz pt pos : Pos} {kt k2 : Nat} {pt2 : Pos} {g : DX}
theorem pds_parX3 (hp : ∀ t ∈ [(i, ka), (j, kb), (l, kc)], q ≤ t.2) (hc : X.calm = true) (hN : X.N.Nodup) (hi : X.N[i]? = some x) (hj : X.N[j]? = some y) (hl : X.N[l]? = some z) (hij : i ≠ j) (hil : i ≠ l) (hjl : j ≠ l)
    (hx : X.env.scope.names.lookup x = some .local) (hy : X.env.scope.names.lookup y = some .local) (hz : X.env.scope.names.lookup z = some .local) (ha : PDX X [a, b, c] g) (hn : ∀ ρ so q, g ρ so = some q → q.1.length = 3)
    (hw : swappedStores [.Tuple [.Name x px, .Name y py, .Name z pz] kt pt] (.Tuple [a, b, c] k2 pt2) X.env = pure (some [x, y, z])) (hs : swapsWithSole [.Tuple [.Name x px, .Name y py, .Name z pz] kt pt] (.Tuple [a, b, c] k2 pt2) pos.line X.env = pure false := by rfl) :
    PDS X q W (.Assign [.Tuple [.Name x px, .Name y py, .Name z pz] kt pt] (.Tuple [a, b, c] k2 pt2) pos) (sParX [(i, ka), (j, kb), (l, kc)] g) := (ps_par3 hc hN hi hj hl hij hil hjl hx hy hz ha hw hs).imp fun D σ H h => tOf_parX3 hp D σ H hn h
end
end MP
namespace MP
open PySem PySem.Spec PyProof.Rows L2 RL
/-! ### defs that may raise: exceptions by the names of their classes, with nothing of their own in them -/
inductive Rz where
  | ok (d : PyData)
  | ex (n : Str)
abbrev FX := List Sl → Sto → Option (Rz × Sto)
def fDefX (n m p q : Nat) (f : DS) : FX := fun as so => if as.length = n ∧ so.length = p then
    (f (as.map some ++ List.replicate (m - n) none) (so ++ List.replicate q .no)).bind fun r => match r.1 with
      | .rt d => some (.ok d, r.2.take p)
      | .nx _ => some (.ok .none, r.2.take p)
      | .ex c => some (.ex c, r.2.take p)
      | _ => none
  else none
/-- what an exception of the class that is named so must keep to -/
def WEx (mg : Str → Option Value) (E : XK) : Str → Hp → Prop := fun n H => ∀ C, mg n = some (.ref C) → E (.ref C) none H
def RzOk (K : PySem.W.Frag) (mg : Str → Option Value) (F H : Hp) (Q : VK) (E : XK) : Rz → Prop
  | .ok d => ∀ v, Dq K F v d → Q v H
  | .ex n => WEx mg E n H
def spX (K : PySem.W.Frag) (mg : Str → Option Value) (n : Nat) (G : FX) : Sp := fun vs H Q E => vs.length = n ∧ ∃ F ow so as d so', RelO K F H ow so ∧ RelS K F ow (vs.map some) (as.map some) ∧ G as so = some (d, so') ∧
  ∀ F' H', RelO K F' H' ow so' → Stp ow F H F' H' → RzOk K mg F' H' Q E d
section
variable {K : PySem.W.Frag} {mg : Str → Option Value}
theorem body_ofX {N : List Str} {n p q : Nat} {f : DS} (vs : List V) (H : Hp) (Q : VK) (E : XK) (h : spX K mg n (fDefX n N.length p q f) vs H Q E) : tOfS K p (WEx mg E) f { nx := fun _ H' => Q .non H', rt := Q } (L2.start N vs) H := by
  obtain ⟨hn, F, ow, so, as, d, so', r0, rs, e, k⟩ := h
  have la : vs.length = as.length := by have := rs.len; simpa using this
  have e : (if as.length = n ∧ so.length = p then _ else none) = some (d, so') := e
  by_cases hc : as.length = n ∧ so.length = p
  · rw [if_pos hc] at e
    obtain ⟨⟨fl, so1⟩, e1, e2⟩ := Option.bind_eq_some_iff.mp e
    have hp : so.length = p := hc.2
    have ho : ow.length = p := by rw [r0.len]; exact hp
    have nn : ∀ a : Addr, some a ∈ ow ++ List.replicate q none ↔ some a ∈ ow := fun a => by
      rw [List.mem_append, List.mem_replicate]
      constructor
      · rintro (h | h)
        · exact h
        · cases h.2
      · exact .inl
    have get1 : ∀ {m : Nat} {a : Addr}, (ow ++ List.replicate q none)[m]? = some (some a) → m < p ∧ ow[m]? = some (some a) := fun {m a} h => by
      by_cases hm : m < p
      · rw [List.getElem?_append_left (by omega)] at h
        exact ⟨hm, h⟩
      · rw [List.getElem?_append_right (by omega)] at h
        rw [List.getElem?_replicate] at h
        split at h <;> cases h
    have r1 : RelO K F H (ow ++ List.replicate q none) (so ++ List.replicate q .no) := by
      refine ⟨r0.sub, by rw [List.length_append, List.length_append, r0.len, List.length_replicate, List.length_replicate], fun m a w ha hw => ?_, fun i j a hi hj => ?_, fun m a ha => r0.old m a (get1 ha).2⟩
      · by_cases hm : m < p
        · rw [List.getElem?_append_left (by omega)] at ha hw
          exact r0.own m a w ha hw
        · rw [List.getElem?_append_right (by omega), List.getElem?_replicate] at hw
          split at hw
          · cases hw
            cases a <;> trivial
          · cases hw
      · exact r0.inj i j a (get1 hi).2 (get1 hj).2
    have rs1 : RelS K F (ow ++ List.replicate q none) (L2.start N vs) (as.map some ++ List.replicate (N.length - n) none) := by
      refine ⟨?_, fun i v s hv hs => ?_⟩
      · unfold L2.start
        rw [List.length_append, List.length_append, List.length_map, List.length_map, List.length_replicate, List.length_replicate, la, hc.1]
      · unfold L2.start at hv
        by_cases hi : i < as.length
        · rw [List.getElem?_append_left (by rw [List.length_map]; omega)] at hv hs
          have q := rs.ats i v s hv hs
          cases s with
          | none => trivial
          | some s =>
            obtain ⟨u, hu, q⟩ := q
            refine ⟨u, hu, ?_⟩
            cases s with
            | d x => exact q
            | s ns => exact q
            | o j =>
              obtain ⟨a, ha, e⟩ := q
              exact ⟨a, by rw [List.getElem?_append_left (List.getElem?_eq_some_iff.mp ha).1]; exact ha, e⟩
            | p j =>
              obtain ⟨a, b, c, z, ha, hb, e⟩ := q
              exact ⟨a, b, c, z, by rw [List.getElem?_append_left (List.getElem?_eq_some_iff.mp ha).1]; exact ha, by rw [List.getElem?_append_left (List.getElem?_eq_some_iff.mp hb).1]; exact hb, e⟩
            | x t => exact sx_ow (fun k _ a ha => by rw [List.getElem?_append_left (List.getElem?_eq_some_iff.mp ha).1]; exact ha) q
        · rw [List.getElem?_append_right (by rw [List.length_map]; omega), List.getElem?_replicate] at hs
          split at hs
          · cases hs; trivial
          · cases hs
    refine ⟨F, _, _, _, fl, so1, r1, rs1, e1, fun F' H' ow' r' s' t' => ?_⟩
    have lt' : ow'.length = p + q := by rw [t'.1, List.length_append, List.length_replicate, ho]
    have same : ∀ m, m < p → ow'[m]? = ow[m]? := fun m hm => by
      rcases t'.2 m with z | ⟨z, _⟩
      · rw [z, List.getElem?_append_left (by omega)]
      · omega
    have r2 : RelO K F' H' ow (so1.take p) := by
      have l1 : so1.length = p + q := by rw [← r'.len]; exact lt'
      refine ⟨r'.sub, by rw [List.length_take, ho, l1]; omega, fun m a w ha hw => ?_, r0.inj, fun m a ha => ?_⟩
      · have hm : m < p := by have := (List.getElem?_eq_some_iff.mp ha).1; omega
        rw [List.getElem?_take_of_lt hm] at hw
        exact r'.own m a w (by rw [same m hm]; exact ha) hw
      · have hm : m < p := by have := (List.getElem?_eq_some_iff.mp ha).1; omega
        exact r'.old m a (by rw [same m hm]; exact ha)
    have s2 : Stp ow F H F' H' := ⟨s'.fz, fun a o h => s'.keep a o (fun z => h ((nn a).mp z)), fun a o h => s'.own a o (fun z => h ((nn a).mp z)), s'.live⟩
    cases fl with
    | nx ρ => cases e2; exact fun σ _ => k F' H' r2 s2 _ .non
    | rt d' => cases e2; exact fun v hv => k F' H' r2 s2 v hv
    | bk ρ => cases e2
    | ct ρ => cases e2
    | ex n => cases e2; exact fun C hC => k F' H' r2 s2 C hC
  · rw [if_neg hc] at e
    cases e
end
structure CalX (P : Program) (w : World) (K : PySem.W.Frag) (mg : Str → Option Value) (base : Heap) (k : Nat) (x : Str) (sp : Sp) : Prop where
  ex : ∃ (f : Addr) (fd : FuncData) (ps : List Str), FnOk P w K mg base (L2.CX P w) k f fd ps sp ∧ mg x = some (.ref f) ∧ PySem.W.keepIn K (.ref f) = true ∧ Binds K fd ps []
section
variable {P : Program} {w : World} {K : PySem.W.Frag} {mg : Str → Option Value} {base : Heap} {x : Str} {st : Stmt} {N ps : List Str} {k n p q : Nat} {f : DS}
theorem mk_calX (D : Df K mg x st) (S : FnScope N ps (defScope st)) (hn : ps.length = n)
    (hb : ∀ (kV doc pm : Value) (an : Option Addr) (cdv ct : Value) (us : List Value), us.length = ps.length → bindArgs (PySem.W.fnOf x x (defArgs st) (defBody st) (defScope st) .none kV doc pm an cdv ct) ⟨us, []⟩ = pure (ps.zip us))
    (h : ∀ (f0 : Addr) (cdv : Value) (A : Around) (outer : List Env) (s : Shared) (H : Hp) (E : XK), Room k (A.deeper (envOfC x (defScope st) s.heap.objs.size f0 cdv)) →
      PDSs (cxOf (L2.CX P w) P w K mg base N x (defScope st) f0 cdv A outer s H E) p (WEx mg E) (defBody st) f) :
    CalX P w K mg base (k + 1) x (spX K mg n (fDefX n N.length p q f)) := by
  obtain ⟨f0, fd, F, g⟩ := D.ex
  exact ⟨⟨f0, fd, ps, F.okX S (fun vs H Q E h => by rw [hn]; exact h.1) fun cdv A outer s H vs Q E hr hsp => ⟨_, h f0 cdv A outer s H E hr, body_ofX vs H Q E hsp⟩, g, F.kp, F.binds hb⟩⟩
end
/-! ### raise X("..") -/
structure ExC (K : PySem.W.Frag) (mg : Str → Option Value) (n : Str) : Prop where
  ex : ∃ (C : Addr) (bmB : List Value) (B newId initId : String), ExcBaseFacts B newId initId bmB ∧ PySem.W.excIn K C bmB newId = true ∧ mg n = some (.ref C) ∧ PySem.W.keepIn K (.ref C) = true ∧
    PySem.W.subIn K (.ref C) (.type "BaseException") = some true ∧ PySem.W.typeIn K (.ref C) = some (.type "type")
def sRaise (n : Str) : DS := fun _ so => some (.ex n, so)
/-- an exception that leaves the def -/
def Lets (X : Cx) (E : XK) : Prop := Takes X (fun cls d _ H => E cls d H)
theorem pds_raise {X : Cx} {E : XK} {p : Nat} {x : Str} {msg : Str} {j : Nat} {p1 p2 p3 pos : Pos} (hc : X.calm = true) (tk : Lets X E) (ex : ExC X.K X.mg x) (hg : Gl X x) (hdb : (x == ("__debug__" : Str)) = false := by decide)
    (hs : starEach [.Constant (.str msg) j p2] X.env = (false, eval (.Constant (.str msg) j p2) X.env) :: starEach [] X.env := by rfl) :
    PDS X p (WEx X.mg E) (.Raise (some (.Call (.Name x p1) [.Constant (.str msg) j p2] [] p3)) none pos) (sRaise x) := by
  obtain ⟨C, bmB, B, newId, initId, F, q, hm, kC, h1, h2⟩ := ex.ex
  refine (ps_raise hc tk (SkE.pmk_own1 F q hm kC (raises_own h1 h2) hg pe_str hs hdb)).imp fun D σ H h => ?_
  obtain ⟨F1, ow, ρ, so, fl, so', r0, rs, e, k⟩ := h
  cases e
  exact (k F1 H ow r0 (Stp.refl _ _ _) (OwTo.refl _ _ _)) C hm
/-! ### calls of what may raise -/
def callX (G : FX) (g : DL) (ρ : Slots) (so : Sto) : Option (Rz × Sto) := (g ρ so).bind fun p => (G (p.1.map .d) []).map fun r => (r.1, p.2)
def sDropX (G : FX) (g : DL) : DS := fun ρ so => (callX G g ρ so).bind fun r => match r.1 with
  | .ok _ => some (.nx ρ, r.2)
  | .ex n => some (.ex n, r.2)
def sRetX (G : FX) (g : DL) : DS := fun ρ so => (callX G g ρ so).bind fun r => match r.1 with
  | .ok d => some (.rt d, r.2)
  | .ex n => some (.ex n, r.2)
section
variable {X : Cx} {K : PySem.W.Frag} {k j n : Nat} {x : Str} {G : FX} {pc pos : Pos} {e : Expr} {es : List Expr} {g : DL} {E : XK}
/-- what the call is asked for -/
theorem tOf_callX {p : Nat} {mg : Str → Option Value} {Q : VK} {E : XK} {σ : L2.St} {H : Hp} {F : Hp} {ow : Ads} {ρ : Slots} {so so1 : Sto} {r : Rz} (r0 : RelO K F H ow so) (rs : RelS K F ow σ ρ) (e : callX G g ρ so = some (r, so1)) (hn : ∀ ρ so p, g ρ so = some p → p.1.length = n)
    (kk : ∀ F' H', RelO K F' H' ow so1 → Stp ow F H F' H' → RzOk K mg F' H' Q E r) : tCall (spX K mg n G) [] E (tOfA K g) σ H Q := by
  obtain ⟨⟨ds, so2⟩, e1, e2⟩ := Option.bind_eq_some_iff.mp e
  obtain ⟨⟨r2, so3⟩, e3, e4⟩ := Option.map_eq_some_iff.mp e2
  cases e4
  refine ⟨F, ow, ρ, so, ds, _, r0, rs, e1, fun F1 H1 vs r1 s1 d1 => ?_⟩
  show spX K mg n G (vs ++ []) H1 Q E
  rw [List.append_nil]
  exact ⟨by rw [d1.len]; exact hn _ _ _ e1, F1, [], [], ds.map .d, _, so3, r1.none, relS_args d1, e3, fun F2 H2 r2 s2 => kk F2 H2 (r1.grow s2 r2.sub) (s1.trans s2.some_of)⟩
theorem pe_callXE (c : CalX X.prog X.w X.K X.mg X.base k x (spX X.K X.mg n G)) (hr : Room j X.A) (hk : k ≤ j) (hg : Gl X x) (hp : Passes (L2.CX X.prog X.w) X E) {t : TA} (ha : PA X (e :: es) t)
    (hdb : (x == ("__debug__" : Str)) = false := by decide) (he : starEach (e :: es) X.env = (false, eval e X.env) :: starEach es X.env := by rfl) (hpl : (backTo pos (starEach es X.env)).any (·.1) = false := by rfl) :
    PE X (.Call (.Name x pc) (e :: es) [] pos) (tCall (spX X.K X.mg n G) [] E t) := by
  obtain ⟨f, fd, ps, F, hm, kp, b⟩ := c.ex
  exact pe_call F (hr.mono hk) hg hm kp b .nil hp ha hdb he hpl
theorem lets_pass (tk : Lets X E) : Passes (L2.CX X.prog X.w) X E := passes_call tk fun _ _ _ _ h => h
theorem pds_dropX {p : Nat} {pe : Pos} (tk : Lets X E) (c : CalX X.prog X.w X.K X.mg X.base k x (spX X.K X.mg n G)) (hr : Room j X.A) (hk : k ≤ j) (hg : Gl X x) (ha : PDA X (e :: es) g) (hn : ∀ ρ so p, g ρ so = some p → p.1.length = n)
    (hdb : (x == ("__debug__" : Str)) = false := by decide) (he : starEach (e :: es) X.env = (false, eval e X.env) :: starEach es X.env := by rfl) (hpl : (backTo pos (starEach es X.env)).any (·.1) = false := by rfl)
    (hs : swapsWith (.Call (.Name x pc) (e :: es) [] pos) none pe.line X.env = pure false := by rfl) : PDS X p (WEx X.mg E) (.Expr (.Call (.Name x pc) (e :: es) [] pos) pe) (sDropX G g) :=
  (ps_expr (pe_callXE c hr hk hg (lets_pass tk) ha hdb he hpl) hs).imp fun D σ H h => by
    obtain ⟨F, ow, ρ, so, fl, so', r0, rs, e, kk⟩ := h
    obtain ⟨⟨r, so1⟩, e1, e2⟩ := Option.bind_eq_some_iff.mp e
    refine tOf_callX (p := p) r0 rs e1 hn fun F' H' r' s' => ?_
    cases r with
    | ok d => cases e2; exact fun v _ => kk F' H' ow r' s' (OwTo.refl _ _ _) σ (rs.mono s'.fz)
    | ex m => cases e2; exact kk F' H' ow r' s' (OwTo.refl _ _ _)
end
end MP
namespace MP
open PySem PySem.Spec PyProof.Rows L2 RL
/-! ### dicts of a def's own, keys tuples of ints (and of such tuples) -/
abbrev DK := List (PyData × PyData)
def dctVal (kvs : DK) (d : PyData) : Option PyData := (kvs.find? fun p => decide (keyD p.1 = keyD d)).map (·.2)
def dctPut (kvs : DK) (d v : PyData) : DK := if (dctVal kvs d).isSome then kvs.map (fun p => if keyD p.1 = keyD d then (p.1, v) else p) else kvs ++ [(d, v)]
section
variable {K : PySem.W.Frag} {F H : Hp} {ow : Ads} {so : Sto} {σ : L2.St} {ρ : Slots} {L : DL3} {kvs : DK}
theorem DctAll.len (h : DctAll K F L kvs) : L.length = kvs.length := Paired.length h.all
theorem DctAll.val (h : DctAll K F L kvs) {d : PyData} {k : NestedKey} (e : keyD d = some k) : (atL L k).isSome = (dctVal kvs d).isSome ∧ ∀ x, dctVal kvs d = some x → ∃ v, atL L k = some v ∧ Dq K F v x := by
  have := h.all
  clear h
  induction this with
  | nil => exact ⟨rfl, fun x z => nomatch z⟩
  | @cons p q L kvs z t ih =>
    unfold atL dctVal at ih ⊢
    rw [List.find?_cons, List.find?_cons]
    by_cases c : p.1 = k
    · rw [decide_eq_true c, decide_eq_true (by rw [z.1, c, e])]
      exact ⟨rfl, fun x hx => ⟨_, rfl, by cases hx; exact z.2.2.2⟩⟩
    · rw [decide_eq_false c, decide_eq_false (by rw [z.1, e]; exact fun y => c (Option.some.inj y))]
      exact ih
theorem putL_keys (L : DL3) (k : NestedKey) (b : Addr) (v : V) : (putL L k b v).map (·.1) = if (atL L k).isSome then L.map (·.1) else L.map (·.1) ++ [k] := by
  unfold putL
  split
  · rw [List.map_map]
    refine List.map_congr_left fun p _ => ?_
    show (if p.1 = k then (p.1, p.2.1, v) else p).1 = p.1
    split <;> rfl
  · rw [List.map_append]
    rfl
theorem atL_none {L : DL3} {k : NestedKey} (h : (atL L k).isSome = false) : k ∉ L.map (·.1) := by
  intro m
  obtain ⟨p, hp, e⟩ := List.mem_map.mp m
  unfold atL at h
  rw [Option.isSome_map] at h
  have : (L.find? fun p => decide (p.1 = k)).isSome = true := by
    rw [List.find?_isSome]
    exact ⟨p, hp, decide_eq_true e⟩
  rw [h] at this
  cases this
theorem DctAll.put (h : DctAll K F L kvs) {d x : PyData} {k : NestedKey} {b : Addr} {v : V} (e : keyD d = some k) (l : k.depth ≤ 8) (qb : Dq K F (.ref b) d) (qv : Dq K F v x) : DctAll K F (putL L k b v) (dctPut kvs d x) := by
  have es := (h.val e).1
  refine ⟨?_, ?_⟩
  · have all := h.all
    unfold putL dctPut
    rw [es]
    split
    · clear es h
      rename_i hh
      clear hh
      induction all with
      | nil => exact .nil
      | @cons p q L kvs z t ih =>
        rw [List.map_cons, List.map_cons]
        refine .cons ?_ ih
        by_cases c : p.1 = k
        · rw [if_pos c, if_pos (by rw [z.1, c, e])]
          exact ⟨z.1, z.2.1, z.2.2.1, qv⟩
        · rw [if_neg c, if_neg (by rw [z.1, e]; exact fun y => c (Option.some.inj y))]
          exact z
    · clear es h
      rename_i hh
      clear hh
      induction all with
      | nil => exact .cons ⟨e, l, qb, qv⟩ .nil
      | cons z t ih => exact .cons z ih
  · rw [putL_keys]
    split
    · exact h.nd
    · rename_i hh
      have n := atL_none (by simpa using hh : (atL L k).isSome = false)
      rw [List.nodup_append]
      exact ⟨h.nd, by simp, fun a ha c hc z => n (by rw [List.mem_singleton] at hc; rw [← hc, ← z]; exact ha)⟩
/-- the dict of one's own is changed -/
theorem relO_putW {k : Nat} {a : Addr} {o : HO} {w w' : Own} (r : RelO K F H ow so) (ha : ow[k]? = some (some a)) (h : so[k]? = some w) (fa : F a = none) (hd : OwnOk K F (upd H a o) (some a) w') :
    RelO K F (upd H a o) ow (so.set k w') ∧ Stp ow F H F (upd H a o) := by
  refine ⟨⟨fun b o hb => ?_, by rw [List.length_set]; exact r.len, fun m b u hb hu => ?_, r.inj, fun m b hb => live_upd (r.old m b hb)⟩, ⟨Same.refl _, fun c o n hc => ?_, fun _ _ _ _ h => h, fun c h => live_upd h⟩⟩
  · rw [upd_ne (ne_of_none hb fa)]
    exact r.sub b o hb
  · rcases get_set hu with ⟨rfl, rfl⟩ | ⟨nm, hu⟩
    · rw [ha] at hb
      cases hb
      exact hd
    · have q := r.own m b u hb hu
      cases u with
      | no => cases b <;> trivial
      | lst es =>
        cases b with
        | none => exact q.elim
        | some b =>
          obtain ⟨fb, us, hu', hd2⟩ := q
          have nb : b ≠ a := fun e => nm (r.inj m k a (by rw [← e]; exact hb) ha)
          exact ⟨fb, us, by rw [upd_ne nb]; exact hu', hd2⟩
      | dct es =>
        cases b with
        | none => exact q.elim
        | some b =>
          obtain ⟨fb, us, hu', hd2⟩ := q
          have nb : b ≠ a := fun e => nm (r.inj m k a (by rw [← e]; exact hb) ha)
          exact ⟨fb, us, by rw [upd_ne nb]; exact hu', hd2⟩
      | x t0 =>
        cases b with
        | none => exact q.elim
        | some b =>
          obtain ⟨fb, us, hu', hd2⟩ := q
          have nb : b ≠ a := fun e => nm (r.inj m k a (by rw [← e]; exact hb) ha)
          exact ⟨fb, us, by rw [upd_ne nb]; exact hu', hd2⟩
      | fz d =>
        cases b with
        | none => exact q.elim
        | some b => exact ⟨live_upd q.1, q.2⟩
  · have nc : c ≠ a := fun e => n (by rw [e]; exact List.mem_of_getElem? ha)
    rw [upd_ne nc]
    exact hc
end
/-! #### d[k] -/
/-! #### k in d, k not in d -/
/-! #### d[k] = v -/
/-! ### new things of one's own: a dict, a list -/
end MP
namespace MP
open PySem PySem.Spec PyProof.Rows L2 RL
/-! ### a thing of one's own as the last argument -/
/-! ### defs that hand back a dict of their own -/
end MP
namespace RL
open PySem PySem.Spec PyProof.Rows L2
/-! ### first, *others = a tuple -/
section
variable {P : Program} {w : World} {A : Around} {E : Value → Shared → Prop} {s : Shared}
theorem head_tuple {l : Addr} {arr : Array Value} {u : Value} {us : List Value} {Q : List Value → Shared → Prop} (hh : A.handled = none) (ht : IsTup s.heap l arr) (ha : arr.toList = u :: us) (hz : arr.size ≤ 16384)
    (fin : ∀ (g : Heap) (tk : Nat), (∀ c o, s.heap.get? c = some o → g.get? c = some o) → Q [u, .ref g.objs.size] { s with heap := g.push { cls := .type "list", data := .seq us.toArray }, toks := tk }) :
    wpAny (model P w) A (unpackItems (.ref l) 2 (some 1)) Q E s := by
  obtain ⟨ol, hol, _⟩ := id ht
  have hl0 : l < s.heap.objs.size := Heap.lt_size hol
  have hne : l ≠ s.heap.objs.size := Nat.ne_of_lt hl0
  have sz : arr.size = us.length + 1 := by
    have e := congrArg List.length ha
    rwa [Array.length_toList, List.length_cons] at e
  unfold unpackItems
  refine wpAny_bind ?_
  unfold notIterableAtAll
  refine wpAny_bind (wpAny_specialOf ht.typeIs slot_tuple_iter.lookup (wpAny_pure ?_))
  simp only [Bool.false_eq_true, if_false]
  refine wpAny_bind (wpAny_holding (iter_tuple ht ?_))
  refine wpAny_bind (wpAny_holding (draw_tuple hne 1 0 _ _ ⟨_, Heap.get?_push_size _ rfl, rfl, rfl⟩ (ht.push _) (by omega) fun g1 i1 s1 => ?_))
  have t1 : IsTup g1 l arr := (ht.push _).extBut s1.extBut hne
  rw [Nat.zero_add] at i1
  obtain ⟨oi, hoi, _⟩ := id i1
  obtain ⟨ol1, hol1, _⟩ := id t1
  have e1 : (arr.toList.drop 0).take 1 = [u] := by rw [ha]; rfl
  have e2 : arr.toList.drop 1 = us := by rw [ha]; rfl
  rw [e1]
  rw [if_neg (show ¬ ([u].length < 1) by simp)]
  refine wpAny_bind (wpAny_holding (PySem.W.kun_collect (s := { s with heap := g1 }) (ax := l) (T := "tuple_iterator") (.inr (.inr (.inr rfl))) (Walks.tuple (A := A.in1) hh s.heap.objs.size l hne arr) (fun j v st => st.1.typeIs) (k := 1) (by omega) ⟨i1, t1⟩ (Heap.lt_size hoi) (Heap.lt_size hol1) (fun g2 tk k2 => ?_) (by rw [sizeLine_eq]; omega)))
  rw [e2]
  rw [if_neg (show ¬ (us.length < 2 - 1 - 1) by omega)]
  have e3 : us.take (us.length - (2 - 1 - 1)) = us := List.take_of_length_le (by omega)
  have e4 : us.drop (us.length - (2 - 1 - 1)) = [] := List.drop_of_length_le (by omega)
  show wpAny _ _ (newList (us.take (us.length - (2 - 1 - 1))) >>= fun d => pure ([u] ++ [d] ++ us.drop (us.length - (2 - 1 - 1)))) _ _ _
  rw [e3, e4]
  refine wpAny_bind (wpAny_newList (wpAny_pure ?_) (by rw [sizeLine_eq]; omega))
  have kp : ∀ c o, s.heap.get? c = some o → g2.get? c = some o := fun c o e => by
    have hc : c ≠ s.heap.objs.size := Nat.ne_of_lt (Heap.lt_size e)
    exact k2 c o hc (s1.extBut c o hc (Heap.get?_push_of_some _ e))
  exact fin g2 tk kp
end
/-- the new list is there before the names are stored -/
def gHead (K : PySem.W.Frag) (t u : TG) : TG := fun v σ H Q => ∃ a x xs, v = .ref a ∧ SqT K H a (x :: xs) ∧ xs.length ≤ 5000 ∧ ∀ q, H q = none → t x σ (upd H q (.lst xs)) fun σ1 H1 => u (.ref q) σ1 H1 Q
theorem pg_head {X : Cx} {a b : Expr} {k : Nat} {sp pos : Pos} {t u : TG} (hc : X.calm = true) (h1 : PG X a t) (h2 : PG X b u)
    (hm : (assignEach [a, .Starred b sp] X.env) = [(false, assign a X.env), (true, assign b X.env)] := by rfl) : PG X (.Tuple [a, .Starred b sp] k pos) (gHead X.K t u) := by
  refine ⟨fun pins s σ H v z Q I r h => ?_⟩
  obtain ⟨l, x, xs, rfl, hq, l5, h⟩ := h
  cases r
  obtain ⟨its, rv, pl, _⟩ := I.tuple hq
  cases rv with
  | cons rx rr =>
    rename_i ux uxs
    have lx := rr.length
    rw [assign_Tuple]
    refine wpAny_bind (wpAny_standAt ?_)
    unfold unpack
    rw [hm]
    refine wpAny_bind (wpAny_holding (head_tuple (u := ux) (us := uxs) (I.ok.hd hc) pl (by simp) (by simp; omega) fun g tk kp => ?_))
    have I1 : Inv X pins σ H { s with heap := g, toks := tk } := I.kept kp
    have I2 : Inv X pins σ (upd H g.objs.size (.lst xs)) { s with heap := g.push { cls := .type "list", data := .seq uxs.toArray }, toks := tk } :=
      I1.lnew (t' := tk) rr (by rw [sizeLine_eq]; omega)
    refine assignInOrder_cons (thn (h1.run pins _ σ _ _ _ _ I2 rx (h _ I1.fresh)) fun _ s1 ⟨σ1, H1, I3, q1⟩ => ?_)
    refine assignInOrder_cons (thn (h2.run pins s1 σ1 H1 (.ref g.objs.size) _ _ I3 rfl q1) fun _ s2 ⟨σ2, H2, I4, q2⟩ => ?_)
    exact assignInOrder_nil ⟨σ2, H2, I4, q2⟩
/-! ### slices with a step -/
/-- the places of xs[lo:hi:st], of n -/
def stepIx (n : Nat) (lo hi : Option Int) (st : Int) : List Nat :=
  (List.range (Builtin.Slice.slicePlaces (Builtin.Slice.sliceAdjust lo hi st (n : Int)).1 (Builtin.Slice.sliceAdjust lo hi st (n : Int)).2 st)).map fun (k : Nat) => ((Builtin.Slice.sliceAdjust lo hi st (n : Int)).1 + (k : Int) * st).toNat
def pickIx {α : Type} (xs : List α) (js : List Nat) : List α := js.filterMap fun j => xs[j]?
section
variable {P : Program} {w : World} {A : Around} {E : Value → Shared → Prop} {s : Shared}
theorem sliced3 {sl : Addr} {vl vu vs : Value} {lo hi : Option Int} {st : Int} {n : Nat} {Q : Int × Int × Nat → Shared → Prop} (hs : s.heap.IsSliceOf sl vl vu vs) (pl : IsPart vl lo) (pu : IsPart vu hi) (ps : IsPart vs (some st)) (h0 : st ≠ 0)
    (h : Q ((Builtin.Slice.sliceAdjust lo hi st (n : Int)).1, st, Builtin.Slice.slicePlaces (Builtin.Slice.sliceAdjust lo hi st (n : Int)).1 (Builtin.Slice.sliceAdjust lo hi st (n : Int)).2 st) s) :
    wpAny (model P w) A (Builtin.Slice.sliceApplied (.ref sl) (pure (n : Int))) Q E s := by
  obtain ⟨os, e1, e2, e3⟩ := id hs
  unfold Builtin.Slice.sliceApplied Builtin.Slice.sliceFields
  refine wpAny_bind (wpAny_bind (wpAny_field e1 e3 (x := vl) rfl (wpAny_bind (wpAny_field e1 e3 (x := vu) rfl (wpAny_bind (wpAny_field e1 e3 (x := vs) rfl (wpAny_pure ?_)))))))
  refine wpAny_bind (HT.slicePart_ ps ?_)
  show wpAny _ _ (if (st == 0) = true then _ else _) _ _ s
  rw [if_neg (by simpa using h0)]
  exact wpAny_bind (HT.slicePart_ pl (wpAny_bind (HT.slicePart_ pu (wpAny_bind (wpAny_pure (wpAny_pure h))))))
theorem item_step {t sl : Addr} {arr : Array Value} {vl vu vs : Value} {lo hi : Option Int} {st : Int} {Q : Value → Shared → Prop} (ht : IsTup s.heap t arr) (hs : s.heap.IsSliceOf sl vl vu vs) (pl : IsPart vl lo) (pu : IsPart vu hi) (ps : IsPart vs (some st))
    (h0 : st ≠ 0) (h1 : st ≠ 1) (hz : (stepIx arr.size lo hi st).length ≤ sizeLine)
    (h : Q (.ref s.heap.objs.size) { s with heap := s.heap.push { cls := .type "tuple", data := .seq (pickIx arr.toList (stepIx arr.size lo hi st)).toArray } }) : wpAny (model P w) A (getItem (.ref t) (.ref sl)) Q E s := by
  obtain ⟨os, e1, e2, e3⟩ := id hs
  have hT : s.TypeIs (.ref sl) "slice" := ⟨os, e1, e2⟩
  unfold getItem
  refine wpAny_holding ?_
  first | refine wpAny_bind (wpAny_pure ?_) | skip
  refine wpAny_bind (wpAny_sequenceKey ht.typeIs (by decide) ?_)
  refine wpAny_bind (wpAny_callSpecial?_slot (name := Str.ofString "__getitem__") ht.typeIs PyProof.Rows.slot_tuple_getitem (wpAny_call_entry PyProof.Rows.slot_tuple_getitem ht.typeIs PyProof.Rows.entry_tuple_getitem ?_ (PyProof.Rows.args_tuple_getitem _ _)))
  show wpAny _ _ (Builtin.Tuple.tupleItemsOf (.ref t) >>= _) _ _ s
  refine wpAny_bind (tupleItemsOf_ ht (wpAny_bind (wpAny_typeOf hT ?_)))
  rw [if_pos (by decide)]
  refine wpAny_bind (sliced3 hs pl pu ps h0 ?_)
  have no : ¬ (((Builtin.Slice.sliceAdjust lo hi st (arr.size : Int)).1 == 0 && st == 1 && (Builtin.Slice.slicePlaces (Builtin.Slice.sliceAdjust lo hi st (arr.size : Int)).1 (Builtin.Slice.sliceAdjust lo hi st (arr.size : Int)).2 st) == arr.size) = true) := by
    intro q
    rw [Bool.and_eq_true, Bool.and_eq_true] at q
    exact h1 (eq_of_beq q.1.2)
  show wpAny _ _ (if ((Builtin.Slice.sliceAdjust lo hi st (arr.size : Int)).1 == 0 && st == 1 && (Builtin.Slice.slicePlaces (Builtin.Slice.sliceAdjust lo hi st (arr.size : Int)).1 (Builtin.Slice.sliceAdjust lo hi st (arr.size : Int)).2 st) == arr.size) = true then _ else _) _ _ s
  rw [if_neg no]
  have e : ∀ (n : Nat) (l : Int), ((List.range n).filterMap fun (m : Nat) => arr[(l + (m : Int) * st).toNat]?) = pickIx arr.toList ((List.range n).map fun (k : Nat) => (l + (k : Int) * st).toNat) := fun n l => by
    unfold pickIx
    rw [List.filterMap_map]
    congr 1
    funext m
    show _ = arr.toList[_]?
    rw [Array.getElem?_toList]
  rw [e]
  have hz2 : sizeOk (.seq (pickIx arr.toList (stepIx arr.size lo hi st)).toArray) := by
    show (pickIx arr.toList (stepIx arr.size lo hi st)).toArray.size ≤ sizeLine
    rw [List.size_toArray]
    exact Nat.le_trans (List.length_filterMap_le _ _) hz
  first
    | exact wpAny_bind (m := Builtin.Tuple.tupleExact _) (wpAny_newObj_type (wpAny_pure ⟨_, rfl, wpAny_pure h⟩) hz2)
    | exact wpAny_bind (m := Builtin.Tuple.tupleExact _) (wpAny_newObj_type (wpAny_bind (wpAny_pure (wpAny_pure ⟨_, rfl, wpAny_pure h⟩))) hz2)
    | exact wpAny_bind (wpAny_bind (m := Builtin.Tuple.tupleExact _) (wpAny_newObj_type (wpAny_pure (wpAny_pure ⟨_, rfl, wpAny_pure h⟩)) hz2))
    | exact wpAny_bind (wpAny_bind (m := Builtin.Tuple.tupleExact _) (wpAny_newObj_type (wpAny_pure ⟨_, rfl, wpAny_pure h⟩) hz2))
end
/-- the list's way to the same places -/
theorem bounds_up {n : Nat} {a k : Nat} (hk : 1 ≤ k) : sliceRange (sliceBounds (some (a : Int)) none (some (k : Int)) n).1 (sliceBounds (some (a : Int)) none (some (k : Int)) n).2.1 (sliceBounds (some (a : Int)) none (some (k : Int)) n).2.2 = stepIx n (some (a : Int)) none (k : Int) := by
  have k0 : (k : Int) > 0 := by omega
  have k1 : ¬ (k : Int) < 0 := by omega
  have a1 : ¬ (a : Int) < 0 := by omega
  have e1 : sliceBounds (some (a : Int)) none (some (k : Int)) n = (max 0 (min (a : Int) n), (n : Int), (k : Int)) := by simp [sliceBounds, k0, a1, show ¬ k = 0 by omega]
  have e2 : Builtin.Slice.sliceAdjust (some (a : Int)) none (k : Int) (n : Int) = (min (a : Int) n, (n : Int)) := by simp [Builtin.Slice.sliceAdjust, k1, a1]
  have e3 : max 0 (min (a : Int) n) = min (a : Int) n := by omega
  unfold stepIx
  rw [e1, e2, e3]
  unfold sliceRange Builtin.Slice.slicePlaces
  simp only [k0, if_true]
  have e4 : (if min (a : Int) n < n then ((n : Int) - min (a : Int) n + k - 1) / k else 0) = (if min (a : Int) n < n then ((n : Int) - min (a : Int) n - 1) / k + 1 else 0) := by
    split
    · have : (n : Int) - min (a : Int) n + k - 1 = (n : Int) - min (a : Int) n - 1 + 1 * k := by omega
      rw [this, Int.add_mul_ediv_right _ _ (by omega)]
    · rfl
  rw [e4]
  refine List.map_congr_left fun m _ => ?_
  rw [Int.mul_comm]
theorem bounds_down {n : Nat} : sliceRange (sliceBounds none none (some (-1)) n).1 (sliceBounds none none (some (-1)) n).2.1 (sliceBounds none none (some (-1)) n).2.2 = stepIx n none none (-1) := by
  have e1 : sliceBounds none none (some (-1)) n = ((n : Int) - 1, -1, -1) := by simp [sliceBounds]
  have e2 : Builtin.Slice.sliceAdjust none none (-1) (n : Int) = ((n : Int) - 1, -1) := by simp [Builtin.Slice.sliceAdjust]
  unfold stepIx
  rw [e1, e2]
  unfold sliceRange Builtin.Slice.slicePlaces
  simp only [show ¬ ((-1 : Int) > 0) by decide, if_false]
  have e4 : (if (n : Int) - 1 > -1 then ((n : Int) - 1 - -1 - -1 - 1) / (- -1) else 0) = (if (n : Int) - 1 > -1 then ((n : Int) - 1 - -1 - 1) / (- -1) + 1 else 0) := by
    split
    · rw [show (- -1 : Int) = 1 by decide, Int.ediv_one, Int.ediv_one]; omega
    · rfl
  rw [e4]
  refine List.map_congr_left fun m _ => ?_
  rw [Int.mul_comm]
/-! ### over the layer -/
def tSl3 (r : V → Option Int → Option Int → Option Int → Hp → VK → Prop) (te : TE) (tl th ts : L2.TO) : TE := fun σ H Q => te σ H fun x H1 => tl σ H1 fun l H2 => th σ H2 fun u H3 => ts σ H3 fun z H4 => r x l u z H4 Q
/-- which slices with a step are meant: from a place on, by a step of two or more; all from behind -/
inductive StepOk3 : Option Int → Option Int → Option Int → Prop
  | up (a k : Nat) : 2 ≤ k → StepOk3 (some (a : Int)) none (some (k : Int))
  | down : StepOk3 none none (some (-1))
def rStep (K : PySem.W.Frag) : V → Option Int → Option Int → Option Int → Hp → VK → Prop := fun x lo hi st H Q => StepOk3 lo hi st ∧ ∃ a xs z, x = .ref a ∧ st = some z ∧ (stepIx xs.length lo hi z).length ≤ 16000 ∧
  ((SqL K H a xs ∧ ∀ p, H p = none → Q (.ref p) (upd H p (.lst (pickIx xs (stepIx xs.length lo hi z))))) ∨ (SqT K H a xs ∧ NewT H (pickIx xs (stepIx xs.length lo hi z)) Q))
theorem vals_pick {xs : List V} {us : List Value} (r : Vals xs us) : ∀ js : List Nat, Vals (pickIx xs js) (pickIx us js)
  | [] => .nil
  | j :: js => by
    have ih := vals_pick r js
    unfold pickIx at ih ⊢
    rw [List.filterMap_cons, List.filterMap_cons]
    cases h : xs[j]? with
    | none =>
      have : us[j]? = none := by
        rw [List.getElem?_eq_none_iff] at h ⊢
        rw [← r.length]
        exact h
      rw [this]
      exact ih
    | some x =>
      obtain ⟨u, hu, ru⟩ := r.get h
      rw [hu]
      exact .cons ru ih
theorem pe_step {X : Cx} {e : Expr} {lo hi : Option Expr} {st : Expr} {te : TE} {tl th ts : L2.TO} {pos p2 : Pos} (he : PE X e te) (hl : PO X lo tl) (hu : PO X hi th) (hs : PO X (some st) ts) : PE X (.Subscript e (.Slice lo hi (some st) p2) pos) (tSl3 (rStep X.K) te tl th ts) := by
  refine ⟨fun pins s σ H Q I h => ?_⟩
  refine Subscript_ (thn (he.run pins s σ H _ I h) fun v s1 ⟨x, H1, I1, r1, q1⟩ => ?_)
  refine wpAny_Slice (thn (hl.run pins s1 σ H1 _ I1 q1) fun vl s2 ⟨l, H2, I2, pl, q2⟩ => thn (hu.run pins s2 σ H2 _ I2 q2) fun vu s3 ⟨u, H3, I3, pu, q3⟩ => thn (hs.run pins s3 σ H3 _ I3 q3) fun vz s4 ⟨z, H4, I4, pz, q4⟩ => ?_)
  obtain ⟨ok, a, xs, k, rfl, rfl, hz, q⟩ := q4
  cases r1
  have I5 : Inv X pins σ H4 { s4 with heap := s4.heap.push { cls := .type "slice", data := .fields #[vl, vu, vz] } } := I4.kept (t' := s4.toks) fun b ob q => Heap.get?_push_of_some _ q
  have hsl := Heap.IsSliceOf.new s4.heap vl vu vz
  have k0 : k ≠ 0 := by cases ok <;> omega
  have k1 : k ≠ 1 := by cases ok <;> omega
  show wpAny (model X.prog X.w) X.A (subscriptTail e (.Slice lo hi (some st) p2) (.ref a) (.ref s4.heap.objs.size)) (EP X pins σ Q) X.xe { s4 with heap := s4.heap.push { cls := .type "slice", data := .fields #[vl, vu, vz] } }
  rcases q with ⟨hq, q⟩ | ⟨hq, q⟩
  · obtain ⟨its, rv, pL, hzL⟩ := I5.list hq
    have lx := rv.length
    refine tail_any (T := "list") (id := "list.__getitem__") (ops := [.ref a, .ref s4.heap.objs.size]) pL.isList.typeIs slot_list_getitem.lookup ?_ (by with_unfolding_all rfl)
    refine wpAny_getItem_list_slice pL.isList hsl pl pu pz (by simpa using k0) ?_ (by rw [List.size_toArray, ← lx]; exact hzL)
    have ez : its.toArray.size = xs.length := by rw [List.size_toArray, lx]
    have ep : slicePick its.toArray l u (some k) = (pickIx its (stepIx xs.length l u k)).toArray := by
      have eb : sliceRange (sliceBounds l u (some k) its.toArray.size).1 (sliceBounds l u (some k) its.toArray.size).2.1 (sliceBounds l u (some k) its.toArray.size).2.2 = stepIx xs.length l u k := by
        rw [ez]
        cases ok with
        | up a k hk => exact bounds_up (by omega)
        | down => exact bounds_down
      unfold slicePick pickIx
      rw [eb]
      congr 2
      funext j
      simp
    rw [ep]
    refine ⟨.ref _, _, I5.laid (t' := s4.toks) (o := .lst (pickIx xs (stepIx xs.length l u k))) (fun b ob q => Heap.get?_push_of_some _ q) (Nat.le_refl _) ?_, rfl, q _ (I5.hok.fresh (Nat.le_refl _))⟩
    exact ⟨Nat.le_trans (List.length_filterMap_le _ _) (by rw [sizeLine_eq]; omega), _, 0, vals_pick rv _, Heap.get?_push_size _ rfl⟩
  · obtain ⟨its, rv, pT, _⟩ := I5.tuple hq
    have lx := rv.length
    refine tail_any (T := "tuple") (id := "tuple.__getitem__") (ops := [.ref a, .ref s4.heap.objs.size]) pT.typeIs PyProof.Rows.slot_tuple_getitem.lookup ?_ (by with_unfolding_all rfl)
    have ez : its.toArray.size = xs.length := by rw [List.size_toArray, lx]
    refine item_step pT hsl pl pu pz k0 k1 (by rw [ez, sizeLine_eq]; omega) ?_
    rw [ez]
    exact newT I5 (vals_pick rv _) (Nat.le_trans (List.length_filterMap_le _ _) (by rw [sizeLine_eq]; omega)) q
end RL
namespace RL
open PySem PySem.Spec PyProof.Rows L2
/-! ### zip(*xs), xs a list of tuples (b) or of lists, of one length -/
def SIt (b : Bool) (h : Heap) (t l : Addr) (i : Nat) : Prop := if b = true then h.IsTupleIter t l i else h.IsListIter t l i
def SOk (b : Bool) (h : Heap) (l : Addr) (arr : Array Value) : Prop := if b = true then h.IsTuple l arr else h.IsList l arr
abbrev itB (b : Bool) (l : Addr) : Obj := { cls := .type (if b = true then "tuple_iterator" else "list_iterator"), data := .fields #[.ref l, .int 0 0] }
theorem SIt.at {b : Bool} {h h' : Heap} {t l : Addr} {i : Nat} (x : SIt b h t l i) (k : ∀ o, h.get? t = some o → h'.get? t = some o) : SIt b h' t l i := by
  cases b
  · exact Heap.IsListIter.at x k
  · exact Heap.IsTupleIter.at x k
theorem SOk.at {b : Bool} {h h' : Heap} {l : Addr} {arr : Array Value} (x : SOk b h l arr) (k : ∀ o, h.get? l = some o → h'.get? l = some o) : SOk b h' l arr := by
  cases b
  · exact Heap.IsList.at x k
  · exact Heap.IsTuple.at x k
theorem SIt.obj {b : Bool} {h : Heap} {t l : Addr} {i : Nat} (x : SIt b h t l i) : ∃ o, h.get? t = some o ∧ ∀ v, o.data ≠ .cell v := by
  cases b
  · obtain ⟨o, e, _, d⟩ := x
    exact ⟨o, e, fun v q => by rw [d] at q; cases q⟩
  · obtain ⟨o, e, _, d⟩ := x
    exact ⟨o, e, fun v q => by rw [d] at q; cases q⟩
section
variable {prog : Program} {w : World} {A : Around} {E : Value → Shared → Prop} {s : Shared}
theorem nextB_item {b : Bool} {t l : Addr} {i : Nat} {arr : Array Value} {x : Value} {Q : Value → Shared → Prop} (hit : SIt b s.heap t l i) (hl : SOk b s.heap l arr) (hx : arr[i]? = some x)
    (hQ : ∀ h', SIt b h' t l (i + 1) → Heap.SameBut t s.heap h' → Q x { s with heap := h' }) : wpAny (model prog w) A (Builtin.SmallTypes.nextOf (.ref t)) Q E s := by
  cases b
  · exact wpAny_nextOf_list_item hit hl hx hQ
  · exact wpAny_nextOf_tuple_item hit hl hx hQ
theorem nextB_end {b : Bool} {t l : Addr} {i : Nat} {arr : Array Value} {Q : Value → Shared → Prop} (hh : A.handled = none) (hit : SIt b s.heap t l i) (hl : SOk b s.heap l arr) (hx : arr[i]? = none)
    (hE : ∀ h' e, Heap.ExtBut t s.heap h' → (∃ o, h'.get? e = some o ∧ o.cls = .type "StopIteration") → E (.ref e) { s with heap := h' }) : wpAny (model prog w) A (Builtin.SmallTypes.nextOf (.ref t)) Q E s := by
  cases b
  · exact wpAny_nextOf_list_end hh hit hl hx hE
  · exact wpAny_nextOf_tuple_end hh hit hl hx hE
end
theorem forIn_steps {α β : Type} {M : Model} {A : Around} {E : Value → Shared → Prop} (body : α → β → Sem (ForInStep β)) (Iv : Nat → β → Shared → Prop) (Q : β → Shared → Prop) :
    ∀ (xs : List α) (k : Nat) (b : β) (s : Shared), Iv k b s → (∀ j x b s, xs[j]? = some x → Iv (k + j) b s → wpAny M A (body x b) (fun r s' => ∃ b', r = .yield b' ∧ Iv (k + j + 1) b' s') E s) →
      (∀ b s', Iv (k + xs.length) b s' → Q b s') → wpAny M A (forIn xs b body) Q E s
  | [], k, b, s, h0, _, hd => by
    simp only [List.forIn_nil]
    exact wpAny_pure (hd b s (by simpa using h0))
  | x :: xs, k, b, s, h0, hs, hd => by
    simp only [List.forIn_cons]
    refine wpAny_bind (wpAny_mono (hs 0 x b s rfl (by simpa using h0)) (fun r s' ⟨b', e, h1⟩ => ?_) fun _ _ z => z)
    subst e
    refine forIn_steps body Iv Q xs (k + 1) b' s' (by simpa using h1) (fun j y b2 s2 hj h2 => ?_) fun b2 s2 h2 => hd b2 s2 ?_
    · have e1 : k + 1 + j = k + (j + 1) := by omega
      rw [e1] at h2 ⊢
      exact hs (j + 1) y b2 s2 (by simpa using hj) h2
    · rw [List.length_cons]
      have e1 : k + (xs.length + 1) = k + 1 + xs.length := by omega
      rw [e1]
      exact h2
/-- the zip object: what it has handed out last, whether that was asked for -/
abbrev IsZipG (h : Heap) (z TI TO : Addr) (f : Value) (g : Bool) : Prop := h.get? z = some { cls := .type "zip", data := .fields #[f, .bool g, .bool false, .ref TI, .ref TO] }
def FrF : Value → Prop
  | .none => True
  | .int _ t => t = 0
  | _ => False
def ZSB (b : Addr → Bool) (z TI TO : Addr) (its src : List Addr) (i : Nat) (h : Heap) : Prop :=
  (∃ f g, FrF f ∧ IsZipG h z TI TO f g) ∧ tupN h TI (its.map Value.ref) ∧ (∃ cur : List Value, cur.length = its.length ∧ tupN h TO cur) ∧ ∀ (k : Nat) (t l : Addr), its[k]? = some t → src[k]? = some l → SIt (b l) h t l i
theorem alive_ {M : Model} {A : Around} {E : Value → Shared → Prop} {s : Shared} {a : Addr} {Q : Option Obj → Shared → Prop} (h : Q (s.heap.get? a) s) : wpAny M A (loadIfAlive a) Q E s := fun _ _ _ => h
section
variable {prog : Program} {w : World} {A : Around} {E : Value → Shared → Prop} {s : Shared} {z TI TO : Addr} {its src : List Addr} {i : Nat} {b : Addr → Bool}
/-- is the tuple that was handed out free again? either may be -/
theorem free_or {f : Value} {g : Bool} {Q : Bool → Shared → Prop} (hz : IsZipG s.heap z TI TO f g) (hf : FrF f) (h1 : Q true s) (h2 : ∀ h', Heap.SameBut z s.heap h' → IsZipG h' z TI TO f true → Q false { s with heap := h' }) :
    wpAny (model prog w) A (Builtin.SmallTypes.ownedTupleIsFree (.ref z)) Q E s := by
  unfold Builtin.SmallTypes.ownedTupleIsFree
  refine wpAny_bind (wpAny_field hz rfl (x := f) rfl ?_)
  cases f with
  | none => exact wpAny_pure h1
  | int a t =>
    show wpAny _ _ (loadIfAlive a.toNat >>= fun o => _) _ _ _
    refine wpAny_bind (alive_ ?_)
    cases q : s.heap.get? a.toNat with
    | none => exact wpAny_pure h1
    | some o =>
      simp only [Option.isNone_some, Bool.false_eq_true, if_false]
      refine wpAny_bind (wpAny_field hz rfl (x := .bool g) rfl ?_)
      cases g with
      | true =>
        simp only [bne_self_eq_false, Bool.false_eq_true, if_false]
        exact wpAny_pure (h2 s.heap (Heap.SameBut.refl ..) hz)
      | false =>
        refine wpAny_bind (wpAny_setField_rec hz (by simp) fun h7 z7 s7 => wpAny_pure (h2 h7 s7 z7))
  | _ => exact hf.elim
theorem zipB_next {Q : Value → Shared → Prop} {vs : List Value} (D : ZA z TI TO its src) (st : ZSB b z TI TO its src i s.heap) (h0 : 0 < its.length) (h9 : its.length ≤ 100) (lv : vs.length = its.length)
    (hsrc : ∀ (k : Nat) (l : Addr) (v : Value), src[k]? = some l → vs[k]? = some v → ∃ arr : Array Value, SOk (b l) s.heap l arr ∧ arr[i]? = some v)
    (hQ : ∀ h', ZSB b z TI TO its src (i + 1) h' → tupN h' s.heap.objs.size vs → (∀ c o, c ≠ z → c ≠ TO → c ∉ its → s.heap.get? c = some o → h'.get? c = some o) → Q (.ref s.heap.objs.size) { s with heap := h' }) :
    wpAny (model prog w) A (Builtin.«zip.__next__» ⟨[.ref z], []⟩) (fun fin s' => ∃ v, fin = .done (.ret v) ∧ Q v s') E s := by
  obtain ⟨⟨f0, g0, ff, hz⟩, hTI, ⟨cur, lc, hTO⟩, hit⟩ := st
  obtain ⟨hp, g, d, tk, os⟩ := s
  show wpAny _ _ (field (.ref z) 2 >>= _) _ _ _
  refine wpAny_bind (wpAny_field hz rfl (x := .bool false) rfl ?_)
  show wpAny _ _ (field (.ref z) 3 >>= _) _ _ _
  refine wpAny_bind (wpAny_field hz rfl (x := .ref TI) rfl ?_)
  refine wpAny_bind (wpAny_seqItems hTI rfl ?_)
  have ne : ((its.map Value.ref).toArray.isEmpty) = false := by
    cases its with
    | nil => simp at h0
    | cons t r => rfl
  simp only [ne]
  show wpAny _ _ (Builtin.SmallTypes.ownedTupleIsFree (.ref z) >>= _) _ _ _
  refine wpAny_bind (free_or hz ff ?_ fun h1 s1 z1 => ?_)
  · simp only [if_true]
    refine wpAny_bind (wpAny_rule ?_)
    refine wpAny_bind (wpAny_field hz rfl (x := .ref TO) rfl ?_)
    refine wpAny_bind (wpAny_setField_rec hz (by simp) fun q0 hz0 hs0 => ?_)
    replace hz0 : IsZipG q0 z TI TO .ellipsis g0 := hz0
    replace hs0 : Heap.SameBut z hp q0 := hs0
    refine wpAny_bind (forIn_zipIdx _ _ (fun k s' => ∃ h' : Heap, s' = ⟨h', g, d, tk, os⟩ ∧ IsZipG h' z TI TO .ellipsis g0 ∧ tupN h' TO (vs.take k ++ cur.drop k) ∧ h'.objs.size = hp.objs.size ∧
        (∀ c o, c ≠ z → c ≠ TO → c ∉ its → hp.get? c = some o → h'.get? c = some o) ∧
        ∀ (j : Nat) (t l : Addr), its[j]? = some t → src[j]? = some l → SIt (b l) h' t l (if j < k then i + 1 else i)) _ _ 0 _ ?_ ?_ ?_)
    · refine ⟨q0, rfl, hz0, hs0.extBut _ _ D.TOz (by simpa using hTO), hs0.1, fun c o c1 _ _ e => hs0.extBut _ _ c1 e, fun j t l hj hl => ?_⟩
      rw [if_neg (Nat.not_lt_zero j)]
      exact (hit j t l hj hl).at fun o e => hs0.extBut _ _ (D.iz t (List.mem_of_getElem? hj)) e
    · rintro k x s1 hx ⟨h1, rfl, z1, to1, sz1, kp1, it1⟩
      rw [Nat.zero_add] at to1 it1 ⊢
      have hx2 : (its.map Value.ref)[k]? = some x := by simpa using hx
      rw [List.getElem?_map] at hx2
      obtain ⟨t, ht, rfl⟩ := Option.map_eq_some_iff.mp hx2
      have hk : k < its.length := (List.getElem?_eq_some_iff.mp ht).1
      have hks : k < src.length := by rw [← D.len]; exact hk
      have hkv : k < vs.length := by omega
      have hkc : k < cur.length := by omega
      have gl : src[k]? = some src[k] := List.getElem?_eq_getElem hks
      have gv : vs[k]? = some vs[k] := List.getElem?_eq_getElem hkv
      have mt : t ∈ its := List.mem_of_getElem? ht
      have ml : src[k] ∈ src := List.getElem_mem hks
      obtain ⟨arr, ha, hai⟩ := hsrc k _ _ gl gv
      have ha1 : SOk (b src[k]) h1 src[k] arr := ha.at fun o e => kp1 _ o (D.sz _ ml) (D.sTO _ ml) (fun hm => D.si _ ml _ hm rfl) e
      have i1 := it1 k t _ ht gl
      rw [if_neg (Nat.lt_irrefl k)] at i1
      refine wpAny_bind (wpAny_onRaise ?_)
      show wpAny _ _ (Builtin.SmallTypes.nextOf (.ref t) >>= _) _ _ ⟨h1, g, d, tk, os⟩
      refine wpAny_bind (nextB_item i1 ha1 hai fun h2 i2 s2 => wpAny_pure ?_)
      replace s2 : Heap.SameBut t h1 h2 := s2
      have to2 : tupN h2 TO (vs.take k ++ cur.drop k) := s2.extBut _ _ (D.iTO t mt).symm to1
      refine wpAny_bind (wpAny_seqItems (s := ⟨h2, g, d, tk, os⟩) to2 rfl ?_)
      have lcat : (vs.take k ++ cur.drop k).length = its.length := by rw [List.length_append, List.length_take, List.length_drop]; omega
      have zz : (vs.take k ++ cur.drop k).toArray.size ≤ sizeLine := by rw [List.size_toArray, lcat]; exact Nat.le_trans h9 (by decide)
      refine wpAny_bind (wpAny_updateSeq (s := ⟨h2, g, d, tk, os⟩) to2 rfl ?_ zz (by rw [Array.size_setIfInBounds]; omega))
      have s3 : Heap.SameBut TO h2 (h2.update TO (Obj.mapSeq fun x => x.setIfInBounds k vs[k])) := Heap.SameBut.update ..
      refine wpAny_bind (wpAny_letGo (wpAny_pure ⟨rfl, _, rfl, ?_, ?_, ?_, ?_, ?_⟩))
      · exact s3.extBut _ _ D.TOz.symm (s2.extBut _ _ (D.iz t mt).symm z1)
      · show (h2.update TO (Obj.mapSeq fun x => x.setIfInBounds k vs[k])).get? TO = _
        rw [Heap.get?_update_self _ to2 rfl]
        have e1 : (vs.take k ++ cur.drop k).set k vs[k] = vs.take (k + 1) ++ cur.drop (k + 1) := by
          rw [List.set_append_right _ _ (by rw [List.length_take]; omega), List.length_take, Nat.min_eq_left (by omega), Nat.sub_self, List.drop_eq_getElem_cons hkc, List.set_cons_zero, List.take_add_one, gv, Option.toList_some, List.append_assoc]
          rfl
        have e2 : (vs.take k ++ cur.drop k).toArray.setIfInBounds k vs[k] = (vs.take (k + 1) ++ cur.drop (k + 1)).toArray := by rw [List.setIfInBounds_toArray, e1]
        have e3 : ((vs.take (k + 1) ++ cur.drop (k + 1)).toArray.size == (vs.take k ++ cur.drop k).toArray.size) = true := by
          rw [beq_iff_eq, List.size_toArray, List.size_toArray, lcat, List.length_append, List.length_take, List.length_drop]
          omega
        simp only [Obj.mapSeq, e2, e3, if_true]
      · exact s3.1.trans (s2.1.trans sz1)
      · intro c o c1 c2 c3 e
        exact s3.extBut _ _ c2 (s2.extBut _ _ (fun q => c3 (q ▸ mt)) (kp1 c o c1 c2 c3 e))
      · intro j t' l hj hl
        have mt' : t' ∈ its := List.mem_of_getElem? hj
        by_cases hjk : j = k
        · subst hjk
          rw [ht] at hj
          rw [gl] at hl
          cases hj
          cases hl
          rw [if_pos (Nat.lt_succ_self j)]
          exact i2.at fun o e => s3.extBut _ _ (D.iTO t mt) e
        · have i3 := it1 j t' l hj hl
          have e3 : (if j < k then i + 1 else i) = (if j < k + 1 then i + 1 else i) := by
            by_cases hlt : j < k
            · rw [if_pos hlt, if_pos (by omega)]
            · rw [if_neg hlt, if_neg (by omega)]
          rw [e3] at i3
          have tne : t' ≠ t := fun q => by
            subst q
            have hj' := (List.getElem?_eq_some_iff.mp hj)
            have ht' := (List.getElem?_eq_some_iff.mp ht)
            obtain ⟨b1, q1⟩ := hj'
            obtain ⟨b2, q2⟩ := ht'
            exact hjk ((List.getElem_inj D.nd).mp (q1.trans q2.symm))
          exact i3.at fun o e => s3.extBut _ _ (D.iTO t' mt') (s2.extBut _ _ tne e)
    · rintro s1 ⟨h1, rfl, z1, to1, sz1, kp1, it1⟩
      rw [Nat.zero_add] at to1 it1
      have el : ((its.map Value.ref).toArray.toList).length = its.length := by simp
      rw [el] at to1 it1
      rw [← lv, List.take_length, lv, ← lc, List.drop_length, List.append_nil] at to1
      refine wpAny_bind (wpAny_seqItems (s := ⟨h1, g, d, tk, os⟩) to1 rfl ?_)
      refine wpAny_bind (wpAny_newTuple ?_ (by rw [List.toList_toArray, lv]; exact Nat.le_trans h9 (by decide)))
      show wpAny _ _ (Builtin.SmallTypes.ownedTupleHandOut (.ref z) (.ref h1.objs.size) >>= _) _ _ ⟨h1.push { cls := .type "tuple", data := .seq vs.toArray }, g, d, tk, os⟩
      refine wpAny_bind ?_
      unfold Builtin.SmallTypes.ownedTupleHandOut
      have zlt : z < h1.objs.size := Heap.lt_size z1
      have z6 : IsZipG (h1.push { cls := .type "tuple", data := .seq vs.toArray }) z TI TO .ellipsis g0 := Heap.get?_push_of_some _ z1
      refine wpAny_bind (wpAny_setField_rec z6 (by simp) fun h7 z7 s7 => ?_)
      replace z7 : IsZipG h7 z TI TO (rawInt h1.objs.size) g0 := z7
      refine wpAny_setField_rec z7 (by simp) fun h8 z8 s8 => ?_
      replace z8 : IsZipG h8 z TI TO (rawInt h1.objs.size) false := z8
      replace s7 : Heap.SameBut z (h1.push { cls := .type "tuple", data := .seq vs.toArray }) h7 := s7
      replace s8 : Heap.SameBut z h7 h8 := s8
      have up : ∀ c o, c ≠ z → h1.get? c = some o → h8.get? c = some o := fun c o c1 e => s8.extBut _ _ c1 (s7.extBut _ _ c1 (Heap.get?_push_of_some _ e))
      have nu : tupN h8 h1.objs.size vs := s8.extBut _ _ (Nat.ne_of_gt zlt) (s7.extBut _ _ (Nat.ne_of_gt zlt) (Heap.get?_push_size _ rfl))
      rw [sz1] at z8 nu
      refine wpAny_pure ⟨_, rfl, ?_⟩
      show Q (.ref h1.objs.size) ⟨h8, g, d, tk, os⟩
      rw [sz1]
      refine hQ h8 ⟨⟨rawInt hp.objs.size, false, (rfl : (0 : Nat) = 0), z8⟩, up _ _ D.TIz (kp1 _ _ D.TIz D.TITO (fun hm => D.iTI _ hm rfl) hTI), ⟨vs, lv, up _ _ D.TOz to1⟩, fun k t l hk hl => ?_⟩ nu fun c o c1 c2 c3 e => up c o c1 (kp1 c o c1 c2 c3 e)
      have := it1 k t l hk hl
      rw [if_pos (List.getElem?_eq_some_iff.mp hk).1] at this
      exact this.at fun o e => up _ o (D.iz t (List.mem_of_getElem? hk)) e
  · replace s1 : Heap.SameBut z hp h1 := s1
    simp only [Bool.false_eq_true, if_false]
    simp only [List.forIn_toArray]
    have far : ∀ c o, c ≠ z → hp.get? c = some o → h1.get? c = some o := fun c o c1 e => s1.extBut _ _ c1 e
    refine wpAny_bind (forIn_steps _ (fun k st s' => ∃ h' : Heap, s' = ⟨h', g, d, tk, os⟩ ∧ st = (none, (vs.take k).toArray) ∧ h'.objs.size = hp.objs.size ∧ (∀ c o, c ∉ its → h1.get? c = some o → h'.get? c = some o) ∧
        ∀ (j : Nat) (t l : Addr), its[j]? = some t → src[j]? = some l → SIt (b l) h' t l (if j < k then i + 1 else i)) _ (its.map Value.ref) 0 _ _ ?_ ?_ ?_)
    · refine ⟨h1, rfl, by simp, s1.1, fun c o _ e => e, fun j t l hj hl => ?_⟩
      rw [if_neg (Nat.not_lt_zero j)]
      exact (hit j t l hj hl).at fun o e => far _ o (D.iz t (List.mem_of_getElem? hj)) e
    · rintro k x st s2 hx ⟨h2, rfl, rfl, sz2, kp2, it2⟩
      rw [Nat.zero_add] at it2 ⊢
      rw [List.getElem?_map] at hx
      obtain ⟨t, ht, rfl⟩ := Option.map_eq_some_iff.mp hx
      have hk : k < its.length := (List.getElem?_eq_some_iff.mp ht).1
      have hks : k < src.length := by rw [← D.len]; exact hk
      have hkv : k < vs.length := by omega
      have gl : src[k]? = some src[k] := List.getElem?_eq_getElem hks
      have gv : vs[k]? = some vs[k] := List.getElem?_eq_getElem hkv
      have mt : t ∈ its := List.mem_of_getElem? ht
      have ml : src[k] ∈ src := List.getElem_mem hks
      obtain ⟨arr, ha, hai⟩ := hsrc k _ _ gl gv
      have ha2 : SOk (b src[k]) h2 src[k] arr := (ha.at fun o e => far _ o (D.sz _ ml) e).at fun o e => kp2 _ o (fun hm => D.si _ ml _ hm rfl) e
      have i2 := it2 k t _ ht gl
      rw [if_neg (Nat.lt_irrefl k)] at i2
      refine wpAny_bind (wpAny_holding ?_)
      show wpAny _ _ (Builtin.SmallTypes.nextOf (.ref t) >>= _) _ _ ⟨h2, g, d, tk, os⟩
      refine wpAny_bind (nextB_item i2 ha2 hai fun h3 i3 s3 => wpAny_pure ?_)
      replace s3 : Heap.SameBut t h2 h3 := s3
      refine wpAny_pure ⟨_, rfl, h3, rfl, ?_, s3.1.trans sz2, fun c o hc e => s3.extBut _ _ (fun q => hc (q ▸ mt)) (kp2 c o hc e), fun j t' l hj hl => ?_⟩
      · rw [List.take_add_one, gv]
        simp
      · by_cases hjk : j = k
        · subst hjk
          rw [ht] at hj
          rw [gl] at hl
          cases hj
          cases hl
          rw [if_pos (Nat.lt_succ_self j)]
          exact i3
        · have i4 := it2 j t' l hj hl
          have e3 : (if j < k then i + 1 else i) = (if j < k + 1 then i + 1 else i) := by
            by_cases hlt : j < k
            · rw [if_pos hlt, if_pos (by omega)]
            · rw [if_neg hlt, if_neg (by omega)]
          rw [e3] at i4
          have tne : t' ≠ t := fun q => by
            subst q
            obtain ⟨b1, q1⟩ := List.getElem?_eq_some_iff.mp hj
            obtain ⟨b2, q2⟩ := List.getElem?_eq_some_iff.mp ht
            exact hjk ((List.getElem_inj D.nd).mp (q1.trans q2.symm))
          exact i4.at fun o e => s3.extBut _ _ tne e
    · rintro st s2 ⟨h2, rfl, rfl, sz2, kp2, it2⟩
      rw [Nat.zero_add, List.length_map] at it2
      have ev : vs.take (0 + (its.map Value.ref).length) = vs := by
        rw [Nat.zero_add, List.length_map, ← lv, List.take_length]
      rw [ev]
      show wpAny _ _ (newTuple vs.toArray.toList >>= fun v => PySem.ret v) _ _ _
      refine wpAny_bind (wpAny_newTuple (wpAny_pure ⟨_, rfl, ?_⟩) (by rw [List.toList_toArray, lv]; exact Nat.le_trans h9 (by decide)))
      show Q (.ref h2.objs.size) ⟨h2.push { cls := .type "tuple", data := .seq vs.toArray.toList.toArray }, g, d, tk, os⟩
      rw [List.toList_toArray]
      have up : ∀ c o, c ∉ its → h1.get? c = some o → (h2.push { cls := .type "tuple", data := .seq vs.toArray }).get? c = some o := fun c o hc e => Heap.get?_push_of_some _ (kp2 c o hc e)
      have nu : tupN (h2.push { cls := .type "tuple", data := .seq vs.toArray }) h2.objs.size vs := Heap.get?_push_size _ rfl
      rw [sz2] at nu ⊢
      refine hQ _ ⟨⟨f0, true, ff, up _ _ (fun hm => D.iz _ hm rfl) z1⟩, up _ _ (fun hm => D.iTI _ hm rfl) (far _ _ D.TIz hTI), ⟨cur, lc, up _ _ (fun hm => D.iTO _ hm rfl) (far _ _ D.TOz hTO)⟩, fun k t l hk hl => ?_⟩ nu fun c o c1 c2 c3 e => up c o c3 (far c o c1 e)
      have := it2 k t l hk hl
      rw [if_pos (List.getElem?_eq_some_iff.mp hk).1] at this
      exact this.at fun o e => Heap.get?_push_of_some _ e
theorem zipB_stop {Q : Fin → Shared → Prop} (hh : A.handled = none) (D : ZA z TI TO its src) (st : ZSB b z TI TO its src i s.heap) (h0 : 0 < its.length)
    {l0 : Addr} {arr : Array Value} (hl : src[0]? = some l0) (ha : SOk (b l0) s.heap l0 arr) (hn : arr[i]? = none)
    (hE : ∀ h' e, (∀ c o, c ≠ z → c ≠ TO → c ∉ its → s.heap.get? c = some o → h'.get? c = some o) → (∃ o, h'.get? e = some o ∧ o.cls = .type "StopIteration") → E (.ref e) { s with heap := h' }) :
    wpAny (model prog w) A (Builtin.«zip.__next__» ⟨[.ref z], []⟩) Q E s := by
  obtain ⟨⟨f0, g0, ff, hz⟩, hTI, ⟨cur, lc, hTO⟩, hit⟩ := st
  obtain ⟨hp, g, d, tk, os⟩ := s
  cases its with
  | nil => simp at h0
  | cons t r =>
    have mt : t ∈ t :: r := List.mem_cons_self
    have ml : l0 ∈ src := List.mem_of_getElem? hl
    show wpAny _ _ (field (.ref z) 2 >>= _) _ _ _
    refine wpAny_bind (wpAny_field hz rfl (x := .bool false) rfl ?_)
    show wpAny _ _ (field (.ref z) 3 >>= _) _ _ _
    refine wpAny_bind (wpAny_field hz rfl (x := .ref TI) rfl ?_)
    refine wpAny_bind (wpAny_seqItems hTI rfl ?_)
    have ne : (((t :: r).map Value.ref).toArray.isEmpty) = false := rfl
    simp only [ne]
    show wpAny _ _ (Builtin.SmallTypes.ownedTupleIsFree (.ref z) >>= _) _ _ _
    refine wpAny_bind (free_or hz ff ?_ fun h1 s1 z1 => ?_)
    · simp only [if_true]
      refine wpAny_bind (wpAny_rule ?_)
      refine wpAny_bind (wpAny_field hz rfl (x := .ref TO) rfl ?_)
      refine wpAny_bind (wpAny_setField_rec hz (by simp) fun q0 hz0 hs0 => ?_)
      replace hz0 : IsZipG q0 z TI TO .ellipsis g0 := hz0
      replace hs0 : Heap.SameBut z hp q0 := hs0
      refine wpAny_bind ?_
      simp only [List.map_cons, List.zipIdx_cons, List.forIn_cons]
      refine wpAny_bind (wpAny_bind (wpAny_onRaise ?_))
      show wpAny _ _ (Builtin.SmallTypes.nextOf (.ref t) >>= _) _ _ ⟨q0, g, d, tk, os⟩
      refine wpAny_bind (nextB_end hh ((hit 0 t l0 rfl hl).at fun o e => hs0.extBut _ _ (D.iz t mt) e) (ha.at fun o e => hs0.extBut _ _ (D.sz l0 ml) e) hn fun h2 e s2 he => ?_)
      replace s2 : Heap.ExtBut t q0 h2 := s2
      obtain ⟨oe, hoe, hce⟩ := he
      replace hoe : h2.get? e = some oe := hoe
      have z2 : IsZipG h2 z TI TO .ellipsis g0 := s2 _ _ (D.iz t mt).symm hz0
      have ez : e ≠ z := fun x => by
        subst x
        rw [z2] at hoe
        cases hoe
        simp at hce
      refine wpAny_setField_rec (s := ⟨h2, g, d, tk, os⟩) z2 (by simp) fun h3 _ s3 => ?_
      replace s3 : Heap.SameBut z h2 h3 := s3
      exact hE h3 e (fun c o c1 c2 c3 x => s3.extBut _ _ c1 (s2 _ _ (fun q => c3 (q ▸ mt)) (hs0.extBut _ _ c1 x))) ⟨oe, s3.extBut _ _ ez hoe, hce⟩
    · replace s1 : Heap.SameBut z hp h1 := s1
      simp only [Bool.false_eq_true, if_false]
      simp only [List.forIn_toArray, List.map_cons, List.forIn_cons]
      refine wpAny_bind (wpAny_bind (wpAny_bind (wpAny_holding ?_)))
      show wpAny _ _ (Builtin.SmallTypes.nextOf (.ref t) >>= _) _ _ ⟨h1, g, d, tk, os⟩
      refine wpAny_bind (nextB_end hh ((hit 0 t l0 rfl hl).at fun o e => s1.extBut _ _ (D.iz t mt) e) (ha.at fun o e => s1.extBut _ _ (D.sz l0 ml) e) hn fun h2 e s2 he => ?_)
      replace s2 : Heap.ExtBut t h1 h2 := s2
      exact hE h2 e (fun c o c1 c2 c3 x => s2 _ _ (fun q => c3 (q ▸ mt)) (s1.extBut _ _ c1 x)) he
theorem pyNextB {Q : Option Value → Shared → Prop} {vs : List Value} (D : ZA z TI TO its src) (st : ZSB b z TI TO its src i s.heap) (h0 : 0 < its.length) (h9 : its.length ≤ 100) (lv : vs.length = its.length)
    (hsrc : ∀ (k : Nat) (l : Addr) (v : Value), src[k]? = some l → vs[k]? = some v → ∃ arr : Array Value, SOk (b l) s.heap l arr ∧ arr[i]? = some v)
    (hQ : ∀ h', ZSB b z TI TO its src (i + 1) h' → tupN h' s.heap.objs.size vs → (∀ c o, c ≠ z → c ≠ TO → c ∉ its → s.heap.get? c = some o → h'.get? c = some o) → Q (some (.ref s.heap.objs.size)) { s with heap := h' }) :
    wpAny (model prog w) A (pyNext (.ref z)) Q E s := by
  have hT : s.TypeIs (.ref z) "zip" := by obtain ⟨f, g, _, e⟩ := st.1; exact ⟨_, e, rfl⟩
  unfold pyNext
  refine wpAny_bind (wpAny_attempt (wpAny_callSpecial?_slot (name := Str.ofString "__next__") hT F.slot_zip_next (wpAny_call_entry F.slot_zip_next hT F.entry_zip_next ?_ (F.args_zip_next_1 _))))
  exact zipB_next D st h0 h9 lv hsrc fun h' a1 a2 a3 => wpAny_pure (hQ h' a1 a2 a3)
theorem pyNextB_end {Q : Option Value → Shared → Prop} (hh : A.handled = none) (D : ZA z TI TO its src) (st : ZSB b z TI TO its src i s.heap) (h0 : 0 < its.length)
    {l0 : Addr} {arr : Array Value} (hl : src[0]? = some l0) (ha : SOk (b l0) s.heap l0 arr) (hn : arr[i]? = none)
    (hQ : ∀ h', (∀ c o, c ≠ z → c ≠ TO → c ∉ its → s.heap.get? c = some o → h'.get? c = some o) → Q none { s with heap := h' }) : wpAny (model prog w) A (pyNext (.ref z)) Q E s := by
  have hT : s.TypeIs (.ref z) "zip" := by obtain ⟨f, g, _, e⟩ := st.1; exact ⟨_, e, rfl⟩
  unfold pyNext
  refine wpAny_bind (wpAny_attempt (wpAny_callSpecial?_slot (name := Str.ofString "__next__") hT F.slot_zip_next (wpAny_call_entry F.slot_zip_next hT F.entry_zip_next ?_ (F.args_zip_next_1 _))))
  refine zipB_stop (by exact hh) D st h0 hl ha hn fun h' e hk ⟨o, ho, hc⟩ => ?_
  exact wpAny_bind (wpAny_isInstance (T := "StopIteration") (b := true) ⟨o, ho, hc⟩ isSubtype_stop (wpAny_pure (hQ _ hk)))
end
/-! ### zip begins -/
def pushIts (b : Addr → Bool) (h : Heap) (src : List Addr) : Heap := src.foldl (fun g l => g.push (itB (b l) l)) h
theorem push_len {b : Addr → Bool} : ∀ (src : List Addr) (h : Heap), (pushIts b h src).objs.size = h.objs.size + src.length
  | [], h => rfl
  | l :: r, h => by
    show (pushIts b (h.push (itB (b l) l)) r).objs.size = _
    rw [push_len r, Heap.size_push, List.length_cons]
    omega
theorem push_old {b : Addr → Bool} : ∀ (src : List Addr) (h : Heap) (c : Addr) (o : Obj), h.get? c = some o → (pushIts b h src).get? c = some o
  | [], h, c, o, e => e
  | l :: r, h, c, o, e => push_old r _ c o (Heap.get?_push_of_some _ e)
theorem push_at {b : Addr → Bool} : ∀ (src : List Addr) (h : Heap) (k : Nat) (l : Addr), src[k]? = some l → (pushIts b h src).get? (h.objs.size + k) = some (itB (b l) l)
  | [], h, k, l, e => by simp at e
  | l0 :: r, h, 0, l, e => by
    cases e
    exact push_old r _ _ _ (Heap.get?_push_size _ rfl)
  | l0 :: r, h, k + 1, l, e => by
    have := push_at (b := b) r (h.push (itB (b l0) l0)) k l (by simpa using e)
    rw [Heap.size_push] at this
    have e2 : h.objs.size + 1 + k = h.objs.size + (k + 1) := by omega
    rw [e2] at this
    exact this
def itsAt (n m : Nat) : List Addr := (List.range m).map fun k => n + k
theorem itsAt_get {n m k : Nat} (h : k < m) : (itsAt n m)[k]? = some (n + k) := by
  unfold itsAt
  rw [List.getElem?_map, List.getElem?_range h]
  rfl
theorem itsAt_len (n m : Nat) : (itsAt n m).length = m := by unfold itsAt; rw [List.length_map, List.length_range]
section
variable {prog : Program} {w : World} {A : Around} {E : Value → Shared → Prop} {s : Shared} {b : Addr → Bool}
theorem iterB {b : Bool} {l : Addr} {arr : Array Value} {Q : Value → Shared → Prop} (h : SOk b s.heap l arr) (q : Q (.ref s.heap.objs.size) { s with heap := s.heap.push (itB b l) }) : wpAny (model prog w) A (pyIter (.ref l)) Q E s := by
  cases b
  · exact wpAny_pyIter_list h q
  · exact wpAny_pyIter_tuple h q
theorem iterAllB {src : List Addr} {Q : List Value → Shared → Prop} (h : ∀ l ∈ src, ∃ arr, SOk (b l) s.heap l arr) (q : Q ((itsAt s.heap.objs.size src.length).map Value.ref) { s with heap := pushIts b s.heap src }) :
    wpAny (model prog w) A (Builtin.SmallTypes.iterAll (src.map Value.ref)) Q E s := by
  unfold Builtin.SmallTypes.iterAll
  refine wpAny_bind (forIn_steps _ (fun k st s' => st = ((itsAt s.heap.objs.size k).map Value.ref).toArray ∧ s' = { s with heap := pushIts b s.heap (src.take k) }) _ (src.map Value.ref) 0 _ _ ⟨rfl, rfl⟩ ?_ ?_)
  · rintro k x st s2 hx ⟨rfl, rfl⟩
    rw [Nat.zero_add] at *
    rw [List.getElem?_map] at hx
    obtain ⟨l, hl, rfl⟩ := Option.map_eq_some_iff.mp hx
    obtain ⟨arr, ha⟩ := h l (List.mem_of_getElem? hl)
    have hk : k < src.length := (List.getElem?_eq_some_iff.mp hl).1
    refine wpAny_bind (wpAny_holding (iterB (ha.at fun o e => push_old _ _ _ _ e) (wpAny_pure ⟨_, rfl, ?_, ?_⟩)))
    · show (((itsAt s.heap.objs.size k).map Value.ref).toArray.push (.ref (pushIts b s.heap (src.take k)).objs.size)) = _
      rw [push_len, List.length_take, Nat.min_eq_left (Nat.le_of_lt hk)]
      unfold itsAt
      rw [List.range_succ]
      simp
    · have e1 : src.take (k + 1) = src.take k ++ [l] := by rw [List.take_add_one, hl]; rfl
      rw [e1]
      unfold pushIts
      rw [List.foldl_append]
      rfl
  · rintro st s2 ⟨rfl, rfl⟩
    rw [Nat.zero_add, List.length_map, List.take_length]
    refine wpAny_pure ?_
    simpa using q
end
abbrev zbA (b : Addr → Bool) (h : Heap) (src : List Addr) : Heap := (pushIts b h src).push { cls := .type "tuple", data := .seq ((itsAt h.objs.size src.length).map Value.ref).toArray }
abbrev zbB (b : Addr → Bool) (h : Heap) (src : List Addr) : Heap := (zbA b h src).push { cls := .type "tuple", data := .seq (((itsAt h.objs.size src.length).map Value.ref).map fun _ => Value.none).toArray }
abbrev zbC (b : Addr → Bool) (h : Heap) (src : List Addr) : Heap := (zbB b h src).push { cls := .type "zip", data := .fields #[.none, .bool false, .bool false, .ref (pushIts b h src).objs.size, .ref (zbA b h src).objs.size] }
theorem meets_zipB (b : Addr → Bool) (src : List Addr) (h6 : src.length ≤ 100) :
    Meets (Builtin.«zip.__new__» ⟨.type "zip" :: src.map Value.ref, []⟩) (fun _ R s => (∀ l ∈ src, ∃ arr, SOk (b l) s.heap l arr) ∧ R (.ok (.ret (.ref (zbB b s.heap src).objs.size))) { s with heap := zbC b s.heap src }) :=
  .of_wp fun prog w A R s h => by
    obtain ⟨hp, g, d, tk, os⟩ := s
    obtain ⟨hs, h⟩ := h
    have hsub := sub_zip
    have hI := fun (Q : List Value → Shared → Prop) (E : Value → Shared → Prop) (A : Around) => @iterAllB prog w A E ⟨hp, g, d, tk, os⟩ b src Q hs
    unfold Builtin.«zip.__new__»
    generalize Builtin.SmallTypes.iterAll = IA at hI ⊢
    wp_walk
    have sz : (itsAt hp.objs.size src.length).length ≤ sizeLine := by rw [itsAt_len]; exact Nat.le_trans h6 (by decide)
    refine hI _ _ _ ?_
    refine wpAny_bind (wpAny_newTuple ?_ (by rw [List.length_map]; exact sz))
    refine wpAny_bind (wpAny_newTuple ?_ (by rw [List.length_map, List.length_map]; exact sz))
    refine wpAny_bind ?_
    unfold Builtin.SmallTypes.newRecord
    exact wpAny_newObj_type (wpAny_pure ⟨_, rfl, h⟩) (show (5 : Nat) ≤ sizeLine + 2 by decide)
theorem tc_zipN : ∀ us : List Value, 1 ≤ us.length → us.length ≤ 6 → checkTypeCall "zip" ⟨us, []⟩ = pure () ∧ checkBuiltinCall "zip.__new__" ⟨.type "zip" :: us, []⟩ = pure () ∧ ∀ o, argsOk "object.__init__" ⟨o :: us, []⟩
  | [], h, _ => by simp at h
  | [a], _, _ => ⟨by kernel_rfl, by kernel_rfl, fun o => by unfold argsOk; kernel_rfl⟩
  | [a, b], _, _ => ⟨by kernel_rfl, by kernel_rfl, fun o => by unfold argsOk; kernel_rfl⟩
  | [a, b, c], _, _ => ⟨by kernel_rfl, by kernel_rfl, fun o => by unfold argsOk; kernel_rfl⟩
  | [a, b, c, d], _, _ => ⟨by kernel_rfl, by kernel_rfl, fun o => by unfold argsOk; kernel_rfl⟩
  | [a, b, c, d, e], _, _ => ⟨by kernel_rfl, by kernel_rfl, fun o => by unfold argsOk; kernel_rfl⟩
  | [a, b, c, d, e, f], _, _ => ⟨by kernel_rfl, by kernel_rfl, fun o => by unfold argsOk; kernel_rfl⟩
  | a :: b :: c :: d :: e :: f :: g :: r, _, h => by simp at h
section
variable {prog : Program} {w : World} {A : Around} {E : Value → Shared → Prop} {s : Shared} {b : Addr → Bool}
theorem call_zipB {src : List Addr} {Q : Value → Shared → Prop} (h1 : 1 ≤ src.length) (h6 : src.length ≤ 6) (hs : ∀ l ∈ src, ∃ arr, SOk (b l) s.heap l arr)
    (h : ∀ h', ZSB b (s.heap.objs.size + src.length + 2) (s.heap.objs.size + src.length) (s.heap.objs.size + src.length + 1) (itsAt s.heap.objs.size src.length) src 0 h' →
      (∀ c o, s.heap.get? c = some o → h'.get? c = some o) → Q (.ref (s.heap.objs.size + src.length + 2)) { s with heap := h' }) :
    wpAny (model prog w) A (call (.type "zip") (src.map Value.ref)) Q E s := by
  obtain ⟨t1, t2, t3⟩ := tc_zipN (src.map Value.ref) (by rw [List.length_map]; exact h1) (by rw [List.length_map]; exact h6)
  refine callType_new F.called_zip (by decide) t1 t2 t3 F.entry_zip_new (meets_zipB b src (by omega)) ⟨hs, ?_⟩
  have n1 : (pushIts b s.heap src).objs.size = s.heap.objs.size + src.length := push_len _ _
  have n2 : (zbA b s.heap src).objs.size = s.heap.objs.size + src.length + 1 := by rw [Heap.size_push, n1]
  have n3 : (zbB b s.heap src).objs.size = s.heap.objs.size + src.length + 2 := by rw [Heap.size_push, n2]
  have up1 : ∀ {hh : Heap} {o : Obj} {c : Addr} {x : Obj}, hh.get? c = some x → (hh.push o).get? c = some x := fun e => Heap.get?_push_of_some _ e
  have g3 : (zbC b s.heap src).get? (zbB b s.heap src).objs.size = some { cls := .type "zip", data := .fields #[.none, .bool false, .bool false, .ref (pushIts b s.heap src).objs.size, .ref (zbA b s.heap src).objs.size] } := Heap.get?_push_size _ rfl
  have g2 : (zbC b s.heap src).get? (zbA b s.heap src).objs.size = some { cls := .type "tuple", data := .seq (((itsAt s.heap.objs.size src.length).map Value.ref).map fun _ => Value.none).toArray } := up1 (Heap.get?_push_size _ rfl)
  have g1 : (zbC b s.heap src).get? (pushIts b s.heap src).objs.size = some { cls := .type "tuple", data := .seq ((itsAt s.heap.objs.size src.length).map Value.ref).toArray } := up1 (up1 (Heap.get?_push_size _ rfl))
  rw [n3, n2, n1] at g3
  rw [n2] at g2
  rw [n1] at g1
  show _ ∧ _
  rw [n3]
  refine ⟨⟨_, g3, rfl⟩, h _ ⟨⟨.none, false, trivial, g3⟩, g1, ⟨_, by rw [List.length_map, List.length_map], g2⟩, fun k t l hk hl => ?_⟩ fun c o e => up1 (up1 (up1 (push_old _ _ _ _ e)))⟩
  have hk2 : k < src.length := (List.getElem?_eq_some_iff.mp hl).1
  rw [itsAt_get hk2] at hk
  have ek := Option.some.inj hk
  subst ek
  have e := up1 (o := { cls := .type "zip", data := .fields #[.none, .bool false, .bool false, .ref (pushIts b s.heap src).objs.size, .ref (zbA b s.heap src).objs.size] }) (up1 (o := { cls := .type "tuple", data := .seq (((itsAt s.heap.objs.size src.length).map Value.ref).map fun _ => Value.none).toArray }) (up1 (o := { cls := .type "tuple", data := .seq ((itsAt s.heap.objs.size src.length).map Value.ref).toArray }) (push_at (b := b) src s.heap k l hl)))
  show SIt (b l) _ _ l 0
  revert e
  cases b l
  · exact fun e => ⟨_, e, rfl, rfl⟩
  · exact fun e => ⟨_, e, rfl, rfl⟩
theorem apartB {N : Nat} {src : List Nat} (h : ∀ l : Nat, l ∈ src → l < N) : ZA (N + src.length + 2) (N + src.length) (N + src.length + 1) (itsAt N src.length) src := by
  have hi : ∀ t : Nat, t ∈ itsAt N src.length → N ≤ t ∧ t < N + src.length := fun t ht => by
    unfold itsAt at ht
    obtain ⟨k, hk, e⟩ := List.mem_map.mp ht
    have := List.mem_range.mp hk
    have e2 : N + k = t := e
    omega
  have q1 : ∀ t : Nat, t ∈ itsAt N src.length → t ≠ N + src.length + 2 := fun t ht => by have := hi t ht; omega
  have q2 : ∀ t : Nat, t ∈ itsAt N src.length → t ≠ N + src.length := fun t ht => by have := hi t ht; omega
  have q3 : ∀ t : Nat, t ∈ itsAt N src.length → t ≠ N + src.length + 1 := fun t ht => by have := hi t ht; omega
  have q4 : ∀ l : Nat, l ∈ src → l ≠ N + src.length + 2 := fun l hl => by have := h l hl; omega
  have q5 : ∀ l : Nat, l ∈ src → l ≠ N + src.length + 1 := fun l hl => by have := h l hl; omega
  have q6 : ∀ l : Nat, l ∈ src → ∀ t : Nat, t ∈ itsAt N src.length → l ≠ t := fun l hl t ht => by have := h l hl; have := hi t ht; omega
  refine ⟨nne (by omega), nne (by omega), nne (by omega), q1, q2, q3, ?_, q4, q5, q6, itsAt_len _ _⟩
  have : ((List.range src.length).map fun k => N + k).Nodup := by
    rw [List.nodup_iff_pairwise_ne, List.pairwise_map]
    exact (List.nodup_iff_pairwise_ne.mp List.nodup_range).imp fun {a b} hab e => hab (by omega)
  exact this
end
/-! ### over the layer -/
def SqB (K : PySem.W.Frag) (b : Bool) (H : Hp) (l : Addr) (xs : List V) : Prop := if b = true then SqT K H l xs else SqL K H l xs
theorem SqB.get {X : Cx} {pins : List (Addr × Obj)} {σ : L2.St} {H : Hp} {s : Shared} {b : Bool} {l : Addr} {xs : List V} (I : Inv X pins σ H s) (h : SqB X.K b H l xs) : ∃ us : List Value, Vals xs us ∧ SOk b s.heap l us.toArray ∧ ∃ o, s.heap.get? l = some o := by
  cases b
  · obtain ⟨its, rv, p, _⟩ := I.list h
    obtain ⟨o, n, e, r⟩ := id p
    exact ⟨its, rv, p.isList, o, e⟩
  · obtain ⟨its, rv, p, _⟩ := I.tuple h
    obtain ⟨o, e, r⟩ := id p
    exact ⟨its, rv, p, o, e⟩
theorem SqB.inj {X : Cx} {pins : List (Addr × Obj)} {σ : L2.St} {H : Hp} {s : Shared} {b : Bool} {l : Addr} {xs ys : List V} (I : Inv X pins σ H s) (h : SqB X.K b H l xs) (h' : SqB X.K b H l ys) : xs = ys := by
  cases b
  · exact I.list_inj h h'
  · exact I.tuple_inj h h'
def ItzB (K : PySem.W.Frag) (b : Addr → Bool) (src : List Addr) : It :=
  ⟨fun i H => ∃ xss : List (List V), xss.length = src.length ∧ ∀ (k : Nat) (l : Addr) (xs : List V), src[k]? = some l → xss[k]? = some xs → SqB K (b l) H l xs ∧ i < xs.length,
    fun i H v H' => ∃ (T : Addr) (ys : List V) (ob : Obj), v = .ref T ∧ H T = none ∧ PlainT ob ∧ H' = upd H T (.frz ob (.tup ys)) ∧ ys.length = src.length ∧ ∀ (k : Nat) (l : Addr) (xs : List V), src[k]? = some l → SqB K (b l) H l xs → xs[i]? = ys[k]?,
    fun i H => ∃ (l0 : Addr) (xs : List V), src[0]? = some l0 ∧ SqB K (b l0) H l0 xs ∧ i = xs.length⟩
theorem itemsB {X : Cx} {pins : List (Addr × Obj)} {σ : L2.St} {H : Hp} {s : Shared} {i : Nat} {b : Addr → Bool} (I : Inv X pins σ H s) : ∀ (src : List Addr) (xss : List (List V)), xss.length = src.length →
    (∀ (k : Nat) (l : Addr) (xs : List V), src[k]? = some l → xss[k]? = some xs → SqB X.K (b l) H l xs ∧ i < xs.length) →
    ∃ (ys : List V) (vs : List Value), ys.length = src.length ∧ Vals ys vs ∧ (∀ (k : Nat) (l : Addr) (v : Value), src[k]? = some l → vs[k]? = some v → ∃ arr : Array Value, SOk (b l) s.heap l arr ∧ arr[i]? = some v) ∧
      ∀ (k : Nat) (l : Addr) (xs : List V), src[k]? = some l → xss[k]? = some xs → xs[i]? = ys[k]?
  | [], [], _, _ => ⟨[], [], rfl, .nil, fun k l v hk => by simp at hk, fun k l xs hk => by simp at hk⟩
  | [], _ :: _, h, _ => by simp at h
  | _ :: _, [], h, _ => by simp at h
  | l0 :: src, x0 :: xss, hl, h => by
    obtain ⟨ys, vs, e1, e2, e3, e4⟩ := itemsB I src xss (by simpa using hl) fun k l xs hk hx => h (k + 1) l xs (by simpa using hk) (by simpa using hx)
    obtain ⟨q, hi⟩ := h 0 l0 x0 rfl rfl
    obtain ⟨its, rv, p, _⟩ := SqB.get I q
    have gx : x0[i]? = some x0[i] := List.getElem?_eq_getElem hi
    obtain ⟨u, hu, ru⟩ := rv.get gx
    refine ⟨x0[i] :: ys, u :: vs, by simp [e1], .cons ru e2, fun k l v hk hv => ?_, fun k l xs hk hx => ?_⟩
    · cases k with
      | zero => cases hk; cases hv; exact ⟨_, p, by simpa using hu⟩
      | succ k => exact e3 k l v (by simpa using hk) (by simpa using hv)
    · cases k with
      | zero => cases hk; cases hx; exact gx
      | succ k => exact e4 k l xs (by simpa using hk) (by simpa using hx)
theorem iterZ {prog : Program} {w : World} {A : Around} {E : Value → Shared → Prop} {s : Shared} {z : Addr} {Q : Value → Shared → Prop} (hT : s.TypeIs (.ref z) "zip") (h : Q (.ref z) s) : wpAny (model prog w) A (pyIter (.ref z)) Q E s := by
  refine wpAny_pyIter_slot hT F.slot_zip_iter ?_
  refine wpAny_call_entry F.slot_zip_iter hT F.entry_zip_iter ?_ (F.args_zip_iter_1 _)
  exact wpAny_pure ⟨_, rfl, "zip", _, hT, F.slot_zip_next.lookup, h⟩
theorem turn_zipB {P : Program} {w : World} {K : PySem.W.Frag} {x : Str} {px : Pos} {b : Addr → Bool} {z TI TO : Addr} {its src : List Addr} (D : ZA z TI TO its src) (h0 : 0 < its.length) (h9 : its.length ≤ 100) :
    Turn P w K (.Name x px) (ItzB K b src) (z :: TI :: TO :: its) z (ZSB b z TI TO its src) where
  mem := List.mem_cons_self
  obj := fun i h st c hc => by
    obtain ⟨⟨f, g, _, hz⟩, hTI, ⟨cur, lc, hTO⟩, hit⟩ := st
    rcases List.mem_cons.mp hc with rfl | hc
    · exact ⟨_, hz, fun _ q => nomatch q⟩
    rcases List.mem_cons.mp hc with rfl | hc
    · exact ⟨_, hTI, fun _ q => nomatch q⟩
    rcases List.mem_cons.mp hc with rfl | hc
    · exact ⟨_, hTO, fun _ q => nomatch q⟩
    obtain ⟨k, hk⟩ := List.mem_iff_getElem?.mp hc
    have hlt : k < src.length := by rw [← D.len]; exact (List.getElem?_eq_some_iff.mp hk).1
    exact (hit k c _ hk (List.getElem?_eq_getElem hlt)).obj
  keep := fun i h h' st k => by
    obtain ⟨⟨f, g, ff, hz⟩, hTI, ⟨cur, lc, hTO⟩, hit⟩ := st
    refine ⟨⟨f, g, ff, k z (by simp) _ hz⟩, k TI (by simp) _ hTI, ⟨cur, lc, k TO (by simp) _ hTO⟩, fun j t l hj hl => ?_⟩
    have mt : t ∈ z :: TI :: TO :: its := by simp [List.mem_of_getElem? hj]
    exact (hit j t l hj hl).at (k t mt)
  item := by
    intro X hP hw hK hc i pins s σ H E I hf st hg
    subst hP hw hK
    obtain ⟨xss, lx, hx⟩ := hg
    obtain ⟨ys, vs, l1, rv, hs, hy⟩ := itemsB I src xss lx hx
    have lv : vs.length = its.length := by rw [← rv.length, l1, D.len]
    obtain ⟨⟨f, g, ff, hz⟩, hTI, ⟨cur, lc, hTO⟩, hit⟩ := id st
    have hzl : z < s.heap.objs.size := Heap.lt_size hz
    refine pyNextB D st h0 h9 lv hs fun h' st' hT hk => ?_
    refine ⟨_, rfl, wpAny_pure ?_⟩
    have new : ObjOk X.prog X.w (upd H s.heap.objs.size (.frz { cls := .type "tuple", data := .seq vs.toArray } (.tup ys))) h' s.heap.objs.size (.frz { cls := .type "tuple", data := .seq vs.toArray } (.tup ys)) :=
      ⟨hT, by rw [l1, ← D.len]; exact Nat.le_trans h9 (by decide), vs, rv, ⟨_, hT, rfl, _, rfl⟩⟩
    have far : ∀ c o, c ∉ z :: TI :: TO :: its → s.heap.get? c = some o → h'.get? c = some o := fun c o hb q => by
      simp only [List.mem_cons, not_or] at hb
      exact hk c o hb.1 hb.2.2.1 hb.2.2.2 q
    have I1 := I.turnedNew (t' := s.toks) (ch := z :: TI :: TO :: its) far hf (Nat.le_refl _) new
    refine ⟨.ref s.heap.objs.size, _, I1, rfl, ⟨_, ys, _, rfl, I.hok.fresh (Nat.le_refl _), ⟨rfl, rfl⟩, rfl, l1, fun k l xs hk hq => ?_⟩, st', fun c hcm => ?_⟩
    · have hkl : k < xss.length := by rw [lx]; exact (List.getElem?_eq_some_iff.mp hk).1
      have gx : xss[k]? = some xss[k] := List.getElem?_eq_getElem hkl
      rw [SqB.inj I hq (hx k l _ hk gx).1]
      exact hy k l _ hk gx
    · have hlt : c < s.heap.objs.size := by
        rcases List.mem_cons.mp hcm with rfl | hc1
        · exact hzl
        rcases List.mem_cons.mp hc1 with rfl | hc1
        · exact Heap.lt_size hTI
        rcases List.mem_cons.mp hc1 with rfl | hc1
        · exact Heap.lt_size hTO
        obtain ⟨k, hk⟩ := List.mem_iff_getElem?.mp hc1
        have hks : k < src.length := by rw [← D.len]; exact (List.getElem?_eq_some_iff.mp hk).1
        obtain ⟨o, e, _⟩ := (hit k c _ hk (List.getElem?_eq_getElem hks)).obj
        exact Heap.lt_size e
      rw [upd_ne (Nat.ne_of_lt hlt)]
      exact (hf c hcm).1
  done := by
    intro X hP hw hK hc i pins s σ H E I hf st hg
    subst hP hw hK
    obtain ⟨l0, xs, hl, q, hi⟩ := hg
    obtain ⟨its2, rv, p, _⟩ := SqB.get I q
    have lx := rv.length
    refine pyNextB_end (I.ok.hd hc) D st h0 hl p (by simp; omega) fun h' hk => ⟨rfl, I.turnedL (t' := s.toks) (ch := z :: TI :: TO :: its) (fun c o hb q => ?_) hf⟩
    simp only [List.mem_cons, not_or] at hb
    exact hk c o hb.1 hb.2.2.1 hb.2.2.2 q
  self := fun A i s Q E st h => by
    obtain ⟨f, g, _, hz⟩ := st.1
    exact iterZ ⟨_, hz, rfl⟩ h
/-- a type called with a star -/
theorem callWith_typeS {M : Model} {A : Around} {E : Value → Shared → Prop} {s : Shared} {pos : Pos} {T : String} {first : List Value} {args : List (Bool × Sem Value)} {Q : Value → Shared → Prop} (hst : args.any (·.1) = true)
    (h : wpAny M A (evalArgs (.type T) true args []) (fun a s1 => wpAny M A (call (.type T) (first ++ a.pos) a.kw) Q E s1) E s) : wpAny M A (callWith pos (.type T) first args []) Q E s := by
  unfold callWith
  refine wpAny_bind (wpAny_holding (wpAny_mono h (fun a s1 h1 => wpAny_bind (wpAny_standAt ?_)) fun _ _ x => x))
  simp only [hst, Bool.true_or]
  refine wpAny_bind (wpAny_pure ?_)
  refine wpAny_bind (wpAny_mono (?_ : wpAny M A _ (fun r s2 => Q r s2) E s1) (fun r s2 hr => wpAny_bind (wpAny_holding (wpAny_point (wpAny_pure hr)))) fun _ _ x => x)
  first
    | exact h1
    | exact wpAny_operating h1
def iZipS (K : PySem.W.Frag) (te : TE) : TI := fun σ H R => te σ H fun v H1 => ∃ (l : Addr) (src : List Addr) (b : Addr → Bool), v = .ref l ∧ SqL K H1 l (src.map V.ref) ∧ 1 ≤ src.length ∧ src.length ≤ 6 ∧ (∀ c ∈ src, ∃ xs, SqB K (b c) H1 c xs) ∧ R (ItzB K b src) H1
theorem vals_refs : ∀ {src : List Addr} {us : List Value}, Vals (src.map V.ref) us → us = src.map Value.ref
  | [], _, .nil => rfl
  | a :: r, _, .cons h t => by
    cases h
    rw [vals_refs t]
    rfl
theorem pi_zipS {X : Cx} {e : Expr} {te : TE} {p pos px sp : Pos} {x : Str} (hg : Gl X "zip") (hm : X.mg "zip" = none) (he : PE X e te) (hst : starEach [.Starred e sp] X.env = [(true, eval e X.env)] := by rfl) :
    PI X (.Name x px) (.Call (.Name "zip" p) [.Starred e sp] [] pos) (iZipS X.K te) := by
  refine ⟨fun pins s σ H R I h => Call_ (ld_blt I hg hm PyProof.Rows.boot_zip ?_)⟩
  rw [hst]
  refine callWith_typeS rfl (PySem.W.ks_lone (thn (he.run pins s σ H _ I h) fun v s1 ⟨y, H1, I1, ry, l, src, b, ey, hl, h1, h6, hs, q⟩ => ?_))
  subst ey
  cases ry
  refine StX.star_any I1 (.inr hl) fun us s2 I2 rv => ?_
  rw [vals_refs rv]
  have hs2 : ∀ c ∈ src, ∃ arr, SOk (b c) s2.heap c arr := fun c hc => by
    obtain ⟨xs, hx⟩ := hs c hc
    obtain ⟨us, _, p, _⟩ := SqB.get I2 hx
    exact ⟨_, p⟩
  have hlt : ∀ c : Nat, c ∈ src → c < s2.heap.objs.size := fun c hc => by
    obtain ⟨xs, hx⟩ := hs c hc
    obtain ⟨us, _, _, o, ho⟩ := SqB.get I2 hx
    exact Heap.lt_size ho
  refine call_zipB (b := b) h1 h6 hs2 fun h' st hk => iterZ (by obtain ⟨f, g, _, e⟩ := st.1; exact ⟨_, e, rfl⟩) ?_
  refine ⟨_, _, _, _, H1, rfl, I2.kept (t' := s2.toks) hk, turn_zipB (apartB hlt) (by rw [itsAt_len]; omega) (by rw [itsAt_len]; omega), st, fun c hcm => ?_, q⟩
  have hle : s2.heap.objs.size ≤ c := by
    have big : ∀ c : Nat, c ∈ (s2.heap.objs.size + src.length + 2) :: (s2.heap.objs.size + src.length) :: (s2.heap.objs.size + src.length + 1) :: itsAt s2.heap.objs.size src.length → s2.heap.objs.size ≤ c := fun c hc => by
      simp only [List.mem_cons] at hc
      rcases hc with e | e | e | hc
      · omega
      · omega
      · omega
      · unfold itsAt at hc
        obtain ⟨k, _, e⟩ := List.mem_map.mp hc
        have e2 : s2.heap.objs.size + k = c := e
        omega
    exact big c hcm
  exact I2.fpOk hle (I2.hok.fresh hle)
end RL
namespace MP
open PySem PySem.Spec PyProof.Rows L2 RL
/-! ### first, *others = a tuple -/
def sHead (i j : Nat) (f : DE) : DS := fun ρ so => (f ρ so).bind fun p => match p.1 with
  | .tuple (x :: r) => if r.length ≤ LIM then some (.nx ((ρ.set i (some (.d x))).set j (some (.d (.list r)))), p.2) else none
  | _ => none
section
variable {K : PySem.W.Frag} {p : Nat} {W : Str → Hp → Prop}
theorem tOf_head {i j : Nat} {f : DE} (D : Ends) (σ : L2.St) (H : Hp) (h : tOfS K p W (sHead i j f) D σ H) : tAsg (tOf K f) (gHead K (gName i) (gName j)) D σ H := by
  obtain ⟨F, ow, ρ, so, fl, so', r0, rs, e, k⟩ := h
  obtain ⟨⟨d, so1⟩, e1, e2⟩ := Option.bind_eq_some_iff.mp e
  refine ⟨F, ow, ρ, so, d, so1, r0, rs, e1, fun F1 H1 v r1 s1 d1 => ?_⟩
  split at e2
  · rename_i x r hd
    replace hd : d = .tuple (x :: r) := hd
    subst hd
    obtain ⟨hl, e3⟩ := if_some e2
    cases e3
    obtain ⟨a, us, rfl, ha, hus⟩ := dq_tup d1
    cases hus with
    | cons hx hr =>
      rename_i u ur
      refine ⟨a, u, ur, rfl, (ha.sq r1.sub), by rw [hr.len]; exact hl, fun q nq => ?_⟩
      have nF := r1.sub.free nq
      have sg : Stp [] F1 H1 (upd F1 q (.lst ur)) (upd H1 q (.lst ur)) := Stp.new nq r1.sub
      have rs2 := (rs.mono s1.fz).mono sg.fz
      exact k _ _ ow (r1.grow sg (same_upd r1.sub)) (s1.trans sg.some_of) (OwTo.refl _ _ _) _
        ((rs2.set (i := i) (v := some u) (s := some (.d x)) ⟨u, rfl, dq_same sg.fz _ _ hx⟩).set (i := j) (v := some (.ref q)) (s := some (.d (.list r))) ⟨.ref q, rfl, new_lst nF hr⟩)
  · cases e2
end
theorem pds_head {X : Cx} {p : Nat} {W : Str → Hp → Prop} {i j : Nat} {x y : Str} {px py sp tp pos : Pos} {kt : Nat} {v : Expr} {f : DE} (hc : X.calm = true) (hN : X.N.Nodup) (hi : X.N[i]? = some x) (hj : X.N[j]? = some y) (hx : Loc X.env.scope x) (hy : Loc X.env.scope y) (he : PD X v f)
    (hs : swapsWithSole [.Tuple [.Name x px, .Starred (.Name y py) sp] kt tp] v pos.line X.env = pure false := by rfl) (hw : swappedStores [.Tuple [.Name x px, .Starred (.Name y py) sp] kt tp] v X.env = pure none := by rfl)
    (h1 : (assignEach [.Tuple [.Name x px, .Starred (.Name y py) sp] kt tp] X.env).map (·.2) = [assign (.Tuple [.Name x px, .Starred (.Name y py) sp] kt tp) X.env] := by rfl)
    (hf : X.fn x = true ∨ X.env.scope.names.lookup x = some .local := by first | exact .inl rfl | exact .inr rfl | assumption) (hg : X.fn y = true ∨ X.env.scope.names.lookup y = some .local := by first | exact .inl rfl | exact .inr rfl | assumption)
    (hm : (assignEach [.Name x px, .Starred (.Name y py) sp] X.env) = [(false, assign (.Name x px) X.env), (true, assign (.Name y py) X.env)] := by rfl) :
    PDS X p W (.Assign [.Tuple [.Name x px, .Starred (.Name y py) sp] kt tp] v pos) (sHead i j f) :=
  (ps_asg he (pg_head hc (pg_name hN hi hx hf) (pg_name hN hj hy hg) hm) hs hw h1).imp tOf_head
/-! ### slices with a step -/
def dStp : PyData → Option Int → Option Int → Option Int → Option PyData := fun d lo hi st => match lo, hi, st with
  | some a, none, some k => if 0 ≤ a ∧ 2 ≤ k then (match d with
    | .list xs => if (stepIx xs.length (some a) none k).length ≤ LIM then some (.list (pickIx xs (stepIx xs.length (some a) none k))) else none
    | .tuple xs => if (stepIx xs.length (some a) none k).length ≤ LIM then some (.tuple (pickIx xs (stepIx xs.length (some a) none k))) else none
    | _ => none) else none
  | none, none, some (-1) => (match d with
    | .list xs => if (stepIx xs.length none none (-1)).length ≤ LIM then some (.list (pickIx xs (stepIx xs.length none none (-1)))) else none
    | .tuple xs => if (stepIx xs.length none none (-1)).length ≤ LIM then some (.tuple (pickIx xs (stepIx xs.length none none (-1)))) else none
    | _ => none)
  | _, _, _ => none
theorem dStp_some {d e : PyData} {lo hi st : Option Int} (h : dStp d lo hi st = some e) : StepOk3 lo hi st ∧ ∃ z, st = some z ∧ ((∃ xs, d = .list xs ∧ (stepIx xs.length lo hi z).length ≤ LIM ∧ e = .list (pickIx xs (stepIx xs.length lo hi z))) ∨
    (∃ xs, d = .tuple xs ∧ (stepIx xs.length lo hi z).length ≤ LIM ∧ e = .tuple (pickIx xs (stepIx xs.length lo hi z)))) := by
  unfold dStp at h
  split at h
  · rename_i a k
    have hc : 0 ≤ a ∧ 2 ≤ k := by
      by_cases c : 0 ≤ a ∧ 2 ≤ k
      · exact c
      · rw [if_neg c] at h; cases h
    rw [if_pos hc] at h
    obtain ⟨ha, hk⟩ := hc
    refine ⟨?_, k, rfl, ?_⟩
    · obtain ⟨a', rfl⟩ := Int.eq_ofNat_of_zero_le ha
      obtain ⟨k', rfl⟩ := Int.eq_ofNat_of_zero_le (show 0 ≤ k by omega)
      exact .up a' k' (by omega)
    · split at h
      · obtain ⟨hl, rfl⟩ := if_some h
        exact .inl ⟨_, rfl, hl, rfl⟩
      · obtain ⟨hl, rfl⟩ := if_some h
        exact .inr ⟨_, rfl, hl, rfl⟩
      · cases h
  · refine ⟨.down, -1, rfl, ?_⟩
    split at h
    · obtain ⟨hl, rfl⟩ := if_some h
      exact .inl ⟨_, rfl, hl, rfl⟩
    · obtain ⟨hl, rfl⟩ := if_some h
      exact .inr ⟨_, rfl, hl, rfl⟩
    · cases h
  · cases h
def eStp (f : DE) (lo hi st : DO) : DE := fun ρ so => (f ρ so).bind fun p => (lo ρ p.2).bind fun q => (hi ρ q.2).bind fun r => (st ρ r.2).bind fun t => (dStp p.1 q.1 r.1 t.1).map fun d => (d, t.2)
theorem dqPick {K : PySem.W.Frag} {F : Hp} {xs : List V} {ds : List PyData} (h : DqAll K F xs ds) : ∀ js : List Nat, DqAll K F (pickIx xs js) (pickIx ds js)
  | [] => .nil
  | j :: js => by
    have ih := dqPick h js
    unfold pickIx at ih ⊢
    rw [List.filterMap_cons, List.filterMap_cons]
    cases q : xs[j]? with
    | none =>
      have : ds[j]? = none := by
        rw [List.getElem?_eq_none_iff] at q ⊢
        rw [← h.len]
        exact q
      rw [this]
      exact ih
    | some x =>
      obtain ⟨d, hd, rd⟩ := h.get q
      rw [hd]
      exact .cons rd ih
theorem tOf_stp {K : PySem.W.Frag} {f : DE} {lo hi st : DO} (σ : L2.St) (H : Hp) (Q : VK) (h : tOf K (eStp f lo hi st) σ H Q) : tSl3 (rStep K) (tOf K f) (tOfO K lo) (tOfO K hi) (tOfO K st) σ H Q := by
  obtain ⟨F, ow, ρ, so, d, so', r0, rs, e, k⟩ := h
  obtain ⟨⟨x, so1⟩, e1, e⟩ := Option.bind_eq_some_iff.mp e
  obtain ⟨⟨l, so2⟩, e2, e⟩ := Option.bind_eq_some_iff.mp e
  obtain ⟨⟨u, so3⟩, e3, e⟩ := Option.bind_eq_some_iff.mp e
  obtain ⟨⟨t, so4⟩, e4, e⟩ := Option.bind_eq_some_iff.mp e
  obtain ⟨y, e5, e6⟩ := Option.map_eq_some_iff.mp e
  cases e6
  refine ⟨F, ow, ρ, so, x, so1, r0, rs, e1, fun F1 H1 v r1 s1 d1 => ⟨F1, ow, ρ, so1, l, so2, r1, rs.mono s1.fz, e2, fun F2 H2 r2 s2 => ⟨F2, ow, ρ, so2, u, so3, r2, (rs.mono s1.fz).mono s2.fz, e3, fun F3 H3 r3 s3 => ⟨F3, ow, ρ, so3, t, so4, r3, ((rs.mono s1.fz).mono s2.fz).mono s3.fz, e4, fun F4 H4 r4 s4 => ?_⟩⟩⟩⟩
  obtain ⟨ok, z, rfl, hz⟩ := dStp_some e5
  have d4 := dq_same (s2.fz.trans (s3.fz.trans s4.fz)) _ _ d1
  have st := s1.trans (s2.trans (s3.trans s4))
  rcases hz with ⟨xs, rfl, hl, rfl⟩ | ⟨xs, rfl, hl, rfl⟩
  · obtain ⟨a, us, rfl, ha, hus⟩ := dq_lst d4
    have hl' : (stepIx us.length l u z).length ≤ LIM := by rw [hus.len]; exact hl
    refine ⟨ok, a, us, z, rfl, rfl, Nat.le_trans hl' (by decide), .inl ⟨SqL.of (r4.sub _ _ ha), fun q nq => ?_⟩⟩
    rw [hus.len]
    exact k _ _ _ (r4.grow (Stp.new nq r4.sub) (same_upd r4.sub)) (st.trans (Stp.new nq r4.sub).some_of) (new_lst (r4.sub.free nq) (dqPick hus _))
  · obtain ⟨a, us, rfl, ha, hus⟩ := dq_tup d4
    have hl' : (stepIx us.length l u z).length ≤ LIM := by rw [hus.len]; exact hl
    refine ⟨ok, a, us, z, rfl, rfl, Nat.le_trans hl' (by decide), .inr ⟨(ha.sq r4.sub), fun q ob nq pl => ?_⟩⟩
    rw [hus.len]
    exact k _ _ _ (r4.grow (Stp.new nq r4.sub) (same_upd r4.sub)) (st.trans (Stp.new nq r4.sub).some_of) (new_tup (r4.sub.free nq) pl (dqPick hus _))
theorem pd_stp {X : Cx} {e : Expr} {lo hi : Option Expr} {st : Expr} {f : DE} {fl fh fs : DO} {pos p2 : Pos} (he : PD X e f) (hl : PDO X lo fl) (hu : PDO X hi fh) (hs : PDO X (some st) fs) : PD X (.Subscript e (.Slice lo hi (some st) p2) pos) (eStp f fl fh fs) := (pe_step he hl hu hs).imp tOf_stp
/-! ### range(a, b, -1) -/
def downD (a : Int) (n : Nat) : List PyData := (List.range n).map fun (i : Nat) => PyData.int (a + (i : Int) * -1)
def iRg3 (g : DL) : DL := fun ρ so => (g ρ so).bind fun p => match p.1 with
  | [.int a, .int b, .int (-1)] => if -5000 ≤ a ∧ a ≤ 5000 ∧ -5000 ≤ b ∧ b ≤ 5000 then some (downD a (a - b).toNat, p.2) else none
  | _ => none
theorem DqAll.three2 {K : PySem.W.Frag} {F : Hp} {vs : List V} {d e f : PyData} (h : DqAll K F vs [d, e, f]) : ∃ v u w, vs = [v, u, w] ∧ Dq K F v d ∧ Dq K F u e ∧ Dq K F w f := by
  cases h with
  | cons h1 h2 =>
    obtain ⟨u, w, rfl, h3, h4⟩ := h2.two
    exact ⟨_, u, w, rfl, h1, h3, h4⟩
theorem pdi_range3 {X : Cx} {tg a b c : Expr} {g : DL} {p pos : Pos} (hg : Gl X "range") (hm : X.mg "range" = none) (ha : PDA X [a, b, c] g) (hs : starEach [a, b, c] X.env = (false, eval a X.env) :: starEach [b, c] X.env := by rfl) (hpl : (backTo pos (starEach [b, c] X.env)).any (·.1) = false := by rfl) :
    PDI X tg (.Call (.Name "range" p) [a, b, c] [] pos) (iRg3 g) := by
  refine (pi_range3 hg hm ha hs hpl).imp fun σ H R q => ?_
  obtain ⟨F, ow, ρ, so, ds, so', r0, rs, e, k⟩ := q
  obtain ⟨⟨d, so1⟩, e1, e2⟩ := Option.bind_eq_some_iff.mp e
  refine ⟨F, ow, ρ, so, d, so1, r0, rs, e1, fun F1 H1 vs r1 s1 d1 => ?_⟩
  split at e2
  · rename_i n m hd
    obtain ⟨hn, e3⟩ := if_some e2
    cases e3
    replace hd : d = [.int n, .int m, .int (-1)] := hd
    subst hd
    obtain ⟨v, u, w, rfl, h1, h2, h3⟩ := d1.three2
    cases h1
    cases h2
    cases h3
    have ln : (downD n (n - m).toNat).length = (n - m).toNat := by unfold downD; rw [List.length_map, List.length_range]
    refine ⟨n, m, -1, (n - m).toNat, rfl, RgC.neg (by omega) (by omega) (by omega) (by omega), k F1 H1 _ _ _ r1 s1 (by rw [ln]; exact walk_rangeC) (fun _ _ _ _ => trivial) fun i F2 H2 x H3 hi a1 a2 y => ?_⟩
    obtain ⟨rfl, rfl⟩ := y
    rw [ln] at hi
    exact ⟨F2, .int (n + (i : Int) * -1), by unfold downD; rw [List.getElem?_map, List.getElem?_range hi]; rfl, Stp.refl _ _ _, a2, .inl (.int _)⟩
  · cases e2
/-! ### zip(*rows) -/
def tupRows : List PyData → Option (List (List PyData))
  | [] => some []
  | .tuple xs :: r => (tupRows r).map fun q => xs :: q
  | _ :: _ => none
def lstRows : List PyData → Option (List (List PyData))
  | [] => some []
  | .list xs :: r => (lstRows r).map fun q => xs :: q
  | _ :: _ => none
/-- the columns of rows of one length -/
def colsD (rows : List (List PyData)) : List PyData := (List.range (rows.headD []).length).map fun i => PyData.tuple (rows.map fun r => r.getD i .none)
def iZipS (f : DE) : DL := fun ρ so => (f ρ so).bind fun p => match p.1 with
  | .list ds => ((tupRows ds).orElse fun _ => lstRows ds).bind fun rows => if 1 ≤ rows.length ∧ rows.length ≤ 6 ∧ ∀ r ∈ rows, r.length = (rows.headD []).length then some (colsD rows, p.2) else none
  | _ => none
/-- the rows as they stand -/
theorem rows_at {K : PySem.W.Frag} {F : Hp} : ∀ {vs : List V} {ds : List PyData} {rows : List (List PyData)}, DqAll K F vs ds → tupRows ds = some rows → ∃ (src : List Addr) (xss : List (List V)), vs = src.map V.ref ∧ src.length = rows.length ∧ xss.length = rows.length ∧
    (∀ (k : Nat) (l : Addr) (xs : List V), src[k]? = some l → xss[k]? = some xs → TupAt F l xs) ∧ ∀ (k : Nat) (xs : List V) (r : List PyData), xss[k]? = some xs → rows[k]? = some r → DqAll K F xs r
  | _, [], rows, h, e => by
    cases h
    cases e
    exact ⟨[], [], rfl, rfl, rfl, fun k l xs hk => by simp at hk, fun k xs r hk => by simp at hk⟩
  | _, d :: ds, rows, h, e => by
    cases h with
    | cons h1 h2 =>
      cases d with
      | tuple es =>
        obtain ⟨q, e1, rfl⟩ := Option.map_eq_some_iff.mp (show (tupRows ds).map _ = some rows from e)
        obtain ⟨src, xss, rfl, l1, l2, a1, a2⟩ := rows_at h2 e1
        obtain ⟨a, xs, rfl, ha, hx⟩ := dq_tup h1
        refine ⟨a :: src, xs :: xss, rfl, by simp [l1], by simp [l2], fun k l ys hk hy => ?_, fun k ys r hk hr => ?_⟩
        · cases k with
          | zero => cases hk; cases hy; exact ha
          | succ k => exact a1 k l ys (by simpa using hk) (by simpa using hy)
        · cases k with
          | zero => cases hk; cases hr; exact hx
          | succ k => exact a2 k ys r (by simpa using hk) (by simpa using hr)
      | _ => cases e
theorem rows_atL {K : PySem.W.Frag} {F : Hp} : ∀ {vs : List V} {ds : List PyData} {rows : List (List PyData)}, DqAll K F vs ds → lstRows ds = some rows → ∃ (src : List Addr) (xss : List (List V)), vs = src.map V.ref ∧ src.length = rows.length ∧ xss.length = rows.length ∧
    (∀ (k : Nat) (l : Addr) (xs : List V), src[k]? = some l → xss[k]? = some xs → F l = some (.lst xs)) ∧ ∀ (k : Nat) (xs : List V) (r : List PyData), xss[k]? = some xs → rows[k]? = some r → DqAll K F xs r
  | _, [], rows, h, e => by
    cases h
    cases e
    exact ⟨[], [], rfl, rfl, rfl, fun k l xs hk => by simp at hk, fun k xs r hk => by simp at hk⟩
  | _, d :: ds, rows, h, e => by
    cases h with
    | cons h1 h2 =>
      cases d with
      | list es =>
        obtain ⟨q, e1, rfl⟩ := Option.map_eq_some_iff.mp (show (lstRows ds).map _ = some rows from e)
        obtain ⟨src, xss, rfl, l1, l2, a1, a2⟩ := rows_atL h2 e1
        obtain ⟨a, xs, rfl, ha, hx⟩ := dq_lst h1
        refine ⟨a :: src, xs :: xss, rfl, by simp [l1], by simp [l2], fun k l ys hk hy => ?_, fun k ys r hk hr => ?_⟩
        · cases k with
          | zero => cases hk; cases hy; exact ha
          | succ k => exact a1 k l ys (by simpa using hk) (by simpa using hy)
        · cases k with
          | zero => cases hk; cases hr; exact hx
          | succ k => exact a2 k ys r (by simpa using hk) (by simpa using hr)
      | _ => cases e
theorem walk_zipB {K : PySem.W.Frag} {b : Addr → Bool} {src : List Addr} {xss : List (List V)} {n : Nat} (lx : xss.length = src.length) (h1 : 1 ≤ src.length) (hn : ∀ xs ∈ xss, xs.length = n) :
    Walk (ItzB K b src) n (fun H => ∀ (k : Nat) (l : Addr) (xs : List V), src[k]? = some l → xss[k]? = some xs → SqB K (b l) H l xs)
      (fun i H v H' => ∃ (T : Addr) (ys : List V) (ob : Obj), v = .ref T ∧ H T = none ∧ PlainT ob ∧ H' = upd H T (.frz ob (.tup ys)) ∧ ys.length = src.length ∧ ∀ (k : Nat) (xs : List V), xss[k]? = some xs → ys[k]? = xs[i]?) := by
  refine ⟨fun i H hi q => ⟨xss, lx, fun k l xs hk hx => ⟨q k l xs hk hx, by rw [hn xs (List.mem_of_getElem? hx)]; exact hi⟩⟩, fun H q => ?_, fun i H v H' hi q y => ?_⟩
  · have g1 : src[0]? = some src[0] := List.getElem?_eq_getElem h1
    have g2 : xss[0]? = some xss[0] := List.getElem?_eq_getElem (by omega)
    exact ⟨_, _, g1, q 0 _ _ g1 g2, (hn _ (List.getElem_mem _)).symm⟩
  · obtain ⟨T, ys, ob, e1, e2, pl, e3, ly, hy⟩ := y
    refine ⟨T, ys, ob, e1, e2, pl, e3, ly, fun k xs hx => ?_⟩
    have hk : k < src.length := by rw [← lx]; exact (List.getElem?_eq_some_iff.mp hx).1
    have g1 : src[k]? = some src[k] := List.getElem?_eq_getElem hk
    exact (hy k _ xs g1 (q k _ xs g1 hx)).symm
theorem colsD_len (rows : List (List PyData)) : (colsD rows).length = (rows.headD []).length := by unfold colsD; rw [List.length_map, List.length_range]
theorem cols_dq {K : PySem.W.Frag} {F : Hp} {i n : Nat} (hi : i < n) : ∀ {xss : List (List V)} {rows : List (List PyData)} {ys : List V}, ys.length = rows.length → xss.length = rows.length → (∀ r ∈ rows, r.length = n) →
    (∀ (k : Nat) (xs : List V), xss[k]? = some xs → ys[k]? = xs[i]?) → (∀ (k : Nat) (xs : List V) (r : List PyData), xss[k]? = some xs → rows[k]? = some r → DqAll K F xs r) → DqAll K F ys (rows.map fun r => r.getD i .none)
  | [], [], [], _, _, _, _, _ => .nil
  | [], [], _ :: _, h, _, _, _, _ => by simp at h
  | [], _ :: _, _, _, h, _, _, _ => by simp at h
  | _ :: _, [], _, _, h, _, _, _ => by simp at h
  | _ :: _, _ :: _, [], h, _, _, _, _ => by simp at h
  | xs :: xss, r :: rows, y :: ys, h1, h2, h3, h4, h5 => by
    have hd := h5 0 xs r rfl rfl
    have hr : r.length = n := h3 r List.mem_cons_self
    have hx : i < xs.length := by rw [hd.len, hr]; exact hi
    have ey : some y = xs[i]? := h4 0 xs rfl
    obtain ⟨d, g, q⟩ := hd.get ey.symm
    have e2 : r.getD i .none = d := by rw [List.getD_eq_getElem?_getD, g]; rfl
    refine .cons (by show Dq K F y (r.getD i .none); rw [e2]; exact q) (cols_dq hi (by simpa using h1) (by simpa using h2) (fun q hq => h3 q (List.mem_cons_of_mem _ hq)) (fun k zs hk => ?_) fun k zs q hk hq => h5 (k + 1) zs q (by simpa using hk) (by simpa using hq))
    have := h4 (k + 1) zs (by simpa using hk)
    simpa using this
theorem pdi_zipS {X : Cx} {e : Expr} {f : DE} {p pos px sp : Pos} {x : Str} (hg : Gl X "zip") (hm : X.mg "zip" = none) (he : PD X e f) (hst : starEach [.Starred e sp] X.env = [(true, eval e X.env)] := by rfl) :
    PDI X (.Name x px) (.Call (.Name "zip" p) [.Starred e sp] [] pos) (iZipS f) := by
  refine (RL.pi_zipS hg hm he hst).imp fun σ H R q => ?_
  obtain ⟨F, ow, ρ, so, ds, so', r0, rs, e, k⟩ := q
  obtain ⟨⟨d, so1⟩, e1, e2⟩ := Option.bind_eq_some_iff.mp e
  refine ⟨F, ow, ρ, so, d, so1, r0, rs, e1, fun F1 H1 v r1 s1 d1 => ?_⟩
  split at e2
  · rename_i es hd
    replace hd : d = .list es := hd
    subst hd
    obtain ⟨rows, e3, e4⟩ := Option.bind_eq_some_iff.mp e2
    obtain ⟨⟨hr1, hr6, hrl⟩, e5⟩ := if_some e4
    cases e5
    obtain ⟨a, us, rfl, ha, hus⟩ := dq_lst d1
    have fin : ∀ (b : Bool) (src : List Addr) (xss : List (List V)), us = src.map V.ref → src.length = rows.length → xss.length = rows.length → (∀ (F2 H2 : Hp), Same F1 F2 → Same F2 H2 → ∀ (k : Nat) (l : Addr) (xs : List V), src[k]? = some l → xss[k]? = some xs → SqB X.K b H2 l xs) →
        (∀ (k : Nat) (xs : List V) (r : List PyData), xss[k]? = some xs → rows[k]? = some r → DqAll X.K F1 xs r) → ∃ (l : Addr) (src : List Addr) (b : Addr → Bool), V.ref a = .ref l ∧ SqL X.K H1 l (src.map V.ref) ∧ 1 ≤ src.length ∧ src.length ≤ 6 ∧ (∀ c ∈ src, ∃ xs, SqB X.K (b c) H1 c xs) ∧ R (ItzB X.K b src) H1 := by
      intro b src xss eu l1 l2 a1 a2
      have hn : ∀ xs ∈ xss, xs.length = (rows.headD []).length := fun xs hx => by
        obtain ⟨k, hk⟩ := List.mem_iff_getElem?.mp hx
        have hlt : k < rows.length := by rw [← l2]; exact (List.getElem?_eq_some_iff.mp hk).1
        have g : rows[k]? = some rows[k] := List.getElem?_eq_getElem hlt
        rw [(a2 k xs _ hk g).len]
        exact hrl _ (List.getElem_mem hlt)
      have wk := walk_zipB (K := X.K) (b := fun _ => b) (src := src) (by omega) (by omega) hn
      rw [← colsD_len] at wk
      refine ⟨a, src, fun _ => b, rfl, by rw [← eu]; exact SqL.of (r1.sub _ _ ha), by omega, by omega, fun c hc => ?_, k F1 H1 _ _ _ r1 s1 wk (fun F2 H2 b1 b2 => a1 F2 H2 b1 b2) fun i F2 H2 x H3 hi b1 b2 y => ?_⟩
      · obtain ⟨k, hk⟩ := List.mem_iff_getElem?.mp hc
        have hlt : k < xss.length := by rw [l2, ← l1]; exact (List.getElem?_eq_some_iff.mp hk).1
        exact ⟨_, a1 F1 H1 (Same.refl _) r1.sub k c _ hk (List.getElem?_eq_getElem hlt)⟩
      · obtain ⟨T, ys, ob, rfl, nT, pl, rfl, ly, hy⟩ := y
        rw [colsD_len] at hi
        refine ⟨_, .tuple (rows.map fun r => r.getD i .none), ?_, Stp.new nT b2, same_upd b2, .inl (new_tup (b2.free nT) pl (dqAll_same b1 _ _ (cols_dq hi (by omega) (by omega) hrl hy a2)))⟩
        unfold colsD
        rw [List.getElem?_map, List.getElem?_range hi]
        rfl
    cases ht : tupRows es with
    | some q =>
      rw [ht] at e3
      cases e3
      obtain ⟨src, xss, eu, l1, l2, a1, a2⟩ := rows_at hus ht
      exact fin true src xss eu l1 l2 (fun F2 H2 b1 b2 k l xs hk hx => ((a1 k l xs hk hx).sq (b1.trans b2))) a2
    | none =>
      rw [ht] at e3
      have e3 : lstRows es = some rows := e3
      obtain ⟨src, xss, eu, l1, l2, a1, a2⟩ := rows_atL hus e3
      exact fin false src xss eu l1 l2 (fun F2 H2 b1 b2 k l xs hk hx => SqL.of (b2 _ _ (b1 _ _ (a1 k l xs hk hx)))) a2
  · cases e2
end MP
namespace RL
open PySem PySem.Spec PyProof.Rows L2
/-! ### the tuple that is unpacked at once -/
/-! ### zip of three things, lists or tuples as they come -/
end RL
namespace MP
open PySem PySem.Spec PyProof.Rows L2 RL
/-! ### zip of three lists or tuples, as they come -/
def kindOf (F : Hp) (l : Addr) : Bool := match F l with
  | some (.frz _ (.tup _)) => true
  | _ => false
/-! ### a new list as the first argument, which nobody has afterwards -/
end MP
namespace RL
open PySem PySem.Spec PyProof.Rows L2
/-! ### set(a tuple of ints), sorted(a set of ints) -/
theorem vals_ints {ns : List Int} : ∀ {out : List Value}, IntsAre out ns → Vals (ns.map V.int) out := by
  induction ns with
  | nil => intro out h; cases h; exact .nil
  | cons n ns ih =>
    intro out h
    cases h with
    | cons h1 h2 => exact .cons ⟨_, rfl⟩ (ih (by assumption))
end RL
namespace RL
open PySem PySem.Spec PyProof.Rows L2
/-! ### x, y = a, b where one of the names is a cell: stored from the left -/
/-! ### a call without arguments, of a def that asks that nothing is being shown -/
end RL
namespace MP
open PySem PySem.Spec PyProof.Rows L2 RL
end MP
namespace MP
open PySem PySem.Spec PyProof.Rows L2 RL
/-! ### how often a list has a thing -/
def rCntL (K : PySem.W.Frag) : V → List V → Hp → VK → Prop := fun x xs H Q =>
  ∃ (a : Addr) (y : V) (d : PyData) (ds : List PyData), x = V.ref a ∧ xs = [y] ∧ Dp K H (V.ref a) (.list ds) ∧ Dp K H y d ∧ PyData.plainAll ds = true ∧ d.plain = true ∧ d.depth ≤ 60 ∧ Q (.int ((ds.countP fun z => PyData.eqv z d : Nat) : Int)) H
theorem mt_cntL {X : Cx} (hu : X.A.units + 65 < cLine) : MtR X "list.count" (rCntL X.K) := by
  intro pins s σ H x xs v us Q I rx rxs h
  obtain ⟨a, y, d, ds, rfl, rfl, hl, hy, pa, pd, dd, q⟩ := h
  cases rx
  cases rxs with
  | cons ry rt =>
    cases rt
    obtain ⟨bs, r1⟩ := Dp.reads I d y _ hy ry
    cases hl with
    | lst hs ha =>
      obtain ⟨its, rv, hi, _⟩ := I.list hs
      obtain ⟨as, r2⟩ := Dp.readsAll I ds _ its ha rv
      exact PySem.SeqAt.count_list_data hi.isList (by simpa using r2) r1 pa pd (by have := Nat.min_le_right (PyData.depthAll ds) d.depth; omega) ⟨.int _, H, I.kept (fun _ _ e => e), ⟨_, rfl⟩, q⟩
end MP
namespace MP
open PySem PySem.Spec PyProof.Rows L2 RL
/-! ### methods of a list or of a tuple, as it comes -/
theorem TupAt.is {X : Cx} {pins : List (Addr × Obj)} {σ : L2.St} {F H : Hp} {s : Shared} {a : Addr} {xs : List V} {v : Value} (I : Inv X pins σ H s) (h : TupAt F a xs) (e : Same F H) (r : RelV (.ref a) v) :
    s.TypeIs v "tuple" ∧ ∀ b, v = .ref b → ∃ ob, s.heap.get? b = some ob ∧ ob.dict = none := by
  obtain ⟨ob, h, p1, p2⟩ := h
  cases r
  obtain ⟨g, _⟩ := I.hok a _ (e _ _ h)
  refine ⟨⟨ob, g, p1⟩, fun b q => ?_⟩
  cases q
  exact ⟨ob, g, p2⟩
def tBMU (K : PySem.W.Frag) (rL rT : V → List V → Hp → VK → Prop) (to : TE) (t : TA) : TE := fun σ H Q => to σ H fun x H1 =>
  (tyV K "list" x H1 ∧ t σ H1 fun xs H2 => rL x xs H2 Q) ∨ ((∃ F a ys, x = .ref a ∧ TupAt F a ys ∧ Same F H1) ∧ t σ H1 fun xs H2 => rT x xs H2 Q)
theorem pe_bmU {X : Cx} {o e : Expr} {es : List Expr} {to : TE} {t : TA} {name : Str} {apos cpos : Pos} {idL idT : String} {rL rT : V → List V → Hp → VK → Prop}
    (slotL : Slot "list" name idL) (htyL : typeOf (.builtin idL) = pure (.type "method_descriptor")) (hmL : MtR X idL rL)
    (slotT : Slot "tuple" name idT) (htyT : typeOf (.builtin idT) = pure (.type "method_descriptor")) (hmT : MtR X idT rT) (ho : PE X o to) (ha : PA X (e :: es) t)
    (hbase : attributeBase o name X.env (eval o X.env) = eval o X.env := by rfl)
    (hfew : ((backTo cpos (starEach (e :: es) X.env)).all (fun x => !x.1) && (backToKw cpos (keywordEach [] X.env)).all (fun x => x.1.isSome)
      && decide ((e :: es).length + ([] : List Keyword).length + (if ([] : List Keyword).isEmpty then 0 else 1) < 30)) = true := by rfl)
    (hline : (apos.endLine == cpos.line) = true := by rfl) (hs : starEach (e :: es) X.env = (false, eval e X.env) :: starEach es X.env := by rfl) (hplain : (backTo cpos (starEach es X.env)).any (·.1) = false := by rfl) :
    PE X (.Call (.Attribute o name apos) (e :: es) [] cpos) (tBMU X.K rL rT to t) := by
  refine ⟨fun pins s σ H Q I h => ?_⟩
  refine wpAny_Call_method_late hbase hfew hline rfl (thn (ho.run pins s σ H _ I h) fun v s1 ⟨x, H1, I1, r1, q1⟩ => ?_)
  rcases q1 with ⟨ty, q1⟩ | ⟨⟨F, a, ys, rfl, ty, sm⟩, q1⟩
  · obtain ⟨h1, h2⟩ := tyV_is I1 r1 ty
    refine ⟨"list", idL, PySem.F.plainAttrs_list, slotL, htyL, h1, h2, ?_⟩
    have hA := ha.run cpos pins s1 σ H1 _ I1 q1
    rw [hs] at hA ⊢
    refine Calls.callWith_builtin (by show (false || (backTo cpos (starEach es X.env)).any (·.1)) = false; rw [hplain] <;> rfl) (Calls.evalArgs_plain ?_)
    exact thn hA fun us s2 ⟨vs, H2, I2, r2, q2⟩ => hmL pins s2 σ H2 x vs v us Q I2 r1 r2 q2
  · obtain ⟨h1, h2⟩ := ty.is I1 sm r1
    refine ⟨"tuple", idT, PySem.F.plainAttrs_tuple, slotT, htyT, h1, h2, ?_⟩
    have hA := ha.run cpos pins s1 σ H1 _ I1 q1
    rw [hs] at hA ⊢
    refine Calls.callWith_builtin (by show (false || (backTo cpos (starEach es X.env)).any (·.1)) = false; rw [hplain] <;> rfl) (Calls.evalArgs_plain ?_)
    exact thn hA fun us s2 ⟨vs, H2, I2, r2, q2⟩ => hmT pins s2 σ H2 (.ref a) vs v us Q I2 r1 r2 q2
/-! ### how often a list or a tuple has a thing -/
def rCntT (K : PySem.W.Frag) : V → List V → Hp → VK → Prop := fun x xs H Q =>
  ∃ (a : Addr) (y : V) (d : PyData) (ds : List PyData), x = V.ref a ∧ xs = [y] ∧ Dp K H (V.ref a) (.tuple ds) ∧ Dp K H y d ∧ PyData.plainAll ds = true ∧ d.plain = true ∧ d.depth ≤ 60 ∧ Q (.int ((ds.countP fun z => PyData.eqv z d : Nat) : Int)) H
theorem mt_cntT {X : Cx} (hu : X.A.units + 65 < cLine) : MtR X "tuple.count" (rCntT X.K) := by
  intro pins s σ H x xs v us Q I rx rxs h
  obtain ⟨a, y, d, ds, rfl, rfl, hl, hy, pa, pd, dd, q⟩ := h
  cases rx
  cases rxs with
  | cons ry rt =>
    cases rt
    obtain ⟨bs, r1⟩ := Dp.reads I d y _ hy ry
    cases hl with
    | tup hs ha =>
      obtain ⟨its, rv, hi, _⟩ := I.tuple hs
      obtain ⟨as, r2⟩ := Dp.readsAll I ds _ its ha rv
      exact PySem.SeqAt.count_tuple_data hi (by simpa using r2) r1 pa pd (by have := Nat.min_le_right (PyData.depthAll ds) d.depth; omega) ⟨.int _, H, I.kept (fun _ _ e => e), ⟨_, rfl⟩, q⟩
def dCountU (x d : PyData) : Option PyData := (seqOf x).bind fun ds => if PyData.plainAll ds && (d.plain && decide (d.depth ≤ 60)) then some (.int ((ds.countP fun z => PyData.eqv z d : Nat) : Int)) else none
section
variable {K : PySem.W.Frag}
theorem tOf_countU {fa fb : DE} (σ : L2.St) (H : Hp) (Q : VK) (h : tOf K (eOp dCountU fa fb) σ H Q) : tBMU K (rCntL K) (rCntT K) (tOf K fa) (tCons (tOf K fb) tNil) σ H Q := by
  obtain ⟨F, ow, ρ, so, d, so', r0, rs, e, k⟩ := h
  obtain ⟨⟨x, so1⟩, e1, e2⟩ := Option.bind_eq_some_iff.mp e
  obtain ⟨⟨y, so2⟩, e3, e4⟩ := Option.bind_eq_some_iff.mp e2
  obtain ⟨z, e5, e6⟩ := Option.map_eq_some_iff.mp e4
  cases e6
  replace e5 : dCountU x y = some d := e5
  obtain ⟨ds, e7, e8⟩ := Option.bind_eq_some_iff.mp e5
  obtain ⟨hc, rfl⟩ := if_some e8
  simp only [Bool.and_eq_true, decide_eq_true_eq] at hc
  obtain ⟨h1, h2, h3⟩ := hc
  refine ⟨F, ow, ρ, so, _, so1, r0, rs, e1, fun F1 H1 v r1 s1 d1 => ?_⟩
  cases x with
  | list es =>
    cases e7
    obtain ⟨a, us, rfl, ha, hus⟩ := dq_lst d1
    refine .inl ⟨.inl ⟨rfl, _, SqL.of (r1.sub _ _ ha)⟩, F1, ow, ρ, so1, y, _, r1, rs.mono s1.fz, e3, fun F2 H2 w r2 s2 d2 => ?_⟩
    exact ⟨a, w, y, _, rfl, rfl, dq_dp _ _ (by simpa [PyData.hasDict] using nods_plain _ h1) (dq_same r2.sub _ _ (dq_same s2.fz _ _ d1)), dq_dp _ _ (nod_plain _ h2) (dq_same r2.sub _ _ d2), h1, h2, h3, k F2 H2 _ r2 (s1.trans s2) (.int _)⟩
  | tuple es =>
    cases e7
    obtain ⟨a, us, rfl, ha, hus⟩ := dq_tup d1
    refine .inr ⟨⟨F1, a, us, rfl, ha, r1.sub⟩, F1, ow, ρ, so1, y, _, r1, rs.mono s1.fz, e3, fun F2 H2 w r2 s2 d2 => ?_⟩
    exact ⟨a, w, y, _, rfl, rfl, dq_dp _ _ (by simpa [PyData.hasDict] using nods_plain _ h1) (dq_same r2.sub _ _ (dq_same s2.fz _ _ d1)), dq_dp _ _ (nod_plain _ h2) (dq_same r2.sub _ _ d2), h1, h2, h3, k F2 H2 _ r2 (s1.trans s2) (.int _)⟩
  | _ => cases e7
end
theorem pd_countU {X : Cx} {o e : Expr} {fa fb : DE} {apos cpos : Pos} (hu : X.A.units + 65 < cLine) (ho : PD X o fa) (ha : PD X e fb)
    (hbase : attributeBase o "count" X.env (eval o X.env) = eval o X.env := by rfl)
    (hfew : ((backTo cpos (starEach [e] X.env)).all (fun x => !x.1) && (backToKw cpos (keywordEach [] X.env)).all (fun x => x.1.isSome)
      && decide (([e] : List Expr).length + ([] : List Keyword).length + (if ([] : List Keyword).isEmpty then 0 else 1) < 30)) = true := by rfl)
    (hline : (apos.endLine == cpos.line) = true := by rfl) (hs : starEach [e] X.env = (false, eval e X.env) :: starEach [] X.env := by rfl) (hplain : (backTo cpos (starEach [] X.env)).any (·.1) = false := by rfl) :
    PD X (.Call (.Attribute o "count" apos) [e] [] cpos) (eOp dCountU fa fb) :=
  (pe_bmU PySem.F.slot_list_count PySem.F.type_list_count (mt_cntL hu) PySem.F.slot_tuple_count PySem.F.type_tuple_count (mt_cntT hu) ho (pa_cons ha pa_nil hs) hbase hfew hline hs hplain).imp tOf_countU
end MP
namespace MP
open PySem PySem.Spec PyProof.Rows L2 RL
/-! ### the first place of an equal thing in a list or a tuple -/
end MP
namespace MP
open PySem L2 RL
/-! ### loops of the mirror, by what holds between two turns -/
theorem lc_inv {body : PyData → Sto → Option (List PyData × Sto)} {items : List PyData} {so : Sto} (P : Nat → List PyData → Sto → Prop) (h0 : P 0 [] so)
    (hs : ∀ i d acc so, items[i]? = some d → P i acc so → ∃ ys so', body d so = some (ys, so') ∧ P (i + 1) (acc ++ ys) so') : ∃ tot so', lcGo body items so = some (tot, so') ∧ P items.length tot so' := by
  have go : ∀ (r : List PyData) (i : Nat) (acc : List PyData) (so : Sto), items.drop i = r → i ≤ items.length → P i acc so → ∃ tot so', lcGo body r so = some (tot, so') ∧ P items.length (acc ++ tot) so' := by
    intro r
    induction r with
    | nil =>
      intro i acc so e hi p
      have hi : i = items.length := by
        have := congrArg List.length e
        simp at this
        omega
      subst hi
      exact ⟨[], so, rfl, by rw [List.append_nil]; exact p⟩
    | cons d r ih =>
      intro i acc so e hi p
      have hlt : i < items.length := by
        have := congrArg List.length e
        simp at this
        omega
      have hd : items[i]? = some d := by
        rw [List.drop_eq_getElem_cons hlt] at e
        rw [List.getElem?_eq_getElem hlt]
        exact congrArg some (List.cons.inj e).1
      have hr : items.drop (i + 1) = r := by
        rw [List.drop_eq_getElem_cons hlt] at e
        exact (List.cons.inj e).2
      obtain ⟨ys, so', e1, p'⟩ := hs i d acc so hd p
      obtain ⟨tot, so2, e2, p2⟩ := ih (i + 1) _ so' hr hlt p'
      refine ⟨ys ++ tot, so2, ?_, by rw [← List.append_assoc]; exact p2⟩
      simp only [lcGo, e1, e2, Option.bind_some]
  obtain ⟨tot, so', e, p⟩ := go items 0 [] so (by simp) (Nat.zero_le _) h0
  exact ⟨tot, so', e, by simpa using p⟩
/-- the items are told by things of another kind -/
theorem lc_mapE {α : Type} {body : PyData → Sto → Option (List PyData × Sto)} {xs : List α} {so : Sto} (enc : α → PyData) (f : α → PyData) (hs : ∀ x ∈ xs, body (enc x) so = some ([f x], so)) : lcGo body (xs.map enc) so = some (xs.map f, so) := by
  induction xs with
  | nil => rfl
  | cons d r ih =>
    have e1 := hs d List.mem_cons_self
    have e2 := ih fun x hx => hs x (List.mem_cons_of_mem _ hx)
    simp only [List.map_cons, lcGo, e1, e2, Option.bind_some]
    rfl
theorem pairsD_get {xs ys : List PyData} {i : Nat} {d : PyData} (h : (pairsD xs ys)[i]? = some d) : ∃ a b, xs[i]? = some a ∧ ys[i]? = some b ∧ d = .tuple [a, b] := by
  unfold pairsD at h
  rw [List.getElem?_zipWith] at h
  cases ha : xs[i]? with
  | none => rw [ha] at h; cases hb : ys[i]? <;> rw [hb] at h <;> cases h
  | some a =>
    cases hb : ys[i]? with
    | none => rw [ha, hb] at h; cases h
    | some b =>
      rw [ha, hb] at h
      cases h
      exact ⟨a, b, rfl, rfl, rfl⟩
theorem rangeD_get {lo : Int} {n i : Nat} {d : PyData} (h : (rangeD lo n)[i]? = some d) : i < n ∧ d = .int (lo + i) := by
  unfold rangeD at h
  obtain ⟨j, hj, rfl⟩ := get_map h
  have hlt : i < n := by have := (List.getElem?_eq_some_iff.mp hj).1; rwa [List.length_range] at this
  rw [List.getElem?_range hlt] at hj
  cases hj
  exact ⟨hlt, rfl⟩
theorem rangeD_nat (n : Nat) : rangeD 0 n = (List.range n).map eN := by
  unfold rangeD
  refine List.map_congr_left fun i _ => ?_
  rw [Int.zero_add]
  rfl
/-! ### it comes to something for which Q holds -/
/-- what is asked of the outcome; it stands where simp doesn't look -/
class CQ (α : Type) where
  q : α → Prop
def EvI {α : Type} (o : Option α) [c : CQ α] : Prop := ∃ a, o = some a ∧ c.q a
def Ev {α : Type} (o : Option α) (Q : α → Prop) : Prop := @EvI α o ⟨Q⟩
theorem ev_start {α : Type} {o : Option α} {Q : α → Prop} : Ev o Q = @EvI α o ⟨Q⟩ := rfl
theorem ev_some {α : Type} {a : α} {c : CQ α} : @EvI α (some a) c ↔ c.q a := ⟨fun ⟨_, e, q⟩ => by cases e; exact q, fun q => ⟨a, rfl, q⟩⟩
theorem ev_none {α : Type} {c : CQ α} : @EvI α none c ↔ False := ⟨fun ⟨_, e, _⟩ => (by cases e), False.elim⟩
theorem ev_bind {α β : Type} {o : Option α} {f : α → Option β} {c : CQ β} : @EvI β (o.bind f) c ↔ @EvI α o ⟨fun a => @EvI β (f a) c⟩ := by
  constructor
  · rintro ⟨b, e, q⟩
    obtain ⟨a, e1, e2⟩ := Option.bind_eq_some_iff.mp e
    exact ⟨a, e1, b, e2, q⟩
  · rintro ⟨a, e1, b, e2, q⟩
    exact ⟨b, by rw [e1]; exact e2, q⟩
theorem ev_map {α β : Type} {o : Option α} {f : α → β} {c : CQ β} : @EvI β (o.map f) c ↔ @EvI α o ⟨fun a => c.q (f a)⟩ := by
  constructor
  · rintro ⟨b, e, q⟩
    obtain ⟨a, e1, rfl⟩ := Option.map_eq_some_iff.mp e
    exact ⟨a, e1, q⟩
  · rintro ⟨a, e1, q⟩
    exact ⟨f a, by rw [e1]; rfl, q⟩
theorem ev_guard {α : Type} {d : Prop} [Decidable d] {x : Option α} {c : CQ α} : @EvI α (if d then x else none) c ↔ d ∧ @EvI α x c := by
  by_cases h : d
  · rw [if_pos h]; exact ⟨fun e => ⟨h, e⟩, fun e => e.2⟩
  · rw [if_neg h, ev_none]; exact ⟨False.elim, fun e => h e.1⟩
theorem ev_eOp {g : PyData → PyData → Option PyData} {a b : DE} {ρ : Slots} {so : Sto} {cq : CQ (PyData × Sto)} : @EvI _ (eOp g a b ρ so) cq ↔ @EvI _ (a ρ so) ⟨fun p => @EvI _ ((b ρ p.2).bind fun q => (g p.1 q.1).map fun d => (d, q.2)) cq⟩ := ev_bind
theorem ev_eUn {g : PyData → Option PyData} {a : DE} {ρ : Slots} {so : Sto} {cq : CQ (PyData × Sto)} : @EvI _ (eUn g a ρ so) cq ↔ @EvI _ (a ρ so) ⟨fun p => @EvI _ ((g p.1).map fun d => (d, p.2)) cq⟩ := ev_bind
theorem ev_aCons {f : DE} {g : DL} {ρ : Slots} {so : Sto} {cq : CQ (List PyData × Sto)} : @EvI _ (aCons f g ρ so) cq ↔ @EvI _ (f ρ so) ⟨fun p => @EvI _ ((g ρ p.2).bind fun q => some (p.1 :: q.1, q.2)) cq⟩ := ev_bind
theorem ev_aStar {f : DE} {g : DL} {ρ : Slots} {so : Sto} {cq : CQ (List PyData × Sto)} : @EvI _ (aStar f g ρ so) cq ↔ @EvI _ (f ρ so) ⟨fun p => @EvI _ ((seqOf p.1).bind fun xs => (g ρ p.2).bind fun q => some (xs ++ q.1, q.2)) cq⟩ := ev_bind
theorem ev_eTup {f : DL} {ρ : Slots} {so : Sto} {cq : CQ (PyData × Sto)} : @EvI _ (eTup f ρ so) cq ↔ @EvI _ (f ρ so) ⟨fun p => @EvI _ (if p.1.length ≤ LIM then some (.tuple p.1, p.2) else none) cq⟩ := ev_bind
theorem ev_nLst {f : DL} {ρ : Slots} {so : Sto} {cq : CQ (List PyData × Sto)} : @EvI _ (nLst f ρ so) cq ↔ @EvI _ (f ρ so) ⟨fun p => @EvI _ (if p.1.length ≤ LIM then some (p.1, p.2) else none) cq⟩ := ev_bind
theorem ev_eOfN {f : DL} {ρ : Slots} {so : Sto} {cq : CQ (PyData × Sto)} : @EvI _ (eOfN f ρ so) cq ↔ @EvI _ (f ρ so) ⟨fun p => cq.q ((.list p.1, p.2))⟩ := ev_map
theorem ev_iSeq {f : DE} {ρ : Slots} {so : Sto} {cq : CQ (List PyData × Sto)} : @EvI _ (iSeq f ρ so) cq ↔ @EvI _ (f ρ so) ⟨fun p => @EvI _ ((seqOf p.1).map fun ds => (ds, p.2)) cq⟩ := ev_bind
theorem ev_iRg1 {g : DL} {ρ : Slots} {so : Sto} {cq : CQ (List PyData × Sto)} : @EvI _ (iRg1 g ρ so) cq ↔ @EvI _ (g ρ so) ⟨fun p => @EvI _ (match p.1 with
  | [.int n] => if -5000 ≤ n ∧ n ≤ 5000 then some (rangeD 0 n.toNat, p.2) else none
  | _ => none) cq⟩ := ev_bind
theorem ev_iRg2 {g : DL} {ρ : Slots} {so : Sto} {cq : CQ (List PyData × Sto)} : @EvI _ (iRg2 g ρ so) cq ↔ @EvI _ (g ρ so) ⟨fun p => @EvI _ (match p.1 with
  | [.int a, .int b] => if -5000 ≤ a ∧ a ≤ 5000 ∧ -5000 ≤ b ∧ b ≤ 5000 then some (rangeD a (b - a).toNat, p.2) else none
  | _ => none) cq⟩ := ev_bind
theorem ev_bVal {f : DE} {ρ : Slots} {so : Sto} {cq : CQ (Bool × Sto)} : @EvI _ (bVal f ρ so) cq ↔ @EvI _ (f ρ so) ⟨fun p => @EvI _ (match p.1 with
  | .bool b => some (b, p.2)
  | _ => none) cq⟩ := ev_bind
theorem ev_bNot {f : DB} {ρ : Slots} {so : Sto} {cq : CQ (Bool × Sto)} : @EvI _ (bNot f ρ so) cq ↔ @EvI _ (f ρ so) ⟨fun p => cq.q ((!p.1, p.2))⟩ := ev_map
theorem ev_bAnd {f g : DB} {ρ : Slots} {so : Sto} {cq : CQ (Bool × Sto)} : @EvI _ (bAnd f g ρ so) cq ↔ @EvI _ (f ρ so) ⟨fun p => @EvI _ (if p.1 = true then g ρ p.2 else some (false, p.2)) cq⟩ := ev_bind
theorem ev_bOr {f g : DB} {ρ : Slots} {so : Sto} {cq : CQ (Bool × Sto)} : @EvI _ (bOr f g ρ so) cq ↔ @EvI _ (f ρ so) ⟨fun p => @EvI _ (if p.1 = true then some (true, p.2) else g ρ p.2) cq⟩ := ev_bind
theorem ev_eIf {c : DB} {a b : DE} {ρ : Slots} {so : Sto} {cq : CQ (PyData × Sto)} : @EvI _ (eIf c a b ρ so) cq ↔ @EvI _ (c ρ so) ⟨fun p => @EvI _ (if p.1 = true then a ρ p.2 else b ρ p.2) cq⟩ := ev_bind
theorem ev_eAnd {a b : DE} {ρ : Slots} {so : Sto} {cq : CQ (PyData × Sto)} : @EvI _ (eAnd a b ρ so) cq ↔ @EvI _ (a ρ so) ⟨fun p => @EvI _ (match p.1 with
  | .bool true => b ρ p.2
  | .bool false => some (.bool false, p.2)
  | _ => none) cq⟩ := ev_bind
theorem ev_eOr {a b : DE} {ρ : Slots} {so : Sto} {cq : CQ (PyData × Sto)} : @EvI _ (eOr a b ρ so) cq ↔ @EvI _ (a ρ so) ⟨fun p => @EvI _ (match p.1 with
  | .bool true => some (.bool true, p.2)
  | .bool false => b ρ p.2
  | _ => none) cq⟩ := ev_bind
theorem ev_eChain {g g' : PyData → PyData → Option PyData} {a b c : DE} {ρ : Slots} {so : Sto} {cq : CQ (PyData × Sto)} : @EvI _ (eChain g g' a b c ρ so) cq ↔ @EvI _ (a ρ so) ⟨fun p => @EvI _ ((b ρ p.2).bind fun q => (g p.1 q.1).bind fun d => match d with
  | .bool true => (c ρ q.2).bind fun r => (g' q.1 r.1).map fun d => (d, r.2)
  | .bool false => some (.bool false, q.2)
  | _ => none) cq⟩ := ev_bind
theorem ev_sRet {f : DE} {ρ : Slots} {so : Sto} {cq : CQ (Fl × Sto)} : @EvI _ (sRet f ρ so) cq ↔ @EvI _ (f ρ so) ⟨fun p => cq.q ((.rt p.1, p.2))⟩ := ev_map
theorem ev_sDrop {f : DE} {ρ : Slots} {so : Sto} {cq : CQ (Fl × Sto)} : @EvI _ (sDrop f ρ so) cq ↔ @EvI _ (f ρ so) ⟨fun p => cq.q ((.nx ρ, p.2))⟩ := ev_map
theorem ev_sSet {t : Tg} {f : DE} {ρ : Slots} {so : Sto} {cq : CQ (Fl × Sto)} : @EvI _ (sSet t f ρ so) cq ↔ @EvI _ (f ρ so) ⟨fun p => @EvI _ ((putT t p.1 ρ).map fun ρ1 => (.nx ρ1, p.2)) cq⟩ := ev_bind
theorem ev_sIf {c : DB} {f g : DS} {ρ : Slots} {so : Sto} {cq : CQ (Fl × Sto)} : @EvI _ (sIf c f g ρ so) cq ↔ @EvI _ (c ρ so) ⟨fun p => @EvI _ (if p.1 = true then f ρ p.2 else g ρ p.2) cq⟩ := ev_bind
theorem ev_sNew {i k : Nat} {f : DL} {ρ : Slots} {so : Sto} {cq : CQ (Fl × Sto)} : @EvI _ (sNew i k f ρ so) cq ↔ @EvI _ (f ρ so) ⟨fun p => @EvI _ (if decide (k < p.2.length) && decide (i < ρ.length) && (ρ.set i none).all (noO k) then some (.nx (ρ.set i (some (.o k))), p.2.set k (.lst p.1)) else none) cq⟩ := ev_bind
theorem ev_nLc {vs : List Nat} {t : Tg} {fi : DL} {tt : DB} {te : DE} {ρ : Slots} {so : Sto} {cq : CQ (List PyData × Sto)} : @EvI _ (nLc vs t fi tt te ρ so) cq ↔ @EvI _ (fi ρ so) ⟨fun p => @EvI _ ((lcGo (lcBody t tt te (wipeS ρ vs)) p.1 p.2).bind fun q => if q.1.length ≤ LIM then some q else none) cq⟩ := ev_bind
theorem ev_nLc2 {vs vs1 : List Nat} {t : Tg} {fi : DL} {tt : DB} {fi1 : DL} {t1 : Tg} {tt1 : DB} {te : DE} {ρ : Slots} {so : Sto} {cq : CQ (List PyData × Sto)} : @EvI _ (nLc2 vs vs1 t fi tt fi1 t1 tt1 te ρ so) cq ↔ @EvI _ (fi ρ so) ⟨fun p => @EvI _ ((lcGo (lcBody2 t tt vs1 fi1 t1 tt1 te (wipeS ρ vs)) p.1 p.2).bind fun q => if q.1.length ≤ LIM then some q else none) cq⟩ := ev_bind
theorem ev_fCall0 {G : FD} {g : DL} {ρ : Slots} {so : Sto} {cq : CQ (PyData × Sto)} : @EvI _ (fCall0 G g ρ so) cq ↔ @EvI _ (g ρ so) ⟨fun p => @EvI _ ((G (p.1.map .d) []).map fun r => (r.1, p.2)) cq⟩ := ev_bind
theorem ev_fCall1 {G : FD} {i : Nat} {g : DL} {ρ : Slots} {so : Sto} {cq : CQ (PyData × Sto)} : @EvI _ (fCall1 G i g ρ so) cq ↔ @EvI _ (g ρ so) ⟨fun p => @EvI _ (match ρ[i]? with
  | some (some (.o k)) => match p.2[k]? with
    | some (.lst ds) => (G (.o 0 :: p.1.map .d) [.lst ds]).bind fun r => match r.2 with
      | [w] => some (r.1, p.2.set k w)
      | _ => none
    | _ => none
  | _ => none) cq⟩ := ev_bind
theorem ev_fCallS {G : FD} {i : Nat} {g : DL} {ρ : Slots} {so : Sto} {cq : CQ (PyData × Sto)} : @EvI _ (fCallS G i g ρ so) cq ↔ @EvI _ (g ρ so) ⟨fun p => @EvI _ (match ρ[i]? with
  | some (some (.s ns)) => (G (.s ns :: p.1.map .d) []).map fun r => (r.1, p.2)
  | _ => none) cq⟩ := ev_bind
theorem ev_oIx {i : Nat} {b : DE} {ρ : Slots} {so : Sto} {cq : CQ (PyData × Sto)} : @EvI _ (oIx i b ρ so) cq ↔ @EvI _ (b ρ so) ⟨fun p => @EvI _ ((ownAt i ρ p.2).bind fun q => match p.1 with
  | .int j => (atI q.2 j).map fun d => (d, p.2)
  | _ => none) cq⟩ := ev_bind
theorem ev_oCall {i : Nat} {g : List PyData → Option PyData} {ρ : Slots} {so : Sto} {cq : CQ (PyData × Sto)} : @EvI _ (oCall i g ρ so) cq ↔ @EvI _ (ownAt i ρ so) ⟨fun q => @EvI _ ((g [.list q.2]).bind fun d => (scV d).map fun _ => (d, so)) cq⟩ := ev_bind
theorem ev_oTuple {i : Nat} {ρ : Slots} {so : Sto} {cq : CQ (PyData × Sto)} : @EvI _ (oTuple i ρ so) cq ↔ @EvI _ (ownAt i ρ so) ⟨fun q => cq.q ((.tuple q.2, so))⟩ := ev_map
theorem ev_oAppend {i : Nat} {f : DE} {ρ : Slots} {so : Sto} {cq : CQ (PyData × Sto)} : @EvI _ (oAppend i f ρ so) cq ↔ @EvI _ (ownAt i ρ so) ⟨fun _ => @EvI _ ((f ρ so).bind fun p => (ownAt i ρ p.2).bind fun q => if q.2.length < LIM then some (.none, p.2.set q.1 (.lst (q.2 ++ [p.1]))) else none) cq⟩ := ev_bind
theorem ev_oExtend {i : Nat} {f : DL} {ρ : Slots} {so : Sto} {cq : CQ (PyData × Sto)} : @EvI _ (oExtend i f ρ so) cq ↔ @EvI _ (ownAt i ρ so) ⟨fun _ => @EvI _ ((f ρ so).bind fun p => (ownAt i ρ p.2).bind fun q => if q.2.length + p.1.length ≤ LIM then some (.none, p.2.set q.1 (.lst (q.2 ++ p.1))) else none) cq⟩ := ev_bind
theorem ev_oPop {i : Nat} {f : DE} {ρ : Slots} {so : Sto} {cq : CQ (PyData × Sto)} : @EvI _ (oPop i f ρ so) cq ↔ @EvI _ (ownAt i ρ so) ⟨fun _ => @EvI _ ((f ρ so).bind fun p => (ownAt i ρ p.2).bind fun q => match p.1 with
  | .int j => (ixN q.2.length j).bind fun m => (q.2[m]?).bind fun d => if -5000 ≤ j ∧ j ≤ 5000 then some (d, p.2.set q.1 (.lst (q.2.eraseIdx m))) else none
  | _ => none) cq⟩ := ev_bind
theorem ev_sOwn {i : Nat} {b f : DE} {ρ : Slots} {so : Sto} {cq : CQ (Fl × Sto)} : @EvI _ (sOwn i b f ρ so) cq ↔ @EvI _ (f ρ so) ⟨fun p => @EvI _ ((b ρ p.2).bind fun r => (ownAt i ρ r.2).bind fun q => match r.1 with
  | .int j => (ixN q.2.length j).map fun m => (.nx ρ, r.2.set q.1 (.lst (q.2.set m p.1)))
  | _ => none) cq⟩ := ev_bind
theorem ev_oEq {neg : Bool} {i : Nat} {f : DE} {ρ : Slots} {so : Sto} {cq : CQ (PyData × Sto)} : @EvI _ (oEq neg i f ρ so) cq ↔ @EvI _ (f ρ so) ⟨fun p => @EvI _ ((ownAt i ρ p.2).bind fun q => (if neg then dNe (.list q.2) p.1 else dEq (.list q.2) p.1).map fun d => (d, p.2)) cq⟩ := ev_bind
theorem ev_eCall {g : List PyData → Option PyData} {a : DL} {ρ : Slots} {so : Sto} {cq : CQ (PyData × Sto)} : @EvI _ (eCall g a ρ so) cq ↔ @EvI _ (a ρ so) ⟨fun p => @EvI _ ((g p.1).map fun d => (d, p.2)) cq⟩ := ev_bind
theorem ev_nList {f : DE} {ρ : Slots} {so : Sto} {cq : CQ (List PyData × Sto)} : @EvI _ (nList f ρ so) cq ↔ @EvI _ (f ρ so) ⟨fun p => @EvI _ ((seqOf p.1).map fun ds => (ds, p.2)) cq⟩ := ev_bind
theorem ev_nRange {f : DE} {ρ : Slots} {so : Sto} {cq : CQ (List PyData × Sto)} : @EvI _ (nRange f ρ so) cq ↔ @EvI _ (f ρ so) ⟨fun p => @EvI _ (match p.1 with
  | .int n => if 0 ≤ n ∧ n ≤ 5000 then some (rangeD 0 n.toNat, p.2) else none
  | _ => none) cq⟩ := ev_bind
theorem ev_eIsi {T : String} {f : DE} {ρ : Slots} {so : Sto} {cq : CQ (PyData × Sto)} : @EvI _ (eIsi T f ρ so) cq ↔ @EvI _ (f ρ so) ⟨fun p => @EvI _ ((isA T p.1).map fun b => (.bool b, p.2)) cq⟩ := ev_bind
theorem ev_oSome {f : DE} {ρ : Slots} {so : Sto} {cq : CQ (Option Int × Sto)} : @EvI _ (oSome f ρ so) cq ↔ @EvI _ (f ρ so) ⟨fun p => @EvI _ (match p.1 with
  | .int i => some (some i, p.2)
  | _ => none) cq⟩ := ev_bind
theorem ev_eSl {f : DE} {lo hi : DO} {ρ : Slots} {so : Sto} {cq : CQ (PyData × Sto)} : @EvI _ (eSl f lo hi ρ so) cq ↔ @EvI _ (f ρ so) ⟨fun p => @EvI _ ((lo ρ p.2).bind fun q => (hi ρ q.2).bind fun r => (dSl p.1 q.1 r.1).map fun d => (d, r.2)) cq⟩ := ev_bind
theorem ev_scIx {i : Nat} {b : DE} {ρ : Slots} {so : Sto} {cq : CQ (PyData × Sto)} : @EvI _ (scIx i b ρ so) cq ↔ @EvI _ (b ρ so) ⟨fun p => @EvI _ (match ρ[i]? with
  | some (some (.s ns)) => match p.1 with
    | .int j => (atI ns j).map fun n => (.int n, p.2)
    | _ => none
  | _ => none) cq⟩ := ev_bind
theorem ev_sParDD {i j : Nat} {f g : DE} {ρ : Slots} {so : Sto} {cq : CQ (Fl × Sto)} : @EvI _ (sParDD i j f g ρ so) cq ↔ @EvI _ (f ρ so) ⟨fun p => @EvI _ ((g ρ p.2).map fun q => (.nx ((ρ.set i (some (.d p.1))).set j (some (.d q.1))), q.2)) cq⟩ := ev_bind
theorem ev_sParDN {i j k : Nat} {f : DE} {g : DL} {ρ : Slots} {so : Sto} {cq : CQ (Fl × Sto)} : @EvI _ (sParDN i j k f g ρ so) cq ↔ @EvI _ (f ρ so) ⟨fun p => @EvI _ ((g ρ p.2).bind fun q => (putN j k q.1 (ρ.set i (some (.d p.1))) q.2).map fun r => (.nx r.1, r.2)) cq⟩ := ev_bind
theorem ev_sParNN {i k j l : Nat} {f g : DL} {ρ : Slots} {so : Sto} {cq : CQ (Fl × Sto)} : @EvI _ (sParNN i k j l f g ρ so) cq ↔ @EvI _ (f ρ so) ⟨fun p => @EvI _ ((g ρ p.2).bind fun q => (putN i k p.1 ρ q.2).bind fun r => (putN j l q.1 r.1 r.2).map fun t => (.nx t.1, t.2)) cq⟩ := ev_bind
theorem ev_iZip2 {g : DL} {ρ : Slots} {so : Sto} {cq : CQ (List PyData × Sto)} : @EvI _ (iZip2 g ρ so) cq ↔ @EvI _ (g ρ so) ⟨fun p => @EvI _ (match p.1 with
  | [a, b] => (seqOf a).bind fun xs => (seqOf b).bind fun ys => if xs.length = ys.length then some (pairsD xs ys, p.2) else none
  | _ => none) cq⟩ := ev_bind
theorem ev_fCallZ {G : FD} {ρ : Slots} {so : Sto} {cq : CQ (PyData × Sto)} : @EvI _ (fCallZ G ρ so) cq ↔ @EvI _ (G [] []) ⟨fun r => cq.q ((r.1, so))⟩ := ev_map
theorem ev_iZip3 {g : DL} {ρ : Slots} {so : Sto} {cq : CQ (List PyData × Sto)} : @EvI _ (iZip3 g ρ so) cq ↔ @EvI _ (g ρ so) ⟨fun p => @EvI _ (match p.1 with
  | [.tuple xs, .tuple ys, .tuple zs] => if ys.length = xs.length ∧ zs.length = xs.length then some (zip3D xs ys zs, p.2) else none
  | _ => none) cq⟩ := ev_bind
theorem ev_iZip4 {g : DL} {ρ : Slots} {so : Sto} {cq : CQ (List PyData × Sto)} : @EvI _ (iZip4 g ρ so) cq ↔ @EvI _ (g ρ so) ⟨fun p => @EvI _ (match p.1 with
  | [.tuple xs, .tuple ys, .tuple zs, .tuple ws] => if ys.length = xs.length ∧ zs.length = xs.length ∧ ws.length = xs.length then some (zip4D xs ys zs ws, p.2) else none
  | _ => none) cq⟩ := ev_bind
theorem ev_iEnm {f : DE} {ρ : Slots} {so : Sto} {cq : CQ (List PyData × Sto)} : @EvI _ (iEnm f ρ so) cq ↔ @EvI _ (f ρ so) ⟨fun p => @EvI _ (match p.1 with
  | .list xs => some (enumD xs, p.2)
  | _ => none) cq⟩ := ev_bind
theorem ev_nAdd {f g : DE} {ρ : Slots} {so : Sto} {cq : CQ (List PyData × Sto)} : @EvI _ (nAdd f g ρ so) cq ↔ @EvI _ (f ρ so) ⟨fun p => @EvI _ ((g ρ p.2).bind fun q => match p.1, q.1 with
  | .list xs, .list ys => if xs.length + ys.length ≤ LIM then some (xs ++ ys, q.2) else none
  | _, _ => none) cq⟩ := ev_bind
theorem ev_eMinD {f g : DE} {ρ : Slots} {so : Sto} {cq : CQ (PyData × Sto)} : @EvI _ (eMinD f g ρ so) cq ↔ @EvI _ (f ρ so) ⟨fun p => @EvI _ ((g ρ p.2).bind fun q => (gMinD p.1 q.1).map fun d => (d, q.2)) cq⟩ := ev_bind
theorem ev_nSS {f : DE} {ρ : Slots} {so : Sto} {cq : CQ (List PyData × Sto)} : @EvI _ (nSS f ρ so) cq ↔ @EvI _ (f ρ so) ⟨fun p => @EvI _ (match p.1 with
  | .list ds => (keysOf ds).bind fun ks => if keysOk ks = true then some ((sortK ks).map tupI, p.2) else none
  | _ => none) cq⟩ := ev_bind
theorem ev_nCall {G : List Sl → Option (List PyData)} {g : DL} {ρ : Slots} {so : Sto} {cq : CQ (List PyData × Sto)} : @EvI _ (nCall G g ρ so) cq ↔ @EvI _ (g ρ so) ⟨fun p => @EvI _ ((G (p.1.map .d)).map fun ds => (ds, p.2)) cq⟩ := ev_bind
theorem Ev.mono {α : Type} {o : Option α} {Q R : α → Prop} (h : Ev o Q) (k : ∀ a, Q a → R a) : Ev o R := by
  obtain ⟨a, e, q⟩ := h
  exact ⟨a, e, k a q⟩
/-- what a turn's end makes of the loop -/
def turnQ (P : Slots → Sto → Prop) (Q : Fl × Sto → Prop) : Fl × Sto → Prop
  | (.nx ρ, so) => P ρ so
  | (.ct ρ, so) => P ρ so
  | (.bk ρ, so) => Q (.nx ρ, so)
  | (.rt d, so) => Q (.rt d, so)
  | (.ex n, so) => Q (.ex n, so)
theorem turn_nx {P : Slots → Sto → Prop} {Q : Fl × Sto → Prop} {ρ : Slots} {so : Sto} : turnQ P Q (.nx ρ, so) = P ρ so := rfl
theorem turn_ct {P : Slots → Sto → Prop} {Q : Fl × Sto → Prop} {ρ : Slots} {so : Sto} : turnQ P Q (.ct ρ, so) = P ρ so := rfl
theorem turn_bk {P : Slots → Sto → Prop} {Q : Fl × Sto → Prop} {ρ : Slots} {so : Sto} : turnQ P Q (.bk ρ, so) = Q (.nx ρ, so) := rfl
theorem turn_rt {P : Slots → Sto → Prop} {Q : Fl × Sto → Prop} {d : PyData} {so : Sto} : turnQ P Q (.rt d, so) = Q (.rt d, so) := rfl
theorem ev_for {t : Tg} {body : DS} {items : List PyData} {ρ : Slots} {so : Sto} {Q : Fl × Sto → Prop} (P : Nat → Slots → Sto → Prop) (h0 : P 0 ρ so)
    (hs : ∀ i d ρ so, items[i]? = some d → P i ρ so → Ev (putT t d ρ) fun ρ1 => Ev (body ρ1 so) (turnQ (P (i + 1)) Q)) (hq : ∀ ρ so, P items.length ρ so → Q (.nx ρ, so)) : Ev (forGo t body items ρ so) Q := by
  have go : ∀ (r : List PyData) (i : Nat) (ρ : Slots) (so : Sto), items.drop i = r → i ≤ items.length → P i ρ so → Ev (forGo t body r ρ so) Q := by
    intro r
    induction r with
    | nil =>
      intro i ρ so e hi p
      have hi : i = items.length := by
        have := congrArg List.length e
        simp at this
        omega
      subst hi
      exact ⟨_, rfl, hq _ _ p⟩
    | cons d r ih =>
      intro i ρ so e hi p
      have hlt : i < items.length := by
        have := congrArg List.length e
        simp at this
        omega
      have hd : items[i]? = some d := by
        rw [List.drop_eq_getElem_cons hlt] at e
        rw [List.getElem?_eq_getElem hlt]
        exact congrArg some (List.cons.inj e).1
      have hr : items.drop (i + 1) = r := by
        rw [List.drop_eq_getElem_cons hlt] at e
        exact (List.cons.inj e).2
      obtain ⟨ρ1, e1, ⟨fl, so1⟩, e2, p2⟩ := hs i d ρ so hd p
      have e3 : forGo t body (d :: r) ρ so = (match fl with
        | .nx ρ2 => forGo t body r ρ2 so1
        | .ct ρ2 => forGo t body r ρ2 so1
        | .bk ρ2 => some (.nx ρ2, so1)
        | .rt d => some (.rt d, so1)
        | .ex n => some (.ex n, so1)) := by
        simp only [forGo, e1, e2, Option.bind_some]
        cases fl <;> rfl
      rw [e3]
      cases fl with
      | nx ρ2 => exact ih (i + 1) ρ2 so1 hr hlt p2
      | ct ρ2 => exact ih (i + 1) ρ2 so1 hr hlt p2
      | bk ρ2 => exact ⟨_, rfl, p2⟩
      | rt d => exact ⟨_, rfl, p2⟩
      | ex n => exact ⟨_, rfl, p2⟩
  exact go items 0 ρ so (by simp) (Nat.zero_le _) h0
/-- over the first numbers -/
theorem ev_forN {t : Tg} {body : DS} {n : Nat} {ρ : Slots} {so : Sto} {Q : Fl × Sto → Prop} (P : Nat → Slots → Sto → Prop) (h0 : P 0 ρ so)
    (hs : ∀ i ρ so, i < n → P i ρ so → Ev (putT t (.int i) ρ) fun ρ1 => Ev (body ρ1 so) (turnQ (P (i + 1)) Q)) (hq : ∀ ρ so, P n ρ so → Q (.nx ρ, so)) : Ev (forGo t body (rangeD 0 n) ρ so) Q := by
  refine ev_for P h0 (fun i d ρ so hd p => ?_) (fun ρ so p => ?_)
  · obtain ⟨hi, rfl⟩ := rangeD_get hd
    rw [Int.zero_add]
    exact hs i ρ so hi p
  · have e : (rangeD 0 n).length = n := by simp [rangeD]
    rw [e] at p
    exact hq ρ so p
theorem ev_lc {body : PyData → Sto → Option (List PyData × Sto)} {items : List PyData} {so : Sto} {Q : List PyData × Sto → Prop} (P : Nat → List PyData → Sto → Prop) (h0 : P 0 [] so)
    (hs : ∀ i d acc so, items[i]? = some d → P i acc so → Ev (body d so) fun r => P (i + 1) (acc ++ r.1) r.2) (hq : ∀ acc so, P items.length acc so → Q (acc, so)) : Ev (lcGo body items so) Q := by
  obtain ⟨tot, so', e, p⟩ := lc_inv P h0 fun i d acc so hd p => by
    obtain ⟨⟨ys, so'⟩, e, q⟩ := hs i d acc so hd p
    exact ⟨ys, so', e, q⟩
  exact ⟨_, e, hq _ _ p⟩
theorem ev_of {α : Type} {o : Option α} {a : α} {Q : α → Prop} (e : o = some a) (q : Q a) : Ev o Q := ⟨a, e, q⟩
/-- what follows a statement -/
def seqQ (g : DS) (Q : Fl × Sto → Prop) : Fl × Sto → Prop
  | (.nx ρ, so) => Ev (g ρ so) Q
  | (.ct ρ, so) => Q (.ct ρ, so)
  | (.bk ρ, so) => Q (.bk ρ, so)
  | (.rt d, so) => Q (.rt d, so)
  | (.ex n, so) => Q (.ex n, so)
theorem seq_nx {g : DS} {Q : Fl × Sto → Prop} {ρ : Slots} {so : Sto} : seqQ g Q (.nx ρ, so) = Ev (g ρ so) Q := rfl
theorem seq_ct {g : DS} {Q : Fl × Sto → Prop} {ρ : Slots} {so : Sto} : seqQ g Q (.ct ρ, so) = Q (.ct ρ, so) := rfl
theorem seq_bk {g : DS} {Q : Fl × Sto → Prop} {ρ : Slots} {so : Sto} : seqQ g Q (.bk ρ, so) = Q (.bk ρ, so) := rfl
theorem seq_rt {g : DS} {Q : Fl × Sto → Prop} {d : PyData} {so : Sto} : seqQ g Q (.rt d, so) = Q (.rt d, so) := rfl
theorem ev_seq {f g : DS} {ρ : Slots} {so : Sto} {c : CQ (Fl × Sto)} : @EvI _ (sSeq f g ρ so) c ↔ @EvI _ (f ρ so) ⟨seqQ g c.q⟩ := by
  unfold sSeq
  rw [ev_bind]
  constructor
  · rintro ⟨⟨fl, so1⟩, e, q⟩
    refine ⟨_, e, ?_⟩
    cases fl with
    | nx ρ1 => exact q
    | ct ρ1 => exact (ev_some (c := c)).mp q
    | bk ρ1 => exact (ev_some (c := c)).mp q
    | rt d => exact (ev_some (c := c)).mp q
    | ex n => exact (ev_some (c := c)).mp q
  · rintro ⟨⟨fl, so1⟩, e, q⟩
    refine ⟨_, e, ?_⟩
    cases fl with
    | nx ρ1 => exact q
    | ct ρ1 => exact (ev_some (c := c)).mpr q
    | bk ρ1 => exact (ev_some (c := c)).mpr q
    | rt d => exact (ev_some (c := c)).mpr q
    | ex n => exact (ev_some (c := c)).mpr q
def forQ (t : Tg) (body : DS) (ρ : Slots) (Q : Fl × Sto → Prop) (p : List PyData × Sto) : Prop := Ev (forGo t body p.1 ρ p.2) Q
theorem for_q {t : Tg} {body : DS} {ρ : Slots} {Q : Fl × Sto → Prop} {ds : List PyData} {so : Sto} : forQ t body ρ Q (ds, so) = Ev (forGo t body ds ρ so) Q := rfl
theorem ev_sFor {t : Tg} {fi : DL} {body : DS} {ρ : Slots} {so : Sto} {c : CQ (Fl × Sto)} : @EvI _ (sFor t fi body ρ so) c ↔ @EvI _ (fi ρ so) ⟨forQ t body ρ c.q⟩ := by
  unfold sFor
  rw [ev_bind]
  rfl
/-- what a def hands back -/
def retQ (p : Nat) (Q : PyData × Sto → Prop) : Fl × Sto → Prop
  | (.rt d, so) => Q (d, so.take p)
  | (.nx _, so) => Q (.none, so.take p)
  | _ => False
theorem ret_rt {p : Nat} {Q : PyData × Sto → Prop} {d : PyData} {so : Sto} : retQ p Q (.rt d, so) = Q (d, so.take p) := rfl
theorem ret_nx {p : Nat} {Q : PyData × Sto → Prop} {ρ : Slots} {so : Sto} : retQ p Q (.nx ρ, so) = Q (.none, so.take p) := rfl
theorem ev_fDef {n m p q : Nat} {f : DS} {as : List Sl} {so : Sto} {c : CQ (PyData × Sto)} : @EvI _ (fDef n m p q f as so) c ↔ (as.length = n ∧ so.length = p) ∧ @EvI _ (f (as.map some ++ List.replicate (m - n) none) (so ++ List.replicate q .no)) ⟨retQ p c.q⟩ := by
  unfold fDef
  by_cases h : as.length = n ∧ so.length = p
  · rw [if_pos h, ev_bind]
    constructor
    · rintro ⟨⟨fl, so1⟩, e, q⟩
      refine ⟨h, _, e, ?_⟩
      cases fl with
      | nx ρ1 => exact (ev_some (c := c)).mp q
      | rt d => exact (ev_some (c := c)).mp q
      | bk ρ1 => exact ((ev_none (c := c)).mp q).elim
      | ct ρ1 => exact ((ev_none (c := c)).mp q).elim
      | ex n => exact ((ev_none (c := c)).mp q).elim
    · rintro ⟨_, ⟨fl, so1⟩, e, q⟩
      refine ⟨_, e, ?_⟩
      cases fl with
      | nx ρ1 => exact (ev_some (c := c)).mpr q
      | rt d => exact (ev_some (c := c)).mpr q
      | _ => exact q.elim
  · rw [if_neg h, ev_none]
    exact ⟨False.elim, fun q => h q.1⟩
theorem ev_fDefN {n m : Nat} {f : DL} {as : List Sl} {c : CQ (List PyData)} : @EvI _ (fDefN n m f as) c ↔ as.length = n ∧ @EvI _ (f (as.map some ++ List.replicate (m - n) none) []) ⟨fun r => c.q r.1⟩ := by
  unfold fDefN
  by_cases h : as.length = n
  · rw [if_pos h, ev_map]
    exact ⟨fun e => ⟨h, e⟩, fun e => e.2⟩
  · rw [if_neg h, ev_none]
    exact ⟨False.elim, fun q => h q.1⟩
/-! ### what the operations make, told once -/
theorem dAdd_int (a b : Int) : dAdd (.int a) (.int b) = some (.int (a + b)) := rfl
theorem dAdd_tup {xs ys : List PyData} (h : xs.length + ys.length ≤ 5000) : dAdd (.tuple xs) (.tuple ys) = some (.tuple (xs ++ ys)) := if_pos h
theorem dAdd_lst {xs ys : List PyData} (h : xs.length + ys.length ≤ 5000) : dAdd (.list xs) (.list ys) = some (.list (xs ++ ys)) := if_pos h
theorem dSub_int (a b : Int) : dSub (.int a) (.int b) = some (.int (a - b)) := rfl
theorem dMul_int {a b : Int} (h : a.natAbs < 18446744073709551616 ∨ b.natAbs < 18446744073709551616) : dMul (.int a) (.int b) = some (.int (a * b)) := if_pos h
theorem dMul_tup {z : PyData} {k : Int} (h : 1 ≤ k ∧ k ≤ 1000) : dMul (.tuple [z]) (.int k) = some (.tuple (List.replicate k.toNat z)) := if_pos h
theorem dMod_int {a b : Int} (h : 0 < b) : dMod (.int a) (.int b) = some (.int (a % b)) := by unfold dMod dIc; simp [h]
theorem dDiv_int {a b : Int} (h : 0 < b) (h1 : b < 1073741824) : dDiv (.int a) (.int b) = some (.int (a / b)) := by unfold dDiv dIc; simp [h, h1]
theorem dPow_int {a b : Int} (h : 0 ≤ b) (h1 : b ≤ 1000000) (h2 : a.natAbs < 18446744073709551616) : dPow (.int a) (.int b) = some (.int (a ^ b.toNat)) := by unfold dPow dIc; simp [h, h1, h2]
theorem dShl_int {a b : Int} (h : 0 ≤ b) (h1 : b ≤ 1000000) (h2 : a.natAbs < 18446744073709551616) : dShl (.int a) (.int b) = some (.int (a * 2 ^ b.toNat)) := by unfold dShl dIc; simp [h, h1, h2]
theorem dBor_int (a b : Int) : dBor (.int a) (.int b) = some (.int (Builtin.bitOr a b)) := rfl
theorem dLt_int (a b : Int) : dLt (.int a) (.int b) = some (.bool (decide (a < b))) := rfl
theorem dLe_int (a b : Int) : dLe (.int a) (.int b) = some (.bool (decide (a ≤ b))) := rfl
theorem dGt_int (a b : Int) : dGt (.int a) (.int b) = some (.bool (decide (b < a))) := rfl
theorem dGe_int (a b : Int) : dGe (.int a) (.int b) = some (.bool (decide (b ≤ a))) := rfl
theorem int_beq (a b : Int) : (a == b) = decide (a = b) := by
  by_cases h : a = b
  · subst h; simp
  · simp [h]
theorem dEq_int (a b : Int) : dEq (.int a) (.int b) = some (.bool (decide (a = b))) := by rw [← int_beq]; rfl
theorem dNe_int (a b : Int) : dNe (.int a) (.int b) = some (.bool (!decide (a = b))) := by rw [← int_beq]; rfl
theorem dNot_bool (b : Bool) : dNot (.bool b) = some (.bool (!b)) := rfl
theorem dNeg_int (a : Int) : dNeg (.int a) = some (.int (-a)) := rfl
theorem dBits_int (a : Int) : dBits (.int a) = some (.int (Builtin.Int.intBits a : Nat)) := rfl
theorem dIx_lst (xs : List PyData) (i : Int) : dIx (.list xs) (.int i) = atI xs i := rfl
theorem dIx_tup (xs : List PyData) (i : Int) : dIx (.tuple xs) (.int i) = atI xs i := rfl
theorem gLen_lst (xs : List PyData) : gLen [.list xs] = some (.int xs.length) := rfl
theorem gLen_tup (xs : List PyData) : gLen [.tuple xs] = some (.int xs.length) := rfl
theorem gTuple_lst (xs : List PyData) : gTuple [.list xs] = some (.tuple xs) := rfl
theorem gTuple_tup (xs : List PyData) : gTuple [.tuple xs] = some (.tuple xs) := rfl
theorem gMax_two (a b : Int) : gMax [.int a, .int b] = some (.int (if b > a then b else a)) := rfl
theorem gMin_two (a b : Int) : gMin [.int a, .int b] = some (.int (if b < a then b else a)) := rfl
theorem gInt_int (a : Int) : gInt [.int a] = some (.int a) := rfl
theorem gInt_bool (b : Bool) : gInt [.bool b] = some (.int (if b then 1 else 0)) := rfl
theorem seqOf_lst (xs : List PyData) : seqOf (.list xs) = some xs := rfl
theorem seqOf_tup (xs : List PyData) : seqOf (.tuple xs) = some xs := rfl
theorem dIs_none (d : PyData) : dIs d .none = some (.bool (same1 d .none)) := rfl
theorem dIs_bool (d : PyData) (b : Bool) : dIs d (.bool b) = some (.bool (same1 d (.bool b))) := rfl
theorem dIsNot_none (d : PyData) : dIsNot d .none = some (.bool (!same1 d .none)) := rfl
theorem dIsNot_bool (d : PyData) (b : Bool) : dIsNot d (.bool b) = some (.bool (!same1 d (.bool b))) := rfl
theorem same1_int (a : Int) (d : PyData) : same1 (.int a) d = false := by cases d <;> rfl
theorem scV_int (a : Int) : scV (.int a) = some (.int a) := rfl
theorem scV_bool (a : Bool) : scV (.bool a) = some (.bl a) := rfl
theorem isA_int (d : PyData) : isA "int" d = some d.isInt := rfl
theorem isA_tup (d : PyData) : isA "tuple" d = some d.isTuple := rfl
theorem isA_str (d : PyData) : isA "str" d = some d.isStr := rfl
theorem isA_lst (d : PyData) : isA "list" d = some d.isList := rfl
theorem atI_0 {α : Type} {x : α} {r : List α} : atI (x :: r) 0 = some x := by unfold atI ixN; simp
theorem atI_1 {α : Type} {x y : α} {r : List α} : atI (x :: y :: r) 1 = some y := by
  have h : (1 : Int) < (r.length : Int) + 1 + 1 := by omega
  unfold atI ixN
  simp [h]
theorem atI_2 {α : Type} {x y z : α} {r : List α} : atI (x :: y :: z :: r) 2 = some z := by
  have h : (2 : Int) < (r.length : Int) + 1 + 1 + 1 := by omega
  unfold atI ixN
  simp [h]
theorem noO_d (k : Nat) (d : PyData) : noO k (some (.d d)) = true := rfl
theorem noO_s (k : Nat) (ns : List Int) : noO k (some (.s ns)) = true := rfl
theorem noO_o (k j : Nat) : noO k (some (.o j)) = (j != k) := rfl
theorem noO_n (k : Nat) : noO k none = true := rfl
end MP
namespace MP
open PySem PySem.Spec PyProof.Rows L2 RL
/-! ### a list times a number, as a new list -/
end MP
namespace RL
open PySem PySem.Spec PyProof.Rows L2
/-! ### set(a tuple of tuples of ints) -/
end RL
namespace MP
open PySem PySem.Spec PyProof.Rows L2 RL
/-! ### len(set(t)), t a tuple of tuples of small numbers -/
end MP
namespace MP
open PySem PySem.Spec PyProof.Rows L2 RL
/-! ### texts: methods with one text more, with none -/
def dTxt2 (g : Str → Str → Option PyData) : PyData → PyData → Option PyData
  | .str a, .str b => g a b
  | _, _ => none
def dTxt1 (g : Str → Option PyData) : PyData → Option PyData
  | .str a => g a
  | _ => none
def dStarts : PyData → PyData → Option PyData := dTxt2 fun a b => some (.bool (Txt.startswith a b))
def dIsdigit : PyData → Option PyData := dTxt1 fun a => some (.bool (Txt.isdigit a))
def dIsascii : PyData → Option PyData := dTxt1 fun a => some (.bool (Txt.isascii a))
/-! #### split: a new list -/
def LIMS : Nat := 100000
def nSplit (f g : DE) : DL := fun ρ so => (f ρ so).bind fun p => (g ρ p.2).bind fun q => match p.1, q.1 with
  | .str a, .str b => if (b.length == 0) = false ∧ a.length ≤ LIMS then some ((Txt.split a b).map .str, q.2) else none
  | _, _ => none
/-! #### join -/
/-! #### str(number), int(text) -/
def gStrI : List PyData → Option PyData
  | [.int i] => if i.natAbs.log2 < 1920 then some (.str (toString i)) else none
  | _ => none
theorem cd_strI {K : PySem.W.Frag} : CallD K (fun xs H Q => ∃ i : Int, xs = [.int i] ∧ i.natAbs.log2 < 1920 ∧ Q (.str (toString i)) H) gStrI := by
  intro F H vs ds d Q s hv e k
  unfold gStrI at e
  split at e
  · obtain ⟨hl, rfl⟩ := if_some e
    obtain ⟨v, rfl, h⟩ := hv.one
    cases h
    exact ⟨_, rfl, hl, here k s (.str _)⟩
  · cases e
/-! #### parts, signs -/
def dSlS (d : PyData) (lo hi : Option Int) : Option PyData := match d with
  | .str z => if z.length ≤ LIMS then some (.str (cutS z lo hi)) else none
  | _ => none
def eSlS (f : DE) (lo hi : DO) : DE := fun ρ so => (f ρ so).bind fun p => (lo ρ p.2).bind fun q => (hi ρ q.2).bind fun r => (dSlS p.1 q.1 r.1).map fun d => (d, r.2)
def signsOf (z : Str) : List PyData := z.cps.toList.map fun c => .str ⟨#[c]⟩
end MP
namespace RL
open PySem PySem.Spec PyProof.Rows L2
/-! ### first, *others = a list -/
end RL
namespace MP
open PySem PySem.Spec PyProof.Rows L2 RL
/-! ### s[i], for c in s -/
def iSgn (f : DE) : DL := fun ρ so => (f ρ so).bind fun p => match p.1 with
  | .str z => some (signsOf z, p.2)
  | _ => none
/-! ### first, *others = a list -/
def sHeadL (i j : Nat) (f : DE) : DS := fun ρ so => (f ρ so).bind fun p => match p.1 with
  | .list (x :: r) => if r.length ≤ LIM then some (.nx ((ρ.set i (some (.d x))).set j (some (.d (.list r)))), p.2) else none
  | _ => none
/-! ### abs -/
def gAbs : List PyData → Option PyData
  | [.int i] => some (.int (if i < 0 then -i else i))
  | _ => none
end MP
namespace MP
open PySem PySem.Spec PyProof.Rows L2 RL
/-! ### raising inside of expressions: the first thing that is asked raises -/
abbrev DX' := Slots → Sto → Option (Str × Sto)
def tEx (K : PySem.W.Frag) (mg : Str → Option Value) (E : XK) (h : DX') : TE := fun σ H _ => ∃ F ow ρ so n so', RelO K F H ow so ∧ RelS K F ow σ ρ ∧ h ρ so = some (n, so') ∧
  ∀ F' H', RelO K F' H' ow so' → Stp ow F H F' H' → WEx mg E n H'
/-- what a def that raises tells where it raises nothing -/
def okF (G : FX) : FD := fun as so => (G as so).bind fun r => match r.1 with
  | .ok d => some (d, r.2)
  | .ex _ => none
def sOrX (h : DX') (f : DS) : DS := fun ρ so => match h ρ so with
  | some r => some (.ex r.1, r.2)
  | none => f ρ so
/-! ### try: return f(..) except X: suite -/
/-- X takes what the class n makes -/
def Catch1 (K : PySem.W.Frag) (mg : Str → Option Value) (x n : Str) : Prop := ∃ C C2 : Addr, mg n = some (.ref C) ∧ mg x = some (.ref C2) ∧ PySem.W.exmOne K (.ref C) (.ref C2) = some true
inductive Catches (K : PySem.W.Frag) (mg : Str → Option Value) (x : Str) : List Str → Prop where
  | nil : Catches K mg x []
  | cons {n : Str} {ns : List Str} : Catch1 K mg x n → Catches K mg x ns → Catches K mg x (n :: ns)
theorem Catch1.has {K : PySem.W.Frag} {mg : Str → Option Value} {x n : Str} (h : Catch1 K mg x n) : ∃ C : Addr, mg x = some (.ref C) := by
  obtain ⟨_, C2, _, h, _⟩ := h
  exact ⟨C2, h⟩
theorem Catches.mem {K : PySem.W.Frag} {mg : Str → Option Value} {x : Str} : ∀ {ns : List Str}, Catches K mg x ns → ∀ n, n ∈ ns → Catch1 K mg x n
  | _, .nil, n, h => nomatch h
  | _, .cons h1 h2, n, h => by
    rcases List.mem_cons.mp h with e | h
    · rw [e]; exact h1
    · exact h2.mem n h
def sTryR (ns : List Str) (G : FX) (g : DL) (f : DS) : DS := fun ρ so => (callX G g ρ so).bind fun r => match r.1 with
  | .ok d => some (.rt d, r.2)
  | .ex n => if n ∈ ns then f ρ r.2 else none
/-! ### a def that calls itself: a promise for each depth; of depth 0 nothing is promised -/
theorem mk_cal0 {P : Program} {w : World} {K : PySem.W.Frag} {mg : Str → Option Value} {base : Heap} {x : Str} {st : Stmt} {N ps : List Str} {k n : Nat} (D : Df K mg x st) (S : FnScope N ps (defScope st)) (hn : ps.length = n)
    (hb : ∀ (kV doc pm : Value) (an : Option Addr) (cdv ct : Value) (us : List Value), us.length = ps.length → bindArgs (PySem.W.fnOf x x (defArgs st) (defBody st) (defScope st) .none kV doc pm an cdv ct) ⟨us, []⟩ = pure (ps.zip us)) :
    C8.Cal P w K mg base (k + 1) x (spF K n fun _ _ => none) [] :=
  D.cal S hb (fun vs H Q E h => by rw [hn]; exact h.1) fun f0 cdv A outer s H vs Q E hr hsp => by
    obtain ⟨_, F, ow, so, as, d, so', r0, rs, e, k⟩ := hsp
    cases e
/-! ### the calculus -/
theorem ev_nSplit {f g : DE} {ρ : Slots} {so : Sto} {cq : CQ (List PyData × Sto)} : @EvI _ (nSplit f g ρ so) cq ↔ @EvI _ (f ρ so) ⟨fun p => @EvI _ ((g ρ p.2).bind fun q => match p.1, q.1 with
  | .str a, .str b => if (b.length == 0) = false ∧ a.length ≤ LIMS then some ((Txt.split a b).map .str, q.2) else none
  | _, _ => none) cq⟩ := ev_bind
theorem ev_eSlS {f : DE} {lo hi : DO} {ρ : Slots} {so : Sto} {cq : CQ (PyData × Sto)} : @EvI _ (eSlS f lo hi ρ so) cq ↔ @EvI _ (f ρ so) ⟨fun p => @EvI _ ((lo ρ p.2).bind fun q => (hi ρ q.2).bind fun r => (dSlS p.1 q.1 r.1).map fun d => (d, r.2)) cq⟩ := ev_bind
theorem ev_iSgn {f : DE} {ρ : Slots} {so : Sto} {cq : CQ (List PyData × Sto)} : @EvI _ (iSgn f ρ so) cq ↔ @EvI _ (f ρ so) ⟨fun p => @EvI _ (match p.1 with
  | .str z => some (signsOf z, p.2)
  | _ => none) cq⟩ := ev_bind
theorem ev_sHeadL {i j : Nat} {f : DE} {ρ : Slots} {so : Sto} {cq : CQ (Fl × Sto)} : @EvI _ (sHeadL i j f ρ so) cq ↔ @EvI _ (f ρ so) ⟨fun p => @EvI _ (match p.1 with
  | .list (x :: r) => if r.length ≤ LIM then some (.nx ((ρ.set i (some (.d x))).set j (some (.d (.list r)))), p.2) else none
  | _ => none) cq⟩ := ev_bind
theorem ev_callX {G : FX} {g : DL} {ρ : Slots} {so : Sto} {cq : CQ (Rz × Sto)} : @EvI _ (callX G g ρ so) cq ↔ @EvI _ (g ρ so) ⟨fun p => @EvI _ ((G (p.1.map .d) []).map fun r => (r.1, p.2)) cq⟩ := ev_bind
theorem ev_sDropX {G : FX} {g : DL} {ρ : Slots} {so : Sto} {cq : CQ (Fl × Sto)} : @EvI _ (sDropX G g ρ so) cq ↔ @EvI _ (callX G g ρ so) ⟨fun r => @EvI _ (match r.1 with
  | .ok _ => some (.nx ρ, r.2)
  | .ex n => some (.ex n, r.2)) cq⟩ := ev_bind
theorem ev_sRetX {G : FX} {g : DL} {ρ : Slots} {so : Sto} {cq : CQ (Fl × Sto)} : @EvI _ (sRetX G g ρ so) cq ↔ @EvI _ (callX G g ρ so) ⟨fun r => @EvI _ (match r.1 with
  | .ok d => some (.rt d, r.2)
  | .ex n => some (.ex n, r.2)) cq⟩ := ev_bind
theorem ev_sTryR {ns : List Str} {G : FX} {g : DL} {f : DS} {ρ : Slots} {so : Sto} {cq : CQ (Fl × Sto)} : @EvI _ (sTryR ns G g f ρ so) cq ↔ @EvI _ (callX G g ρ so) ⟨fun r => @EvI _ (match r.1 with
  | .ok d => some (.rt d, r.2)
  | .ex n => if n ∈ ns then f ρ r.2 else none) cq⟩ := ev_bind
theorem ev_okF {G : FX} {as : List Sl} {so : Sto} {cq : CQ (PyData × Sto)} : @EvI _ (okF G as so) cq ↔ @EvI _ (G as so) ⟨fun r => @EvI _ (match r.1 with
  | .ok d => some (d, r.2)
  | .ex _ => none) cq⟩ := ev_bind
/-- what the statement comes to where the expression in it raises first, and where it doesn't -/
def orQ (h : Option (Str × Sto)) (f : Option (Fl × Sto)) (Q : Fl × Sto → Prop) : Prop := match h with
  | some r => Q (.ex r.1, r.2)
  | none => Ev f Q
theorem ev_sOrX {h : DX'} {f : DS} {ρ : Slots} {so : Sto} {cq : CQ (Fl × Sto)} : @EvI _ (sOrX h f ρ so) cq ↔ orQ (h ρ so) (f ρ so) cq.q := by
  unfold sOrX orQ
  cases h ρ so with
  | none => rfl
  | some r => exact ev_some
theorem or_no {f : Option (Fl × Sto)} {Q : Fl × Sto → Prop} : orQ none f Q = Ev f Q := rfl
theorem or_yes {n : Str} {so : Sto} {f : Option (Fl × Sto)} {Q : Fl × Sto → Prop} : orQ (some (n, so)) f Q = Q (.ex n, so) := rfl
theorem seq_ex {g : DS} {Q : Fl × Sto → Prop} {n : Str} {so : Sto} : seqQ g Q (.ex n, so) = Q (.ex n, so) := rfl
def retX (p : Nat) (Q : Rz × Sto → Prop) : Fl × Sto → Prop
  | (.rt d, so) => Q (.ok d, so.take p)
  | (.nx _, so) => Q (.ok .none, so.take p)
  | (.ex n, so) => Q (.ex n, so.take p)
  | _ => False
theorem rex_rt {p : Nat} {Q : Rz × Sto → Prop} {d : PyData} {so : Sto} : retX p Q (.rt d, so) = Q (.ok d, so.take p) := rfl
theorem rex_nx {p : Nat} {Q : Rz × Sto → Prop} {ρ : Slots} {so : Sto} : retX p Q (.nx ρ, so) = Q (.ok .none, so.take p) := rfl
theorem rex_ex {p : Nat} {Q : Rz × Sto → Prop} {n : Str} {so : Sto} : retX p Q (.ex n, so) = Q (.ex n, so.take p) := rfl
theorem ev_fDefX {n m p q : Nat} {f : DS} {as : List Sl} {so : Sto} {c : CQ (Rz × Sto)} : @EvI _ (fDefX n m p q f as so) c ↔ (as.length = n ∧ so.length = p) ∧ @EvI _ (f (as.map some ++ List.replicate (m - n) none) (so ++ List.replicate q .no)) ⟨retX p c.q⟩ := by
  unfold fDefX
  by_cases h : as.length = n ∧ so.length = p
  · rw [if_pos h, ev_bind]
    constructor
    · rintro ⟨⟨fl, so1⟩, e, q⟩
      refine ⟨h, _, e, ?_⟩
      cases fl with
      | nx ρ1 => exact (ev_some (c := c)).mp q
      | rt d => exact (ev_some (c := c)).mp q
      | bk ρ1 => exact ((ev_none (c := c)).mp q).elim
      | ct ρ1 => exact ((ev_none (c := c)).mp q).elim
      | ex n => exact (ev_some (c := c)).mp q
    · rintro ⟨_, ⟨fl, so1⟩, e, q⟩
      refine ⟨_, e, ?_⟩
      cases fl with
      | nx ρ1 => exact (ev_some (c := c)).mpr q
      | rt d => exact (ev_some (c := c)).mpr q
      | ex n => exact (ev_some (c := c)).mpr q
      | _ => exact q.elim
  · rw [if_neg h, ev_none]
    exact ⟨False.elim, fun q => h q.1⟩
theorem dStarts_txt (a b : Str) : dStarts (.str a) (.str b) = some (.bool (Txt.startswith a b)) := rfl
theorem dIsdigit_txt (a : Str) : dIsdigit (.str a) = some (.bool (Txt.isdigit a)) := rfl
theorem dIsascii_txt (a : Str) : dIsascii (.str a) = some (.bool (Txt.isascii a)) := rfl
theorem dAdd_txt {x y : Str} (h : x.length + y.length ≤ 1000000) : dAdd (.str x) (.str y) = some (.str (x ++ y)) := if_pos h
theorem gLen_txt {x : Str} (h : x.length ≤ 1000000) : gLen [.str x] = some (.int x.length) := if_pos h
theorem gAbs_int (i : Int) : gAbs [.int i] = some (.int (if i < 0 then -i else i)) := rfl
end MP
namespace MP
open PySem PySem.Spec PyProof.Rows L2 RL
/-! ### a, b = a list -/
def sSetL (n : Nat) (ts : Tgs) (f : DE) : DS := fun ρ so => (f ρ so).bind fun p => match p.1 with
  | .list ds => if ds.length = n then (putTs ts ds ρ).map fun ρ1 => (.nx ρ1, p.2) else none
  | _ => none
theorem ev_sSetL {n : Nat} {ts : Tgs} {f : DE} {ρ : Slots} {so : Sto} {cq : CQ (Fl × Sto)} : @EvI _ (sSetL n ts f ρ so) cq ↔ @EvI _ (f ρ so) ⟨fun p => @EvI _ (match p.1 with
  | .list ds => if ds.length = n then (putTs ts ds ρ).map fun ρ1 => (.nx ρ1, p.2) else none
  | _ => none) cq⟩ := ev_bind
/-! ### a sign, some times -/
def rMulS : R2 := fun x y H Q => ∃ (z : Str) (k : Int), x = .str z ∧ y = .int k ∧ z.length ≤ 1 ∧ 1 ≤ k ∧ k ≤ 1000 ∧ Q (.str (Txt.mul z k)) H
theorem op_mulS {X : Cx} : OpR X (binaryOp .Mult) rMulS := by
  intro pins s σ H x y v u Q I rx ry h
  obtain ⟨z, k, rfl, rfl, hz, k1, k2, q⟩ := h
  obtain ⟨t, rfl⟩ := rx
  obtain ⟨t', rfl⟩ := ry
  have kn : k.toNat ≤ 1000 := by omega
  have b3 : z.length * k.toNat ≤ 1000 := Nat.le_trans (Nat.mul_le_mul hz kn) (by decide)
  refine SB.mul ⟨?_, fun _ _ => ?_, fun _ _ => ?_⟩ fun t2 k3 => ⟨.str (Txt.mul z k), H, I.tok _, ⟨_, rfl⟩, q⟩
  · have e1 : decide (k < -(2 ^ 63 : Int)) = false := decide_eq_false (by omega)
    have e2 : decide (k ≥ (2 ^ 63 : Int)) = false := decide_eq_false (by omega)
    rw [e1, e2]
    rfl
  · have hk : ((2 ^ 63 - 1 : Int) / k) ≥ 1 := by
      refine (Int.le_ediv_iff_mul_le (by omega)).mpr ?_
      omega
    omega
  · show decide (z.length * k.toNat > sizeLine) = false
    rw [sizeLine_eq]
    exact decide_eq_false (by omega)
def dMulS : PyData → PyData → Option PyData
  | .str z, .int k => if z.length ≤ 1 ∧ 1 ≤ k ∧ k ≤ 1000 then some (.str (Txt.mul z k)) else none
  | _, _ => none
theorem od_mulS {K : PySem.W.Frag} : OpD K rMulS dMulS := by
  intro F H x y dx dy d Q s hx hy hg k
  unfold dMulS at hg
  split at hg
  · rename_i z n
    obtain ⟨hc, rfl⟩ := if_some hg
    rw [dq_str hx]
    cases hy
    exact ⟨z, n, rfl, rfl, hc.1, hc.2.1, hc.2.2, here k s (.str _)⟩
  · cases hg
theorem dMulS_txt {z : Str} {k : Int} (h : z.length ≤ 1 ∧ 1 ≤ k ∧ k ≤ 1000) : dMulS (.str z) (.int k) = some (.str (Txt.mul z k)) := if_pos h
end MP
namespace RL
open PySem PySem.Spec PyProof.Rows L2
/-! ### try with several clauses, each with a name of its own -/
/-- a clause: the class it takes, the slot of its name, its suite -/
abbrev Cl := Value × Nat × (Addr → Value → Option Addr → L2.TS)
/-- behind the suite the name is gone -/
def gone (i : Nat) (D : Ends) : Ends := { nx := fun σ H => D.nx (σ.set i none) H, rt := D.rt, bk := fun σ H => D.bk (σ.set i none) H, ct := fun σ H => D.ct (σ.set i none) H }
def wAll (K : PySem.W.Frag) (Wo : WX) (D : Ends) : List Cl → WX
  | [] => Wo
  | (c, i, ts) :: r => fun cls d σ H => ∃ b, PySem.W.exmOne K cls c = some b ∧ (b = true → ∀ a, H a = none → ts a cls d (gone i D) (σ.set i (some (.ref a))) H) ∧ (b = false → wAll K Wo D r cls d σ H)
inductive ClsOk (X : Cx) : List ExceptHandler → List Cl → Prop
  | nil : ClsOk X [] []
  | cons {y n : Str} {c : Value} {i : Nat} {ts : Addr → Value → Option Addr → L2.TS} {t0 : Stmt} {more : List Stmt} {q1 q2 : Pos} {hs : List ExceptHandler} {l : List Cl} (hi : X.N[i]? = some n) (hl : X.env.kindOf n = some .local) (hy : Names X y c)
      (hts : ∀ (a : Addr) (oe : Obj) (cls : Value) (d : Option Addr) (pn : List (Addr × Obj)), Zc cls d oe → (∃ vs, oe.data = .fields vs) → PSs (X.suite a ((a, oe) :: pn)) (t0 :: more) (ts a cls d)) (r : ClsOk X hs l) : ClsOk X (.ExceptHandler (some (.Name y q1)) (some n) (t0 :: more) q2 :: hs) ((c, i, ts) :: l)
theorem ps_try_all {X : Cx} {body : List Stmt} {h0 : ExceptHandler} {hs : List ExceptHandler} {l : List Cl} {tpos : Pos} {tb : WX → L2.TS} {Wo : WX} (e1 : X.stack = X.env :: X.outer) (e2 : X.env.frame = some X.env.locals) (hN : X.N.Nodup) (tk : Takes X Wo)
    (hb : ∀ (W : WX) (pn : List (Addr × Obj)) (xe : Value → Shared → Prop), Takes (X.tr pn xe) W → PassesOwn (model X.prog X.w) X.A X.env xe → PSs (X.tr pn xe) body (tb W)) (hc : ClsOk X (h0 :: hs) l) :
    PS X (.Try body (h0 :: hs) [] [] tpos) (fun D σ H => tb (fun cls d σ H => σ.length = X.N.length → wAll X.K Wo D l cls d σ H) D σ H) := by
  constructor
  intro pins s σ H D I wish
  have okX := I.ok
  have frX : X.A.frames = some (X.env :: X.outer) := okX.frames.trans (congrArg some e1)
  refine wpAny_Try_except (wpAny_mono ((hb (fun cls d σ H => σ.length = X.N.length → wAll X.K Wo D l cls d σ H) (X.pn ++ pins) _ (fun u s1 air => ?_) PassesOwn.looking).run [] s σ H D (I.toTry _) wish) (fun fl s1 done => ?_) fun _ _ z => z)
  · obtain ⟨a, G, sA, pins1, σ1, H1, cls, d, rfl, inv1, nb, ups, sky, na, os, ag, ask⟩ := air
    have inv0 : Inv X pins σ1 H1 sA := inv1.ofTry okX
    have sky0 : Sky G (X.env :: X.outer) a (Zc cls d) X.env.locals s1.heap := e1 ▸ sky
    refine Sky.land Zc.steady frX e2 sky0 fun g fly ups2 => ?_
    have invG : Inv X pins σ1 H1 { s1 with heap := g } := inv0.landed nb fly.1 (ups.trans ups2) os ag
    obtain ⟨oe, vs, atA, zA, dA⟩ := fly.there
    have noFrame : a ∉ frs (X.env :: X.outer) := fun m => by
      obtain ⟨_, o2, at2, no⟩ := fly.2.2.1.mem m
      rw [atA] at at2
      cases at2
      exact no _ dA
    have aL : a ≠ X.env.locals := fun z => noFrame (List.mem_filterMap.mpr ⟨X.env, .head _, by rw [e2, z]⟩)
    have aF : a ∉ X.fs := fun m => by
      obtain ⟨e, he, q⟩ := List.mem_filterMap.mp m
      exact noFrame (List.mem_filterMap.mpr ⟨e, .tail _ he, q⟩)
    have ground := invG.suite atA dA na aL aF
    have all : ∀ {ks : List ExceptHandler} {m : List Cl}, ClsOk X ks m → wAll X.K Wo D m cls d σ1 H1 → wpAny (model X.prog X.w) X.A (handleBy (.ref a) X.env ks) (SP X pins D) X.xe { s1 with heap := g } := by
      intro ks m ck
      induction ck with
      | nil =>
        intro out
        obtain ⟨_, _, _, o3, v3, T, oT, ts3, at3, z3, d3, t3, _⟩ := id fly
        have up : wpAny (model X.prog X.w) X.A (setFlight (.ref a) X.env.frame) (fun _ s4 => wpAny (model X.prog X.w) X.A (throw (.ref a) : Sem Flow) (SP X pins D) X.xe s4) X.xe { s1 with heap := g } := by
          rw [e2]
          exact HandSPX.setFlight_upZ fly fun g2 held ups3 => wpAny_throw (tk _ _ ⟨a, G, sA, pins, σ1, H1, cls, d, rfl, inv0, nb, (ups.trans ups2).trans ups3, .inr (.inr (e1 ▸ held)), na, os, ag, out⟩)
        refine wpAny_handleBy_nil ?_
        unfold PySem.passOn
        refine wpAny_bind (wpAny_field at3 d3 t3 ?_)
        rw [if_neg (by simp : ¬ ((Value.ref T == Value.none) = true))]
        first
          | exact wpAny_bind (wpAny_pure (wpAny_bind up))
          | exact wpAny_bind up
      | @cons y n c i ts t0 more q1 q2 hs2 l2 hi hl hy hts r ih =>
        intro out
        obtain ⟨b, hm, yes, no⟩ := out
        have kind : PySem.W.Looks (model X.prog X.w) g (typeOf (.ref a)) cls := fun _ _ _ _ k q => wpAny_typeOf_ref (k _ _ atA) (by rw [zA.1]; exact q)
        have asks := PySem.W.exm_one (M := model X.prog X.w) invG.kIn kind hm
        refine wpAny_handleBy_cons (codeAny_handlers_test ?_) (fun z => nomatch z)
        have named : ∀ {Q : Value → Shared → Prop} {E : Value → Shared → Prop}, Q c { s1 with heap := g } → wpAny (model X.prog X.w) (X.A.mark (some (.ref a))) (eval (.Name y q1) X.env) Q E { s1 with heap := g } := by
          intro Q E q
          rcases hy with ⟨gl, db, m1 | ⟨m1, m2, m3⟩⟩
          · exact ld_glob (X := X.suite a ((a, oe) :: (X.pn ++ pins))) ground gl m1 q db
          · exact ld_blt (X := X.suite a ((a, oe) :: (X.pn ++ pins))) ground gl m1 m2 q m3 db
        refine named (asks.here ?_)
        cases b with
        | false => exact ih (no rfl)
        | true =>
          refine codeAny_handlers_suite_as (HandSPX.lands_againZ fly fun g2 fly2 ups3 => ?_)
          obtain ⟨o2, v2, at2, z2, d2⟩ := fly2.there
          have inv2 : Inv X pins σ1 H1 { s1 with heap := g2 } := inv0.landed nb fly2.1 ((ups.trans ups2).trans ups3) os ag
          refine store_ok (X := X.suite a ((a, o2) :: (X.pn ++ pins))) (v := .ref a) (inv2.suite at2 d2 na aL aF) hN hi (.inl hl) rfl (fun s5 inv5 => ?_) (.inr hl)
          refine wpAny_mono ((hts a o2 cls d (X.pn ++ pins) z2 ⟨_, d2⟩).run [] s5 _ H1 _ inv5 (yes rfl a na)) (fun f s6 left => ?_) fun _ _ z => z.elim
          have wipe : ∀ {σ6 : L2.St} {H6 : Hp} {Q : Shared → Prop}, Inv (X.suite a ((a, o2) :: (X.pn ++ pins))) [] σ6 H6 s6 → (∀ s7, Inv X pins (σ6.set i none) H6 s7 → Q s7) → wpAny (model X.prog X.w) X.A (do bindName X.env n .none; unbindBehindTheSuite X.env n q2) (fun _ s7 => Q s7) X.xe s6 :=
            fun inv6 q => gone_ok (inv6.unsuite okX) hN hi hl q
          cases f with
          | ret u =>
            obtain ⟨v6, σ6, H6, inv6, r6, q6⟩ := left
            exact wipe inv6 fun _ j => ⟨_, _, _, j, r6, q6⟩
          | next =>
            obtain ⟨σ6, H6, inv6, q6⟩ := left
            exact wipe inv6 fun _ j => ⟨_, _, j, q6⟩
          | brk =>
            obtain ⟨σ6, H6, inv6, q6⟩ := left
            exact wipe inv6 fun _ j => ⟨_, _, j, q6⟩
          | cont =>
            obtain ⟨σ6, H6, inv6, q6⟩ := left
            exact wipe inv6 fun _ j => ⟨_, _, j, q6⟩
    exact all hc (ask inv0.len)
  · cases fl with
    | ret u =>
      obtain ⟨v, σ1, H1, inv1, r, q⟩ := done
      exact ⟨v, σ1, H1, inv1.ofTry okX, r, q⟩
    | next =>
      obtain ⟨σ1, H1, inv1, q⟩ := done
      exact wpAny_execs_nil ⟨σ1, H1, inv1.ofTry okX, q⟩
    | brk =>
      obtain ⟨σ1, H1, inv1, q⟩ := done
      exact ⟨σ1, H1, inv1.ofTry okX, q⟩
    | cont =>
      obtain ⟨σ1, H1, inv1, q⟩ := done
      exact ⟨σ1, H1, inv1.ofTry okX, q⟩
end RL
namespace RL
open PySem PySem.Spec PyProof.Rows L2 LamX
/-! ### a lambda made: only the table at P and a new code object change -/
/-- what the making of a lambda leaves: all as it was, its code object found; or the table written, and a new code object -/
inductive Made (H : Hp) (P : Addr) (q : Str) (ps : Array Value) (c' : Addr) : Hp → Prop
  | old (hc : H c' = some (CodeO c' q)) : Made H P q ps c' H
  | new (more : Array Value) (hn : H c' = none) (ht : TriplesOk (ps ++ more).toList) (ha : ∀ (pos : Pos) (cv : Value), codeAmong pos (ps ++ more).toList = some cv → codeAmong pos ps.toList = some cv ∨ cv = .ref c') :
      Made H P q ps c' (upd (upd H P (.tbl (ps ++ more))) c' (CodeO c' q))
theorem Made.code {H H1 : Hp} {P c' : Addr} {q : Str} {ps : Array Value} (m : Made H P q ps c' H1) : H1 c' = some (CodeO c' q) := by
  cases m with
  | old hc => exact hc
  | new more hn ht ha => exact upd_same
section
variable {X : Cx} {pins : List (Addr × Obj)} {σ : L2.St} {H : Hp} {s : Shared}
theorem lam_made {c P : Addr} {params : Arguments} {body : Expr} {scope : Scope} {pos : Pos} {E : Value → Shared → Prop} {Q : Value → Shared → Prop} {ps : Array Value} (I : Inv X pins σ H s) (TB : TabB X.base X.mg c P) (hcode : X.env.code = .ref c)
    (hP : H P = some (.tbl ps)) (ht : TriplesOk ps.toList) (ha : ∀ (pos : Pos) (cv : Value), codeAmong pos ps.toList = some cv → ∃ c, cv = .ref c ∧ H c = some (CodeO c (X.env.qual ++ "<lambda>")))
    (hdef : defaultsOf params X.env = ([], [])) (hfree : ∀ y ∈ scope.names, y.2 = .free → ∃ c, X.env.cells.lookup y.1 = some c)
    (h : ∀ (f c' : Addr) (pm ctv : Value) (H1 : Hp) (s' : Shared), Inv X pins σ H1 s' → Made H P (X.env.qual ++ "<lambda>") ps c' H1 →
      s'.heap.get? f = some (PySem.W.kla_obj "<lambda>" (X.env.qual ++ "<lambda>") params body scope (cloFrom X.env.cells scope.names []) pm c' ctv) → H1 f = none → f ∉ frs X.stack → Q (.ref f) s') :
    wpAny (model X.prog X.w) X.A (eval (.Lambda params body scope pos) X.env) Q E s := by
  refine PySem.W.kla_eval hdef ?_
  have bP : s.heap.BuiltinsAt X.mg P := TB.bm.keeps I.bk
  have hP' : s.heap.get? P = some { cls := .none, data := .fields ps } := I.hok P _ hP
  have nofr : ∀ f, s.heap.objs.size ≤ f → f ∉ frs X.stack := fun f hf z => by
    rcases List.mem_cons.mp (I.stkSub _ z) with e | e
    · have h1 := I.lt
      rw [← e] at h1
      exact Nat.lt_irrefl _ (Nat.lt_of_lt_of_le h1 hf)
    · exact I.nofs hf e
  cases hc : codeAmong pos ps.toList with
  | none =>
    refine PySem.W.kla_makeFunction (mg := X.mg) (c := c) (P := P) (ps := ps) (closure_ok hfree) I.ok.glob (I.mod.glob.keeps I.bk) hcode (TB.code.keeps I.bk) hP' ht hc TB.gP bP fun c' ctv h' tk hx hge hlt hrec htb => ?_
    obtain ⟨c2, oc, vs, t, e2, hoc, hd, hv⟩ := hrec
    cases e2
    have hsz : s.heap.objs.size ≤ h'.objs.size := Nat.le_trans hge (Nat.le_of_lt hlt)
    have nC : H c' = none := I.hok.fresh hge
    have I1 := inv_table (t' := tk) (more := #[rawInt pos.line, rawInt pos.col, .ref c']) (h' := h'.push (PySem.W.kla_obj "<lambda>" (X.env.qual ++ "<lambda>") params body scope (cloFrom X.env.cells scope.names []) ((X.mg "__name__").getD .none) c' ctv)) I hP
      (fun b o hb e => Heap.get?_push_of_some _ (hx b o hb e)) (Heap.get?_push_of_some _ htb) hge ⟨oc, vs, t, Heap.get?_push_of_some _ hoc, hd, hv⟩
    have eL : (ps ++ #[rawInt pos.line, rawInt pos.col, .ref c']).toList = ps.toList ++ [rawInt pos.line, rawInt pos.col, .ref c'] := by simp
    refine h h'.objs.size c' ((X.mg "__name__").getD .none) ctv _ _ I1 (.new _ nC (by rw [eL]; exact PySem.TriplesOk_snoc _ _ _ _ ht) fun p' cv hcv => ?_) (Heap.get?_push_size _ rfl) ?_ (nofr _ hsz)
    · rw [eL] at hcv
      exact among_app _ ht hcv
    · have n1 : h'.objs.size ≠ c' := Nat.ne_of_gt hlt
      have n2 : h'.objs.size ≠ P := Nat.ne_of_gt (Nat.lt_of_lt_of_le (Heap.lt_size hP') hsz)
      rw [upd_ne n1, upd_ne n2]
      exact I.hok.fresh hsz
  | some cv =>
    obtain ⟨c', e, hco⟩ := ha pos cv hc
    subst e
    refine PySem.W.kla_makeFunctionHit (mg := X.mg) (c := c) (P := P) (ps := ps) (closure_ok hfree) I.ok.glob (I.mod.glob.keeps I.bk) hcode (TB.code.keeps I.bk) hP' ht hc bP fun ctv h' tk hx hsz => ?_
    have I1 : Inv X pins σ H { s with heap := h'.push (PySem.W.kla_obj "<lambda>" (X.env.qual ++ "<lambda>") params body scope (cloFrom X.env.cells scope.names []) ((X.mg "__name__").getD .none) c' ctv), toks := tk } := I.kept fun b o e => Heap.get?_push_of_some _ (hx b o e)
    exact h h'.objs.size c' ((X.mg "__name__").getD .none) ctv H _ I1 (.old hco) (Heap.get?_push_size _ rfl) (I.hok.fresh hsz) (nofr _ hsz)
end
/-- what x(lambda: body) asks: the table at P, and the promise for every outcome of the making -/
def tLamX (P : Addr) (q : Str) (TT : (XK → Hp → VK → Prop) → Hp → VK → Prop) (t : XK → TE) : TE := fun σ H Q =>
  ∃ ps, H P = some (.tbl ps) ∧ TriplesOk ps.toList ∧ (∀ (pos : Pos) (cv : Value), codeAmong pos ps.toList = some cv → ∃ c, cv = .ref c ∧ H c = some (CodeO c q)) ∧
    ∀ c' H1, Made H P q ps c' H1 → TT (fun E H' Q' => t E σ H' Q') H1 Q
section
variable {X : Cx}
/-- x(lambda: body) -/
theorem pe_lam {TT : (XK → Hp → VK → Prop) → Hp → VK → Prop} {x a : Str} {g c P : Addr} {k : Nat} {pg : Arguments} {bg : List Stmt} {sg : Scope} {dV kV doc pm cdv ct oc : Value} {an od : Option Addr} {osl : Array (Option Value)} {Ng : List Str}
    {params : Arguments} {body : Expr} {scope : Scope} {t : XK → TE} {p lpos pos : Pos} (hg : Gl X x) (hm : X.mg x = some (.ref g)) (hk : PySem.W.keepIn X.K (.ref g) = true)
    (lk : X.K.lookup g = some ⟨oc, od, .func (PySem.W.fnOf x x pg bg sg dV kV doc pm an cdv ct), osl⟩) (hcg : PySem.W.codeIn X.K cdv x = true) (hb : L2.Binds X.K (PySem.W.fnOf x x pg bg sg dV kV doc pm an cdv ct) [a] []) (Sg : FnScope Ng [a] sg) (hNg : Ng[0]? = some a) (hva : Vis sg a)
    (hG : GivesTo X Ng x sg g cdv bg a (X.env.qual ++ "<lambda>") TT)
    (TB : TabB X.base X.mg c P) (hcode : X.env.code = .ref c) (hr : Room (k + 2) X.A) (L : LamS X.env.scope scope) (hdef : defaultsOf params X.env = ([], []))
    (hbind : ∀ (q : Str) (cl : List (Str × Addr)) (pm cv ctv : Value), bindArgs (PySem.W.kla_fn "<lambda>" q params body scope cl pm cv ctv) ⟨[], []⟩ = pure [])
    (hbody : ∀ (A : Around) (outer : List Env) (s : Shared) (H : Hp) (E : XK) (f c' : Addr), Room k (A.deeper (lamEnv X scope s.heap.objs.size f c')) → PE (lamCx X A outer s H E scope f c') body (t E))
    (hdb : (x == ("__debug__" : Str)) = false := by decide) (hd : (a == ("__debug__" : Str)) = false := by decide) (hcd : (a == ("__classdict__" : Str)) = false := by decide) :
    PE X (.Call (.Name x p) [.Lambda params body scope lpos] [] pos) (tLamX P (X.env.qual ++ "<lambda>") TT t) := by
  refine ⟨fun pins s σ H Q I h => ?_⟩
  obtain ⟨ps, hP, htr, ha, h⟩ := h
  refine wpAny_Call_Name_kw (ld_glob I hg hm ?_ hdb)
  refine PySem.W.callWith_K (h₀ := X.base) I.ok.mod.kin hk ?_ (by rfl) (by rfl)
  show wpAny _ _ (spliced ((false, eval (.Lambda params body scope lpos) X.env) :: backTo pos (starEach [] X.env))) _ _ s
  refine Calls.spliced_cons (lam_made I TB hcode hP htr ha hdef (L.has I.ok) fun f c' pm' ctv H1 s' I1 m hf hfn hfr => ?_)
  refine Calls.spliced_nil ⟨I1.kIn, ?_⟩
  have rc : codeAny (model X.prog X.w) X.A (.call (.ref g) ⟨[.ref f], []⟩) (CR C8.CX0 X.stack X.prog X.w H1 s' Q C8.E0) s' := by
    refine run_ofS (N := Ng) (ps := [a]) (us := [.ref f]) (vs := [.ref f]) lk hcg Sg hr I1.env0 (hb s' [.ref f] I1.kIn rfl) (.cons rfl .nil) rfl fun hr' => ?_
    obtain ⟨t', ht', hq'⟩ := hG f c' s' H1 Q (fun E H' Q' => t E σ H' Q') (fun W pn xe E p1 p2 tk hW => pe_act (i := 0) I1 L hf hfn hfr (hbind _ _ _ _ _) tk hW hr' (fun A outer s H hr2 => hbody A outer s H E f c' hr2) hNg hva hd hcd) m.code (h c' H1 m)
    exact ⟨t', ht'.nox, hq'⟩
  refine wpAny_call (codeAny_mono rc fun r s2 hq => ?_)
  cases r with
  | error e => exact (show False from hq).elim
  | ok fl =>
    cases fl with
    | ret u => exact I1.after hq
    | next => exact False.elim hq
    | brk => exact False.elim hq
    | cont => exact False.elim hq
end
end RL
namespace RL
open PySem PySem.Spec PyProof.Rows L2
/-! ### the law's own call where defs have tables of code objects, and nothing is being shown -/
/-- the tables that are known at the start: T tells code object and table of each def that makes lambdas -/
structure TabsUp (K : PySem.W.Frag) (mg : Str → Option Value) (h : Heap) (T : List (Addr × Addr)) : Prop where
  tab : ∀ p ∈ T, h.get? p.2 = some (PySem.W.tabObj #[])
  out : ∀ p ∈ T, K.lookup p.2 = none
  code : ∀ p ∈ T, PySem.W.CodeHd h p.1 p.2
/-- nothing but the script and the empty tables is tracked -/
structure OnlyT (H : Hp) (a : Addr) (T : List (Addr × Addr)) : Prop where
  at_ : ∀ p ∈ T, H p.2 = some (.tbl #[])
  kinds : ∀ b, H b = none ∨ (∃ p ∈ T, p.2 = b) ∨ ∃ o xs, H b = some (.frz o (.lst xs))
  sole : ∀ b, H b ≠ none → b = a ∨ ∃ p ∈ T, p.2 = b
theorem callT {P : Program} {w : World} {K : PySem.W.Frag} {mg mb : Str → Option Value} {k : Nat} {fa a : Addr} {fd : FuncData} {x : Str} {sp : Sp} {t : Shared} {vs : List Value} {T : List (Addr × Addr)}
    (KX : K.In t.heap) (hns : t.heap.Ns mainGlobals mg) (hb : t.heap.Ns builtinsNs mb) (hbb : ∀ x : Str, x ≠ "__name__" → mb x = bootBuiltins x) (hlim : t.heap.NoLimit) (hg : t.gens = #[])
    (up : TabsUp K mg t.heap T)
    (hbm : ∃ (bm : Addr) (ob : Obj), mg "__builtins__" = some (.ref bm) ∧ bm ≠ builtinsNs ∧ t.heap.get? bm = some ob ∧ ob.cls = .type "module" ∧ ob.dict = some builtinsNs ∧ ob.data = .plain)
    (ha : t.heap.get? a = some { cls := .type "list", data := .seq vs.toArray }) (hr : Room k callerA)
    (F : ∀ base : Heap, K.In base → base.Ns mainGlobals mg → (∀ p ∈ T, LamX.TabB base mg p.1 p.2) → FnG P w K mg base k fa fd [x] sp) (hbind : ∀ (s : Shared) (u : Value), BindsTo s fd ⟨[u], []⟩ [(x, u)])
    (H : Hp) (only : OnlyT H a T) (hok : HOk P w H t.heap) (hK : H a ≠ none → K.lookup a = none)
    (hsp : sp [.ref a] H (fun v _ => v = .bl true) fun _ _ _ => False) :
    codeAny (model P w) callerA (.call (.ref fa) ⟨[.ref a], []⟩) (fun r s' => r = .ok (.ret (.bool true)) ∧ PySem.OldK t.heap s'.heap ∧ s'.os = t.os ∧ AllBare s'.gens) t := by
  have tabAt : ∀ p ∈ T, t.heap.get? p.2 = some { cls := .none, data := .fields #[] } := fun p hp => up.tab p hp
  -- what is neither a sequence nor an empty table is not tracked
  have free : ∀ {b : Addr} {o : Obj}, t.heap.get? b = some o → (∀ (vv : Array Value) (n : Nat), o.data ≠ .seq vv n) → o.data ≠ .fields #[] → H b = none := fun {b o} e d1 d2 => by
    cases q : H b with
    | none => rfl
    | some u =>
      rcases only.sole b (by rw [q]; exact nofun) with z | ⟨p, hp, z⟩
      · subst z
        rw [ha] at e
        cases e
        exact absurd rfl (d1 _ _)
      · subst z
        rw [tabAt p hp] at e
        cases e
        exact absurd rfl d2
  have nsK : ∀ {b : Addr} {m : Str → Option Value}, t.heap.Ns b m → (hidT t.heap H).Ns b m := fun ⟨o, es, ep, e, d, r⟩ =>
    ⟨o, es, ep, hidT_get e (free e (fun vv n z => by rw [d] at z; cases z) (fun z => by rw [d] at z; cases z)), d, r⟩
  have inB : K.In (hidT t.heap H) := fun b o e => by
    refine hidT_get (KX b o e) ?_
    cases q : H b with
    | none => rfl
    | some u =>
      rcases only.sole b (by rw [q]; exact nofun) with z | ⟨p, hp, z⟩
      · subst z
        rw [hK (by rw [q]; exact nofun)] at e
        cases e
      · subst z
        rw [up.out p hp] at e
        cases e
  have lim2 : (hidT t.heap H).NoLimit := by
    obtain ⟨mc, h1, h2⟩ := hlim
    exact ⟨mc, nsK h1, h2⟩
  have tabs : ∀ p ∈ T, LamX.TabB (hidT t.heap H) mg p.1 p.2 := fun p hp => by
    have gne : ∀ b : Addr, (∀ o : Obj, t.heap.get? b = some o → ∀ (es : Array DictEntry) (ep : Nat), o.data ≠ .dict es ep) → b ≠ mainGlobals := fun b nd z => by
      obtain ⟨o, es, ep, e, hd, _⟩ := hns
      subst z
      exact nd o e es ep hd
    obtain ⟨o, us, file, tf, flags, tg, inF, text, tt, e1, r1, r2, r3, rest⟩ := up.code p hp
    have ne : o.data ≠ .fields #[] := fun z => by
      rw [r2] at z
      cases z
      simp at r3
    obtain ⟨bm, ob, b1, b2, b3, b4, b5, b6⟩ := hbm
    refine ⟨⟨o, us, file, tf, flags, tg, inF, text, tt, hidT_get e1 (free e1 (fun vv n z => by rw [r2] at z; cases z) ne), r1, r2, r3, rest⟩, ⟨bm, ob, b1, b2, gne bm fun o' e' es ep z => ?_, fun z => ?_, hidT_get b3 (free b3 (fun vv n z => by rw [b6] at z; cases z) (fun z => by rw [b6] at z; cases z)), b4, b5, b6⟩, fun z => gne p.2 (fun o' e' es ep z' => ?_) z.symm⟩
    · rw [b3] at e'
      cases e'
      rw [b6] at z
      cases z
    · rw [z, tabAt p hp] at b3
      cases b3
      cases b6
    · rw [tabAt p hp] at e'
      cases e'
      cases z'
  have e0 : Env0 P w K mg (hidT t.heap H) callerA [] t H :=
    { frames := rfl, mod := ⟨inB, nsK hns, ⟨mb, nsK hb, hbb⟩, lim2⟩, bs := fun b o e => of_hidT e, bsz := Nat.le_of_eq (hidT_size _ _), funs := trivial, frf := nofun, hok := hok, bare := .of_eq hg }
  refine codeAny_mono ((F _ inB (nsK hns) tabs).run callerA [] t H ⟨[.ref a], []⟩ [.ref a] [.ref a] _ _ rfl hr e0 (hbind t (.ref a)) (.cons rfl .nil) hsp) ?_
  rintro (e | fl) s' h
  · exact h.elim
  · cases fl with
    | next => exact h.elim
    | brk => exact h.elim
    | cont => exact h.elim
    | ret u =>
      obtain ⟨v, H', os, bare, un, hok', r', q⟩ := h
      obtain rfl : v = .bl true := q
      obtain rfl : u = Value.bool true := r'
      -- a table has grown, all else is as it was
      have wider : ∀ p ∈ T, ∃ more : Array Value, s'.heap.get? p.2 = some { cls := .none, data := .fields more } := fun p hp => by
        obtain ⟨more, z⟩ := un.tbls p.2 #[] (only.at_ p hp)
        exact ⟨_, hok' p.2 _ z⟩
      have same : ∀ b o, (¬ ∃ p ∈ T, p.2 = b) → t.heap.get? b = some o → s'.heap.get? b = some o := fun b o nb e => by
        cases q : H b with
        | none => exact un.keep b o e q nofun nofun
        | some z0 =>
          rcases only.kinds b with z | z | ⟨ob, xs, z⟩
          · rw [q] at z; cases z
          · exact absurd z nb
          · have e1 := (hok b _ z).1
            have e2 := (hok' b _ (un.frzs b ob _ z)).1
            rw [e] at e1
            cases e1
            exact e2
      refine ⟨rfl, ⟨fun b o e => ?_, fun b o e => ?_⟩, os, bare⟩
      · by_cases hT : ∃ p ∈ T, p.2 = b
        · obtain ⟨p, hp, z⟩ := hT
          subst z
          obtain ⟨more, hm⟩ := wider p hp
          rw [tabAt p hp] at e
          cases e
          exact .inr (.inl ⟨((up.code p hp).tab (tabAt p hp)).isCodeTable, rfl, #[], more, rfl, by rw [Array.empty_append]; exact hm⟩)
        · exact .inl (same b o hT e)
      · by_cases hT : ∃ p ∈ T, p.2 = b
        · obtain ⟨p, hp, z⟩ := hT
          subst z
          obtain ⟨more, hm⟩ := wider p hp
          exact ⟨_, hm⟩
        · exact ⟨o, same b o hT e⟩
/-- the abstract heap at the start: the tables, and what H0 tells of else -/
def withT (T : List (Addr × Addr)) (H0 : Hp) : Hp := fun b => if (T.map (·.2)).contains b then some (.tbl #[]) else H0 b
theorem withT_in {T : List (Addr × Addr)} {H0 : Hp} {p : Addr × Addr} (hp : p ∈ T) : withT T H0 p.2 = some (.tbl #[]) := by
  unfold withT
  rw [if_pos (by rw [List.contains_iff_mem]; exact List.mem_map.mpr ⟨p, hp, rfl⟩)]
theorem withT_out {T : List (Addr × Addr)} {H0 : Hp} {b : Addr} (hb : ¬ ∃ p ∈ T, p.2 = b) : withT T H0 b = H0 b := by
  unfold withT
  rw [if_neg (by rw [List.contains_iff_mem]; exact fun z => hb (by obtain ⟨p, hp, e⟩ := List.mem_map.mp z; exact ⟨p, hp, e⟩))]
end RL
namespace MP
open PySem PySem.Spec PyProof.Rows L2 RL LamX
/-! ### isinstance of the exception that a suite holds -/
def eIsE (a : Addr) (i : Nat) (b : Bool) : DE := fun ρ so => match ρ[i]? with
  | some (some (.x (.e a'))) => if a' = a then some (.bool b, so) else none
  | _ => none
/-- what is known of the class n at D: for each name in bs whether the instances of D are instances of it -/
structure ServE (K : PySem.W.Frag) (mg : Str → Option Value) (n : Str) (D : Addr) (bs : List (Str × Bool)) : Prop where
  cls : mg n = some (.ref D)
  exc : L2.ExcC K D
  is_ : ∀ p ∈ bs, ∃ C : Addr, mg p.1 = some (.ref C) ∧ PySem.W.kitOne K (.ref D) (.ref C) = some p.2
theorem tOf_isE {K : PySem.W.Frag} {D C a : Addr} {i : Nat} {b : Bool} (hb : PySem.W.kitOne K (.ref D) (.ref C) = some b) (σ : L2.St) (H : Hp) (Q : VK) (h : tOf K (eIsE a i b) σ H Q) : tCB (rIsE K D a) (tCons (tVar i) (tCons (tC (.ref C)) tNil)) σ H Q := by
  obtain ⟨F, ow, ρ, so, d, so', r0, rs, e, k⟩ := h
  unfold eIsE at e
  split at e
  · rename_i a' hs
    obtain ⟨ea, ed⟩ := if_some e
    cases ed
    subst ea
    obtain ⟨v, hv, q⟩ := rs.get hs
    have q : SxOk K F ow v (.e a') := q
    cases q
    exact ⟨_, hv, .ref C, .ref C, b, rfl, fun u r => r, hb, k F H _ r0 (Stp.refl _ _ _) (.bl b)⟩
  · cases e
theorem pd_isE {X : Cx} {a D C : Addr} {oe : Obj} {pn : List (Addr × Obj)} {i : Nat} {e c : Str} {b : Bool} {p p1 p2 pos : Pos} (T : L2.ExcC X.K D) (hz : Zc (.ref D) none oe) (hf : ∃ vs, oe.data = .fields vs) (hN : X.N[i]? = some e) (hv : Vis X.env.scope e)
    (hg : Gl X "isinstance") (hm : X.mg "isinstance" = none) (hg2 : Gl X c) (hm2 : X.mg c = some (.ref C)) (hb : PySem.W.kitOne X.K (.ref D) (.ref C) = some b)
    (hd : (e == ("__debug__" : Str)) = false := by decide) (hcd : (e == ("__classdict__" : Str)) = false := by decide) (hd2 : (c == ("__debug__" : Str)) = false := by decide) :
    PD (X.suite a ((a, oe) :: pn)) (.Call (.Name "isinstance" p) [.Name e p1, .Name c p2] [] pos) (eIsE a i b) :=
  (pe_callB (X := X.suite a ((a, oe) :: pn)) (call_isE T hz hf) hg hm (by decide +kernel) (pa_cons (pe_var hN hv hd hcd) (pa_cons (pe_glob (v := .ref C) hg2 hm2 rfl hd2) pa_nil (by rfl)) (by rfl)) (by decide) (by decide) (by rfl) (by rfl)).imp (tOf_isE hb)
/-! ### what a lambda's body comes to: what it raises first, or what it gives -/
def tLB (K : PySem.W.Frag) (mg : Str → Option Value) (E : XK) (h : DX') (f : DE) : TE := fun σ H Q => ∃ F ow ρ so, RelO K F H ow so ∧ RelS K F ow σ ρ ∧ match h ρ so with
  | some r => ∀ F' H', RelO K F' H' ow r.2 → Stp ow F H F' H' → WEx mg E r.1 H'
  | none => ∃ r, f ρ so = some r ∧ ∀ F' H' v, RelO K F' H' ow r.2 → Stp ow F H F' H' → Dq K F' v r.1 → Q v H'
def hNo : DX' := fun _ _ => none
theorem pe_lb {X : Cx} {E : XK} {e : Expr} {h : DX'} {f : DE} (hf : PD X e f) (hh : PE X e (tEx X.K X.mg E h)) : PE X e (tLB X.K X.mg E h f) := by
  refine ⟨fun pins s σ H Q I q => ?_⟩
  obtain ⟨F, ow, ρ, so, r0, rs, q⟩ := q
  cases hq : h ρ so with
  | some r =>
    rw [hq] at q
    exact hh.run pins s σ H Q I ⟨F, ow, ρ, so, r.1, r.2, r0, rs, hq, q⟩
  | none =>
    rw [hq] at q
    obtain ⟨r, e1, k⟩ := q
    exact hf.run pins s σ H Q I ⟨F, ow, ρ, so, r.1, r.2, r0, rs, e1, k⟩
/-! ### the making of a lambda, seen by the def's own things -/
theorem made_ok {K : PySem.W.Frag} {F H H1 : Hp} {ow : Ads} {so : Sto} {k : Nat} {P c' : Addr} {x : Str} {ps : Array Value} (r : RelO K F H ow so) (ha : ow[k]? = some (some P)) (hs : so[k]? = some (.x (.tb x))) (hP : H P = some (.tbl ps)) (m : Made H P (LamQ x) ps c' H1) :
    ∃ F1, RelO K F1 H1 ow so ∧ Stp ow F H F1 H1 := by
  cases m with
  | old hc => exact ⟨F, r, Stp.refl _ _ _⟩
  | new more hn ht hx =>
    obtain ⟨fP, o, ho, ps', rfl, hq⟩ := r.own k _ _ ha hs
    rw [hP] at ho
    cases ho
    have nP : P ≠ c' := ne_of_none hP hn
    have s1 : Stp [] F H (upd F c' (CodeO c' (LamQ x))) (upd H c' (CodeO c' (LamQ x))) := Stp.new hn r.sub
    have r1 : RelO K (upd F c' (CodeO c' (LamQ x))) (upd H c' (CodeO c' (LamQ x))) ow so := r.grow s1 (same_upd r.sub)
    have f1 : (upd F c' (CodeO c' (LamQ x))) P = none := by rw [upd_ne nP]; exact fP
    have hz : ∀ (pos : Pos) (cv : Value), codeAmong pos (ps ++ more).toList = some cv → ∃ c, cv = .ref c ∧ (upd F c' (CodeO c' (LamQ x))) c = some (CodeO c (LamQ x)) := fun pos cv hcv => by
      rcases hx pos cv hcv with z | z
      · obtain ⟨c0, e1, e2⟩ := hq.2.2 pos cv z
        exact ⟨c0, e1, s1.fz _ _ e2⟩
      · exact ⟨c', z, upd_same⟩
    obtain ⟨p1, p2⟩ := relO_putW r1 ha hs f1 (o := .tbl (ps ++ more)) (w' := .x (.tb x)) ⟨f1, _, upd_same, _, rfl, hq.1, ht, hz⟩
    · have es : so.set k (.x (.tb x)) = so := by
        refine List.ext_getElem? fun j => ?_
        by_cases hj : k = j
        · subst hj
          rw [List.getElem?_set_self (List.getElem?_eq_some_iff.mp hs).1, hs]
        · rw [List.getElem?_set_ne hj]
      have eH : upd (upd H P (.tbl (ps ++ more))) c' (CodeO c' (LamQ x)) = upd (upd H c' (CodeO c' (LamQ x))) P (.tbl (ps ++ more)) := by
        funext b
        by_cases h1 : b = c'
        · subst h1
          rw [upd_same, upd_ne (Ne.symm nP), upd_same]
        · rw [upd_ne h1]
          by_cases h2 : b = P
          · subst h2
            rw [upd_same, upd_same]
          · rw [upd_ne h2, upd_ne h2, upd_ne h1]
      rw [es] at p1
      rw [eH]
      exact ⟨_, p1, s1.some_of.trans p2⟩
/-! ### said: the names that a def gives to what the lambda raises -/
/-- the clauses' promise: tbl tells the word for what is raised, rest what is told where nothing is -/
def TSaid (mg : Str → Option Value) (tbl : Str → Option Str) (rest : Str) : (XK → Hp → VK → Prop) → Hp → VK → Prop := fun tl H Q =>
  tl (fun cls d H' => d = none ∧ ∃ n y C, cls = .ref C ∧ mg n = some (.ref C) ∧ tbl n = some y ∧ ∀ H'', Same H' H'' → Q (.str y) H'') H fun _ H' => Q (.str rest) H'
def eSaid (k : Nat) (x : Str) (tbl : Str → Option Str) (rest : Str) (h : DX') (f : DE) : DE := fun ρ so => match so[k]? with
  | some (.x (.tb z)) => if z = x then (match h ρ so with
    | some r => (tbl r.1).map fun y => (.str y, r.2)
    | none => (f ρ so).map fun r => (.str rest, r.2)) else none
  | _ => none
theorem eSaid_at {k : Nat} {x : Str} {tbl : Str → Option Str} {rest : Str} {h : DX'} {f : DE} {ρ : Slots} {so : Sto} (hk : so[k]? = some (.x (.tb x))) : eSaid k x tbl rest h f ρ so = (match h ρ so with
    | some r => (tbl r.1).map fun y => (.str y, r.2)
    | none => (f ρ so).map fun r => (.str rest, r.2)) := by
  unfold eSaid
  rw [hk]
  exact if_pos rfl
theorem eSaid_no {k : Nat} {x : Str} {tbl : Str → Option Str} {rest : Str} {h : DX'} {f : DE} {ρ : Slots} {so : Sto} (hk : so[k]? ≠ some (.x (.tb x))) : eSaid k x tbl rest h f ρ so = none := by
  unfold eSaid
  split
  · rename_i z hz
    refine if_neg fun e => hk ?_
    rw [hz, e]
  · rfl
theorem stp_same {F H H' : Hp} (e : Same H H') : Stp [] F H F H' := ⟨Same.refl _, fun a o _ h => e a o h, fun _ _ _ _ h => h, fun a h => by
  cases q : H a with
  | none => exact absurd q h
  | some o => rw [e a o q]; exact nofun⟩
theorem tOf_said {K : PySem.W.Frag} {mg : Str → Option Value} {k : Nat} {x : Str} {tbl : Str → Option Str} {rest : Str} {h : DX'} {f : DE} {P : Addr} {c : Addr} (hP : PySem.W.tabIn K x = some (c, P)) (σ : L2.St) (H : Hp) (Q : VK) (q : tOf K (eSaid k x tbl rest h f) σ H Q) :
    tLamX P (LamQ x) (TSaid mg tbl rest) (fun E => tLB K mg E h f) σ H Q := by
  obtain ⟨F, ow, ρ, so, d, so', r0, rs, e, kk⟩ := q
  obtain ⟨hs, e⟩ : so[k]? = some (.x (.tb x)) ∧ (match h ρ so with
    | some r => (tbl r.1).map fun y => (PyData.str y, r.2)
    | none => (f ρ so).map fun r => (PyData.str rest, r.2)) = some (d, so') := by
    by_cases hk : so[k]? = some (.x (.tb x))
    · rw [eSaid_at hk] at e
      exact ⟨hk, e⟩
    · rw [eSaid_no hk] at e
      cases e
  have hk : k < ow.length := by rw [r0.len]; exact (List.getElem?_eq_some_iff.mp hs).1
  obtain ⟨a, ha⟩ : ∃ a, ow[k]? = some a := ⟨_, List.getElem?_eq_getElem hk⟩
  have q := r0.own k a _ ha hs
  cases a with
  | none => exact q.elim
  | some a =>
    obtain ⟨fP, o, ho, ps, rfl, hq⟩ := id q
    obtain ⟨c0, e0⟩ := hq.1
    rw [hP] at e0
    cases e0
    refine ⟨ps, ho, hq.2.1, fun pos cv hc => ?_, fun c' H1 m => ?_⟩
    · obtain ⟨c1, e1, e2⟩ := hq.2.2 pos cv hc
      exact ⟨c1, e1, r0.sub _ _ e2⟩
    · obtain ⟨F1, r1, s1⟩ := made_ok r0 ha hs ho m
      refine ⟨F1, ow, ρ, so, r1, rs.mono s1.fz, ?_⟩
      cases hh : h ρ so with
      | some r =>
        rw [hh] at e
        obtain ⟨y, e1, e2⟩ := Option.map_eq_some_iff.mp e
        cases e2
        intro F' H' r' s' C hC
        refine ⟨rfl, r.1, y, C, rfl, hC, e1, fun H'' es => ?_⟩
        have s2 := stp_same (F := F') es
        exact kk F' H'' _ (r'.grow s2 (r'.sub.trans es)) ((s1.trans s').trans s2.some_of) (.str y)
      | none =>
        rw [hh] at e
        obtain ⟨r, e1, e2⟩ := Option.map_eq_some_iff.mp e
        cases e2
        exact ⟨r, e1, fun F' H' v r' s' _ => kk F' H' _ r' (s1.trans s') (.str rest)⟩
end MP
namespace MP
open PySem PySem.Spec PyProof.Rows L2 RL LamX
/-! ### a def that calls the lambda it gets, and has a word for each class of what that raises -/
abbrev sCx (X : Cx) (Ng : List Str) (x : Str) (sg : Scope) (g : Addr) (cdg : Value) (s : Shared) (H : Hp) : Cx := (cxOf C8.CX0 X.prog X.w X.K X.mg X.base Ng x sg g cdg X.A X.stack s H C8.E0).nox
theorem pss_no {X : Cx} {st : List Stmt} : PSs X st (fun _ _ _ => False) := ⟨fun _ _ _ _ _ _ h => h.elim⟩
/-- the suite that has the words -/
def tsWord (K : PySem.W.Frag) (mg : Str → Option Value) (tbl : Str → Option Str) (fs : Str → Addr → DS) : Addr → Value → Option Addr → TS := fun a cls d D σ H =>
  d = none ∧ ∃ n y C, cls = .ref C ∧ mg n = some (.ref C) ∧ tbl n = some y ∧ tOfS K 0 (fun _ _ => False) (fs n a) D σ H
theorem val_word {K : PySem.W.Frag} {f : DS} {D : Ends} {l i : Nat} {a : Addr} {y : Str} {H : Hp} (hv : f ((List.replicate l none).set i (some (.x (.e a)))) [] = some (.rt (.str y), [])) (hq : ∀ H'', Same H H'' → D.rt (.str y) H'') (σ : L2.St) (hl : σ.length = l) : tOfS K 0 (fun _ _ => False) f D (σ.set i (some (.ref a))) H := by
  have r0 : RelO K (fun _ => none) H [] [] := ⟨nofun, rfl, fun k a w h => by simp at h, fun j k a h => by simp at h, fun k a h => by simp at h⟩
  have rs : RelS K (fun _ => none) [] (σ.set i (some (.ref a))) ((List.replicate l none).set i (some (.x (.e a)))) := by
    refine RelS.set ⟨by rw [List.length_replicate]; exact hl, fun j v s hj hs => ?_⟩ ⟨_, rfl, SxOk.e a⟩
    rw [List.getElem?_replicate] at hs
    split at hs
    · cases hs; trivial
    · cases hs
  refine ⟨fun _ => none, [], _, [], _, _, r0, rs, hv, fun F' H' ow' r' s' t' v hd => ?_⟩
  rw [dq_str hd]
  exact hq H' fun b o h => s'.keep b o (by simp) h
theorem said_gives {X : Cx} {Ng : List Str} {x a q rest : Str} {sg : Scope} {g CU CL CE : Addr} {cdg : Value} {tbl : Str → Option Str} {i j : Nat} {U L E e : Str} {t1 t2 t3 : Stmt} {r1 r2 r3 : List Stmt} {p1 p2 p3 p4 p5 p6 p7 p8 p9 p10 p11 p12 : Pos} {fs : Str → Addr → DS}
    (h0 : ∀ f : Addr, (L2.start Ng [V.ref f])[0]? = some (some (V.ref f))) (hNd : Ng.Nodup) (hi : Ng[i]? = some e) (hl : sg.names.lookup e = some .local)
    (gU : sg.names.lookup U = some .globalImplicit) (mU : X.mg U = some (.ref CU)) (dU : (U == ("__debug__" : Str)) = false)
    (gL : sg.names.lookup L = some .globalImplicit) (mL : X.mg L = some (.ref CL)) (dL : (L == ("__debug__" : Str)) = false)
    (gE : sg.names.lookup E = some .globalImplicit) (mE : X.mg E = some (.ref CE)) (dE : (E == ("__debug__" : Str)) = false)
    (hsw : ∀ env ln, swapsWith (.Call (.Name a p1) [] [] p2) none ln env = pure false)
    (hserve : ∀ n y D, tbl n = some y → X.mg n = some (.ref D) → PySem.W.exmOne X.K (.ref D) (.ref CU) = some false ∧ PySem.W.exmOne X.K (.ref D) (.ref CL) = some false ∧ PySem.W.exmOne X.K (.ref D) (.ref CE) = some true)
    (hsuite : ∀ (s : Shared) (H : Hp) (n y : Str) (D a : Addr) (oe : Obj) (pn : List (Addr × Obj)), tbl n = some y → X.mg n = some (.ref D) → Zc (.ref D) none oe → (∃ vs, oe.data = .fields vs) → PDSs ((sCx X Ng x sg g cdg s H).suite a ((a, oe) :: pn)) 0 (fun _ _ => False) (t3 :: r3) (fs n a))
    (hval : ∀ n y a, tbl n = some y → fs n a ((List.replicate Ng.length none).set i (some (.x (.e a)))) [] = some (.rt (.str y), [])) :
    GivesTo X Ng x sg g cdg [.Try [.Expr (.Call (.Name a p1) [] [] p2) p3] [.ExceptHandler (some (.Name U p4)) (some e) (t1 :: r1) p5, .ExceptHandler (some (.Name L p6)) (some e) (t2 :: r2) p7, .ExceptHandler (some (.Name E p8)) (some e) (t3 :: r3) p9] [] [] p10, .Return (some (.Constant (.str rest) j p11)) p12] a q (TSaid X.mg tbl rest) := by
  intro f c' s H Q tl act hc h
  let D0 : Ends := { nx := fun _ H' => Q .non H', rt := Q }
  refine ⟨_, pss_cons (ps_try_all (X := sCx X Ng x sg g cdg s H) (Wo := fun _ _ _ _ => False) (l := [(.ref CU, i, fun _ _ _ _ _ _ => False), (.ref CL, i, fun _ _ _ _ _ _ => False), (.ref CE, i, tsWord X.K X.mg tbl fs)])
      (tb := fun W D σ H => ∃ Ech : XK, (∀ cls d σ' H', Ech cls d H' → W cls d σ' H') ∧ σ[0]? = some (some (.ref f)) ∧ H c' = some (CodeO c' q) ∧ tl Ech H fun _ H' => D.nx σ H')
      rfl rfl hNd LamX.takes0 (fun W pn xe tk _ => ?_) (.cons hi hl ⟨gU, dU, .inl mU⟩ (fun _ _ _ _ _ _ _ => pss_no) (.cons hi hl ⟨gL, dL, .inl mL⟩ (fun _ _ _ _ _ _ _ => pss_no) (.cons hi hl ⟨gE, dE, .inl mE⟩ (fun a oe cls d pn hz hf => ?_) .nil)))) (pss_one (ps_ret pe_str)), ?_⟩
  · refine ⟨fun pins s' σ H' D I h' => ?_⟩
    obtain ⟨Ech, hW, h1, h2, h3⟩ := h'
    have hp := act W pn xe Ech p1 p2 tk hW
    exact (pss_one (ps_expr (pos := p3) hp (hsw _ _))).run pins s' σ H' D I ⟨h1, h2, h3⟩
  · refine ⟨fun pins s' σ H' D I h' => ?_⟩
    obtain ⟨rfl, n, y, C, rfl, hm, ht, h'⟩ := h'
    exact (hsuite s H n y C a oe pn ht hm hz hf).run pins s' σ H' D I h'
  · refine ⟨fun cls d H' => d = none ∧ ∃ n y C, cls = .ref C ∧ X.mg n = some (.ref C) ∧ tbl n = some y ∧ ∀ H'', Same H' H'' → Q (.str y) H'', fun cls d σ' H' hE hlen => ?_, h0 f, hc, h⟩
    obtain ⟨rfl, n, y, C, rfl, hm, ht, hQ⟩ := hE
    obtain ⟨e1, e2, e3⟩ := hserve n y C ht hm
    refine ⟨false, e1, nofun, fun _ => ⟨false, e2, nofun, fun _ => ⟨true, e3, fun _ a ha => ⟨rfl, n, y, C, rfl, hm, ht, ?_⟩, nofun⟩⟩⟩
    exact val_word (hval n y a ht) hQ σ' hlen
end MP
namespace RL
open PySem PySem.Spec PyProof.Rows L2
section
variable {P : Program} {w : World} {K : PySem.W.Frag} {mg : Str → Option Value} {base : Heap} {k : Nat} {f : Addr} {fd : FuncData} {N ps : List Str} {sp : Sp}
/-- a def whose code object is known -/
theorem fnGT {x qual : Str} {st : Stmt} {c : Addr} (F : Fun K x qual st f fd) (S : FnScope N ps (defScope st)) (hc : fd.code = .ref c) (len : ∀ vs H Q E, sp vs H Q E → vs.length = ps.length)
    (hbody : ∀ (A : Around) (outer : List Env) (s : Shared) (H : Hp) (vs : List V) (Q : VK) (E : XK), A.guards = some [] → Room k (A.deeper (envOfC qual (defScope st) s.heap.objs.size f (.ref c))) → sp vs H Q E →
      ∃ t, PSs (cxOf CX0 P w K mg base N qual (defScope st) f (.ref c) A outer s H E).nox (defBody st) t ∧ t { nx := fun _ H' => Q .non H', rt := Q } (start N vs) H) : FnG P w K mg base (k + 1) f fd ps sp := by
  obtain ⟨oc, od, kV, doc, pm, an, cdv, ct, osl, rfl, lk, hcd⟩ := F.ex
  obtain rfl : cdv = .ref c := hc
  refine ⟨len, ?_⟩
  intro A outer s H args us vs Q E gd room e0 bnd rel want
  have old : ∀ b o, base.get? b = some o → s.heap.get? b = some o := fun b o e => (e0.bs b o e).1
  refine codeAny_call_function room.depth (e0.mod.kin.keeps old _ _ lk) rfl S.co S.gen rfl (PySem.W.codeRec_of (e0.mod.kin.keeps old) hcd) (bnd _ _ _ _ ?_)
  refine wpAny_newFunctionEnv_cells S.kind ?_ ?_
  · rintro ⟨n, v⟩ hy
    cases S.par n (List.of_mem_zip hy).1 with
    | inl q => exact .inl q
    | inr q => exact .inr ⟨q, PySem.W.cellsFrom_some _ _ _ (.inl q)⟩
  · rintro env rfl s1 x
    obtain ⟨t, ht, ht2⟩ := hbody A outer s H vs Q E gd (room.deeper _) want
    refine ⟨(e0.mod.nolimit.keeps old).keeps x.toInCall.keep, codeAny_func ?_⟩
    have I := inv_start (CX := CX0) (P := P) (w := w) (E := E) S room.hd e0 (len _ _ _ _ want) rel x
    refine wpAny_mono (ht.nox.run [] s1 (start N vs) H _ I ht2) ?_ fun _ _ z => z
    rintro (_ | _ | _ | u) s' hs
    · obtain ⟨σ', H', J, q⟩ := hs
      exact ⟨V.non, H', J.os, J.bare, J.base, J.hok, rfl, q⟩
    · obtain ⟨_, _, _, q⟩ := hs
      exact q.elim
    · obtain ⟨_, _, _, q⟩ := hs
      exact q.elim
    · obtain ⟨v, σ', H', J, rv, q⟩ := hs
      exact ⟨v, H', J.os, J.bare, J.base, J.hok, rv, q⟩
end
end RL
namespace MP
open PySem PySem.Spec PyProof.Rows L2 RL LamX
/-! ### the law, with the table of its lambdas -/
section
variable {P : Program} {w : World} {K : PySem.W.Frag} {mg : Str → Option Value} {base : Heap} {x : Str} {st : Stmt} {N ps : List Str} {k n p q : Nat} {f : DS} {W : Str → Hp → Prop}
theorem mk_lawT {f0 c : Addr} {fd : FuncData} (F : Fun K x x st f0 fd) (S : FnScope N ps (defScope st)) (hc : fd.code = .ref c) (hn : ps.length = n)
    (h : ∀ (f0 : Addr) (A : Around) (outer : List Env) (s : Shared) (H : Hp) (E : XK), A.guards = some [] → Room k (A.deeper (envOfC x (defScope st) s.heap.objs.size f0 (.ref c))) → PDSs (cxOf CX0 P w K mg base N x (defScope st) f0 (.ref c) A outer s H E).nox p W (defBody st) f) :
    FnG P w K mg base (k + 1) f0 fd ps (spF K n (fDef n N.length p q f)) :=
  fnGT F S hc (fun vs H Q E h => by rw [hn]; exact h.1) fun A outer s H vs Q E gd hr hsp => ⟨_, h f0 A outer s H E gd hr, body_of vs H Q E hsp⟩
end
theorem law_codeT {K : PySem.W.Frag} {h : Heap} {mg : Str → Option Value} {x : Str} {st : Stmt} {fa c Pt : Addr} {fd : FuncData} (X : K.In h) (G : h.Ns mainGlobals mg) (ht : PySem.W.tabIn K x = some (c, Pt)) (e : mg x = some (.ref fa)) (F : Fun K x x st fa fd) : fd.code = .ref c := by
  obtain ⟨oc, od, kV, doc, pm, an, cdv, ct, osl, rfl, lk, hcd⟩ := F.ex
  exact PySem.W.law_code X G ht e (X _ _ lk) rfl
/-! ### a def that has words for what a lambda raises -/
structure CalS (P : Program) (w : World) (K : PySem.W.Frag) (mg : Str → Option Value) (base : Heap) (x : Str) (tbl : Str → Option Str) (rest : Str) : Prop where
  ex : ∃ (g : Addr) (pg : Arguments) (bg : List Stmt) (sg : Scope) (dV kV doc pm cdv ct oc : Value) (an od : Option Addr) (osl : Array (Option Value)) (Ng : List Str) (a : Str),
    mg x = some (.ref g) ∧ PySem.W.keepIn K (.ref g) = true ∧ K.lookup g = some ⟨oc, od, .func (PySem.W.fnOf x x pg bg sg dV kV doc pm an cdv ct), osl⟩ ∧ PySem.W.codeIn K cdv x = true ∧ L2.Binds K (PySem.W.fnOf x x pg bg sg dV kV doc pm an cdv ct) [a] [] ∧
    FnScope Ng [a] sg ∧ Ng[0]? = some a ∧ Vis sg a ∧ (a == ("__debug__" : Str)) = false ∧ (a == ("__classdict__" : Str)) = false ∧
    ∀ (X : Cx) (q : Str), X.prog = P → X.w = w → X.K = K → X.mg = mg → X.base = base → Room 2 X.A → GivesTo X Ng x sg g cdv bg a q (TSaid mg tbl rest)
theorem cal_said {P : Program} {w : World} {K : PySem.W.Frag} {mg : Str → Option Value} {base : Heap} {x : Str} {st : Stmt} {N : List Str} {a : Str} {tbl : Str → Option Str} {rest : Str} (D : Df K mg x st) (S : FnScope N [a] (defScope st))
    (hb : ∀ (kV doc pm : Value) (an : Option Addr) (cdv ct : Value) (us : List Value), us.length = [a].length → bindArgs (PySem.W.fnOf x x (defArgs st) (defBody st) (defScope st) .none kV doc pm an cdv ct) ⟨us, []⟩ = pure ([a].zip us))
    (hN : N[0]? = some a) (hv : Vis (defScope st) a) (h : ∀ (X : Cx) (q : Str) (g : Addr) (cdv : Value), X.prog = P → X.w = w → X.K = K → X.mg = mg → X.base = base → Room 2 X.A → GivesTo X N x (defScope st) g cdv (defBody st) a q (TSaid mg tbl rest))
    (h1 : (a == ("__debug__" : Str)) = false := by decide) (h2 : (a == ("__classdict__" : Str)) = false := by decide) : CalS P w K mg base x tbl rest := by
  obtain ⟨f0, fd, F, g⟩ := D.ex
  have B := F.binds hb
  obtain ⟨oc, od, kV, doc, pm, an, cdv, ct, osl, rfl, lk, hcd⟩ := F.ex
  exact ⟨f0, _, _, _, _, kV, doc, pm, cdv, ct, oc, an, od, osl, N, a, g, F.kp, lk, hcd, B, S, hN, hv, h1, h2, fun X q e1 e2 e3 e4 e5 hr => h X q f0 cdv e1 e2 e3 e4 e5 hr⟩
theorem sv_of {K : PySem.W.Frag} {mg : Str → Option Value} {CU CL CE : Addr} {bs : Str → List (Str × Bool)} {l : List (Str × Str)} (h : ∀ p ∈ l, ∃ D, ServE K mg p.1 D (bs p.1) ∧ PySem.W.exmOne K (.ref D) (.ref CU) = some false ∧ PySem.W.exmOne K (.ref D) (.ref CL) = some false ∧ PySem.W.exmOne K (.ref D) (.ref CE) = some true) :
    ∀ n y D, l.lookup n = some y → mg n = some (.ref D) → ServE K mg n D (bs n) ∧ PySem.W.exmOne K (.ref D) (.ref CU) = some false ∧ PySem.W.exmOne K (.ref D) (.ref CL) = some false ∧ PySem.W.exmOne K (.ref D) (.ref CE) = some true := by
  intro n y D e hm
  obtain ⟨D', S, r⟩ := h (n, y) (PySem.mem_of_lookup e)
  have z : D = D' := by
    have := hm.symm.trans S.cls
    exact Value.ref.inj (Option.some.inj this)
  subst z
  exact ⟨S, r⟩
/-- room within a suite of an except clause -/
structure RoomS (A : Around) : Prop where
  un : A.units + 200 < cLine
theorem roomS_mark {k : Nat} {A : Around} {v : Option Value} (r : Room k A) : RoomS (A.mark v) := ⟨by have := r.un; show A.units + 200 < cLine; omega⟩
theorem RoomS.units {A : Around} (r : RoomS A) : A.units + 64 < cLine := by have := r.un; omega
theorem un65S {A : Around} (r : RoomS A) : A.units + 65 < cLine := by have := r.un; omega
theorem pdss_never {X : Cx} {p : Nat} {W : Str → Hp → Prop} {st : List Stmt} : PDSs X p W st sNone := pss_no.imp fun D σ H h => by obtain ⟨_, _, _, _, _, _, _, _, e, _⟩ := h; cases e
theorem pd_said {X : Cx} {x : Str} {tbl : Str → Option Str} {rest y : Str} {c P : Addr} {i k : Nat} {params : Arguments} {body : Expr} {scope : Scope} {h : DX'} {f : DE} {p lpos pos : Pos} (C : CalS X.prog X.w X.K X.mg X.base x tbl rest)
    (ht : PySem.W.tabIn X.K y = some (c, P)) (TB : TabB X.base X.mg c P) (hcode : X.env.code = .ref c) (hq : X.env.qual ++ "<lambda>" = LamQ y) (hg : Gl X x) (hr : Room (k + 2) X.A) (L : LamS X.env.scope scope) (hdef : defaultsOf params X.env = ([], []))
    (hbind : ∀ (q : Str) (cl : List (Str × Addr)) (pm cv ctv : Value), bindArgs (PySem.W.kla_fn "<lambda>" q params body scope cl pm cv ctv) ⟨[], []⟩ = pure [])
    (hbody : ∀ (A : Around) (outer : List Env) (s : Shared) (H : Hp) (E : XK) (f0 c' : Addr), Room k (A.deeper (lamEnv X scope s.heap.objs.size f0 c')) → PE (lamCx X A outer s H E scope f0 c') body (tLB X.K X.mg E h f))
    (hdb : (x == ("__debug__" : Str)) = false := by decide) : PD X (.Call (.Name x p) [.Lambda params body scope lpos] [] pos) (eSaid i y tbl rest h f) := by
  obtain ⟨g, pg, bg, sg, dV, kV, doc, pm, cdv, ct, oc, an, od, osl, Ng, a, h1, h2, h3, h4, h5, h6, h7, h8, h9, h10, h11⟩ := C.ex
  have G := h11 X (X.env.qual ++ "<lambda>") rfl rfl rfl rfl rfl (hr.mono (by omega))
  have e := pe_lam (t := fun E => tLB X.K X.mg E h f) (p := p) (lpos := lpos) (pos := pos) hg h1 h2 h3 h4 h5 h6 h7 h8 G TB hcode hr L hdef hbind hbody hdb h9 h10
  rw [hq] at e
  exact e.imp (tOf_said ht)
/-! ### an exception in the argument of append -/
/-! ### isinstance of the held exception, its class told by a table of facts -/
theorem pd_isE' {X : Cx} {a D : Addr} {oe : Obj} {pn : List (Addr × Obj)} {i : Nat} {e c n : Str} {b : Bool} {bs : List (Str × Bool)} {p p1 p2 pos : Pos} (S : ServE X.K X.mg n D bs) (hz : Zc (.ref D) none oe) (hf : ∃ vs, oe.data = .fields vs) (hN : X.N[i]? = some e) (hv : Vis X.env.scope e)
    (hg : Gl X "isinstance") (hm : X.mg "isinstance" = none) (hg2 : Gl X c) (hb : (c, b) ∈ bs)
    (hd : (e == ("__debug__" : Str)) = false := by decide) (hcd : (e == ("__classdict__" : Str)) = false := by decide) (hd2 : (c == ("__debug__" : Str)) = false := by decide) :
    PD (X.suite a ((a, oe) :: pn)) (.Call (.Name "isinstance" p) [.Name e p1, .Name c p2] [] pos) (eIsE a i b) := by
  obtain ⟨C, h1, h2⟩ := S.is_ _ hb
  exact pd_isE S.exc hz hf hN hv hg hm hg2 h1 h2 hd hcd hd2
theorem kit_ref {K : PySem.W.Frag} {C D : Addr} {b : Bool} (h1 : PySem.W.hasDictIn K C = true) (ht : PySem.W.typeIn K (.ref C) = some (.type "type")) (hs : PySem.W.subIn K (.ref C) (.ref C) = some true) (h4 : PySem.W.subIn K (.ref D) (.ref C) = some b) : PySem.W.kitOne K (.ref D) (.ref C) = some b := by
  obtain ⟨cd, hc, _⟩ := PySem.W.any_some h1
  unfold PySem.W.kitOne
  split
  · rename_i e
    have e := Value.ref.inj (beq_iff_eq.mp e)
    subst e
    rw [hs] at h4
    exact h4
  · show (if ((PySem.W.clsIn K C).isSome && PySem.W.typeIn K (.ref C) == some (.type "type")) = true then PySem.W.subIn K (.ref D) (.ref C) else none) = some b
    rw [if_pos (by rw [hc, ht]; rfl)]
    exact h4
/-! ### {} as data -/
def eDict0 : DE := fun _ so => some (.dict [], so)
theorem pd_dict0 {X : Cx} {pos : Pos} : PD X (.Dict [] [] pos) eDict0 := pe_dnewK.imp fun σ H Q h => by
  obtain ⟨F, ow, ρ, so, d, so', r0, rs, e, k⟩ := h
  cases e
  intro p np
  have s1 : Stp [] F H (upd F p (.dK [])) (upd H p (.dK [])) := Stp.new np r0.sub
  exact k _ _ _ (r0.grow s1 (same_upd r0.sub)) s1.some_of (.dct (.nil upd_same))
/-! ### a tuple, some times -/
def dMulT : PyData → PyData → Option PyData
  | .tuple (z :: zs), .int k => if 2 ≤ k ∧ k ≤ 1000 ∧ zs.length < 1000 then some (.tuple (List.replicate k.toNat (z :: zs)).flatten) else none
  | _, _ => none
theorem od_mulT {X : Cx} : OpD X.K (rRepP X.K) dMulT := by
  intro F H x y dx dy d Q s hx hy e k
  unfold dMulT at e
  split at e
  · rename_i z zs n
    obtain ⟨hc, rfl⟩ := if_some e
    obtain ⟨a, us, rfl, ha, hus⟩ := dq_tup hx
    cases hy
    have hl := hus.length
    refine ⟨a, n, us, rfl, rfl, ha.sq s, fun z => ?_, hc.1, hc.2.1, ?_, fun p ob np pl => fresh k s np (new_tup (s.free np) pl (dqFlat hus _))⟩
    · rw [z] at hl
      simp at hl
    · rw [hl, List.length_cons]
      omega
  · cases e
/-! ### f-strings -/
def dFmt : PyData → Option PyData
  | .str y => if y.length ≤ LIMS then some (.str y) else none
  | _ => none
def eFmt (f : DE) : DE := fun ρ so => (f ρ so).bind fun p => (dFmt p.1).map fun d => (d, p.2)
def eJoins : List DE → Str → DE
  | [], acc => fun _ so => some (.str acc, so)
  | f :: fs, acc => fun ρ so => (f ρ so).bind fun p => match p.1 with
    | .str y => if (acc ++ y).length ≤ LIMS then eJoins fs (acc ++ y) ρ p.2 else none
    | _ => none
inductive PDJ (X : Cx) : List Expr → List DE → Prop where
  | nil : PDJ X [] []
  | cons {e : Expr} {f : DE} {es : List Expr} {fs : List DE} (h : PD X e f) (r : PDJ X es fs) : PDJ X (e :: es) (f :: fs)
theorem PDJ.pj {X : Cx} : ∀ {es : List Expr} {fs : List DE}, PDJ X es fs → PJ X es (fs.map (tOf X.K))
  | _, _, .nil => .nil
  | _, _, .cons h r => .cons h (PDJ.pj r)
theorem joins_ok {K : PySem.W.Frag} {σ : L2.St} {Q : Str → Hp → Prop} : ∀ (fs : List DE) (acc : Str) {F H : Hp} {ow : Ads} {ρ : Slots} {so so' : Sto} {d : PyData}, RelO K F H ow so → RelS K F ow σ ρ → eJoins fs acc ρ so = some (d, so') →
    (∀ F' H' z, d = .str z → RelO K F' H' ow so' → Stp ow F H F' H' → Q z H') → tJs (fs.map (tOf K)) acc σ H Q
  | [], acc, F, H, ow, ρ, so, so', d, r0, rs, e, k => by
    cases e
    exact k F H acc rfl r0 (Stp.refl _ _ _)
  | f :: fs, acc, F, H, ow, ρ, so, so', d, r0, rs, e, k => by
    obtain ⟨⟨d1, so1⟩, e1, e2⟩ := Option.bind_eq_some_iff.mp e
    cases d1 with
    | str y =>
      obtain ⟨hl, e3⟩ : (acc ++ y).length ≤ LIMS ∧ eJoins fs (acc ++ y) ρ so1 = some (d, so') := by
        have e2 : (if (acc ++ y).length ≤ LIMS then eJoins fs (acc ++ y) ρ so1 else none) = some (d, so') := e2
        split at e2
        · exact ⟨by assumption, e2⟩
        · cases e2
      exact ⟨F, ow, ρ, so, _, _, r0, rs, e1, fun F1 H1 v r1 s1 d1 => ⟨y, dq_str d1, Nat.le_trans hl (by decide), joins_ok fs _ r1 (rs.mono s1.fz) e3 fun F' H' z ez r' s' => k F' H' z ez r' (s1.trans s')⟩⟩
    | _ => cases e2
theorem pd_joined {X : Cx} {v1 v2 : Expr} {rest : List Expr} {fs : List DE} {pos : Pos} (h : PDJ X (v1 :: v2 :: rest) fs) : PD X (.JoinedStr (v1 :: v2 :: rest) pos) (eJoins fs Str.empty) := (pe_joined h.pj).imp fun σ H Q q => by
  obtain ⟨F, ow, ρ, so, d, so', r0, rs, e, k⟩ := q
  exact joins_ok fs _ r0 rs e fun F' H' z ez r' s' => k F' H' (.str z) r' s' (by rw [ez]; exact .str z)
/-! ### a, b = data, data where a name is a cell -/
/-! ### the calculus -/
/-- what is said where the lambda raises, and where it doesn't -/
def saidQ (tbl : Str → Option Str) (rest : Str) (h : Option (Str × Sto)) (f : Option (PyData × Sto)) (Q : PyData × Sto → Prop) : Prop := match h with
  | some r => Ev (tbl r.1) fun y => Q (.str y, r.2)
  | none => Ev f fun r => Q (.str rest, r.2)
theorem ev_eSaid {k : Nat} {x : Str} {tbl : Str → Option Str} {rest : Str} {h : DX'} {f : DE} {ρ : Slots} {so : Sto} {cq : CQ (PyData × Sto)} : @EvI _ (eSaid k x tbl rest h f ρ so) cq ↔ so[k]? = some (.x (.tb x)) ∧ saidQ tbl rest (h ρ so) (f ρ so) cq.q := by
  unfold saidQ
  by_cases hk : so[k]? = some (.x (.tb x))
  · rw [eSaid_at hk]
    cases h ρ so with
    | none =>
      show @EvI _ ((f ρ so).map fun r => (PyData.str rest, r.2)) cq ↔ _ ∧ Ev (f ρ so) fun r => cq.q (.str rest, r.2)
      rw [ev_map]
      exact ⟨fun z => ⟨hk, z⟩, fun z => z.2⟩
    | some r =>
      show @EvI _ ((tbl r.1).map fun y => (PyData.str y, r.2)) cq ↔ _ ∧ Ev (tbl r.1) fun y => cq.q (.str y, r.2)
      rw [ev_map]
      exact ⟨fun z => ⟨hk, z⟩, fun z => z.2⟩
  · rw [eSaid_no hk, ev_none]
    exact ⟨False.elim, fun z => hk z.1⟩
theorem said_no {tbl : Str → Option Str} {rest : Str} {f : Option (PyData × Sto)} {Q : PyData × Sto → Prop} : saidQ tbl rest none f Q = Ev f fun r => Q (.str rest, r.2) := rfl
theorem said_yes {tbl : Str → Option Str} {rest : Str} {f : Option (PyData × Sto)} {Q : PyData × Sto → Prop} {n : Str} {so : Sto} : saidQ tbl rest (some (n, so)) f Q = Ev (tbl n) fun y => Q (.str y, so) := rfl
theorem ev_eFmt {f : DE} {ρ : Slots} {so : Sto} {cq : CQ (PyData × Sto)} : @EvI _ (eFmt f ρ so) cq ↔ @EvI _ (f ρ so) ⟨fun p => @EvI _ ((dFmt p.1).map fun d => (d, p.2)) cq⟩ := ev_bind
end MP
namespace RL
open PySem PySem.Spec PyProof.Rows L2
end RL
namespace MP
open PySem PySem.Spec PyProof.Rows L2 RL
/-! ### what __init__ comes to: the instance's data and its first state, or what it raises -/
inductive RzO where
  | ok (at_ : List (Str × PyData)) (st : PyData)
  | ex (n : Str)
abbrev FI := List Sl → Option RzO
abbrev DSI := Slots → Sto → Option (RzO × Sto)
/-- an instance that is made, its list of states new -/
structure InsNew (K : PySem.W.Frag) (F H0 H : Hp) (a : Addr) (cls : Str) (at_ : List (Str × PyData)) (st : PyData) : Prop where
  ex : ∃ (C dx l : Addr) (fs : List (Str × V)) (v : V), H a = some (.ins C dx fs) ∧ F a = none ∧ InsK K cls C ∧ (∀ p ∈ at_, ∃ v, fs.lookup p.1 = some v ∧ Dq K F v p.2) ∧ fs.lookup ("states" : Str) = some (V.ref l) ∧ (∀ f : Str, fs.lookup f ≠ none → f = "states" ∨ f ∈ at_.map (·.1)) ∧
    H l = some (.lst [v]) ∧ F l = none ∧ l ≠ a ∧ Dq K F v st ∧ H0 l = none
def IzOk (K : PySem.W.Frag) (cls : Str) (W : Str → Hp → Prop) (F H0 H : Hp) (a : Addr) (nx : Prop) : RzO → Prop
  | .ok at_ st => InsNew K F H0 H a cls at_ st → nx
  | .ex n => W n H
theorem IzOk.old {K : PySem.W.Frag} {cls : Str} {W : Str → Hp → Prop} {F H H1 H' : Hp} {a : Addr} {nx : Prop} {r : RzO} (h : IzOk K cls W F H H' a nx r) (l : ∀ b, H b ≠ none → H1 b ≠ none) : IzOk K cls W F H1 H' a nx r := by
  cases r with
  | ok at_ st =>
    intro hn
    refine h ?_
    obtain ⟨C, dx, l2, fs, v, h1, h2, h3, h4, h5, h6, h7, h8, h9, h10, h11⟩ := hn.ex
    refine ⟨C, dx, l2, fs, v, h1, h2, h3, h4, h5, h6, h7, h8, h9, h10, ?_⟩
    cases q : H l2 with
    | none => rfl
    | some o => exact absurd h11 (l l2 (by rw [q]; exact nofun))
  | ex n => exact h
/-- the body of an __init__: the place 0 is the instance -/
def tOfSI (K : PySem.W.Frag) (cls : Str) (W : Str → Hp → Prop) (f : DSI) : L2.TS := fun D σ H => ∃ F ow ρ so r so' a, RelO K F H ow so ∧ RelS K F ow σ ρ ∧ ow[0]? = some (some a) ∧ f ρ so = some (r, so') ∧
  ∀ F' H', Same F' H' → Stp ow F H F' H' → IzOk K cls W F' H H' a (∀ σ', D.nx σ' H') r
abbrev PDSI (X : Cx) (cls : Str) (W : Str → Hp → Prop) (st : List Stmt) (f : DSI) : Prop := PSs X st (tOfSI X.K cls W f)
def iSeq0 (f : DS) (g : DSI) : DSI := fun ρ so => (f ρ so).bind fun q => match q.1 with
  | .nx ρ1 => g ρ1 q.2
  | .ex n => some (.ex n, q.2)
  | _ => none
/-- self.states = [e], the last thing -/
def iLastGo (cls : Str) (d : PyData) (so : Sto) : Option (RzO × Sto) := match so[(0 : Nat)]? with
  | some (.x (.ob c at_)) => if c = cls ∧ at_.length < 900 ∧ (∀ p ∈ at_, p.1 ≠ ("states" : Str)) ∧ (at_.map (·.1)).Nodup then some (.ok at_ d, so) else none
  | _ => none
def iLast (i : Nat) (cls : Str) (f : DE) : DSI := fun ρ so => (f ρ so).bind fun p => match ρ[i]? with
  | some (some (.x (.n 0))) => iLastGo cls p.1 p.2
  | _ => none
/-- self.f = e, e data -/
def putD (f : Str) (d : PyData) : List (Str × PyData) → List (Str × PyData)
  | [] => [(f, d)]
  | (g, x) :: r => if g = f then (g, d) :: r else (g, x) :: putD f d r
def sAttr (i : Nat) (f : Str) (e : DE) : DS := fun ρ so => (e ρ so).bind fun p => match ρ[i]? with
  | some (some (.x (.n k))) => match p.2[k]? with
    | some (.x (.ob cls at_)) => if at_.length < 900 ∧ f ∈ (["attributes", "states", "limit"] : List Str) then some (.nx ρ, p.2.set k (.x (.ob cls (putD f p.1 at_)))) else none
    | _ => none
  | _ => none
section
variable {K : PySem.W.Frag}
theorem at_put {F : Hp} {f : Str} {v : V} {d : PyData} (h : Dq K F v d) : ∀ {fs : List (Str × V)} {at_ : List (Str × PyData)}, AtOk K F fs at_ → AtOk K F (putF f v fs) (putD f d at_)
  | _, _, .nil => .cons ⟨rfl, h⟩ .nil
  | (g, x) :: r, (g', y) :: t, .cons hx ht => by
    have e : g = g' := hx.1
    subst e
    show AtOk K F (if g = f then (g, v) :: r else (g, x) :: putF f v r) (if g = f then (g, d) :: t else (g, y) :: putD f d t)
    by_cases hg : g = f
    · rw [if_pos hg, if_pos hg]
      exact .cons ⟨rfl, h⟩ ht
    · rw [if_neg hg, if_neg hg]
      exact .cons hx (at_put h ht)
theorem AtOk.len {F : Hp} : ∀ {fs : List (Str × V)} {at_ : List (Str × PyData)}, AtOk K F fs at_ → fs.length = at_.length
  | _, _, .nil => rfl
  | _ :: _, _ :: _, .cons _ t => congrArg (· + 1) (AtOk.len t)
theorem AtOk.names {F : Hp} : ∀ {fs : List (Str × V)} {at_ : List (Str × PyData)}, AtOk K F fs at_ → ∀ f : Str, fs.lookup f ≠ none → f ∈ at_.map (·.1)
  | _, _, .nil, f, h => absurd rfl h
  | (g, x) :: r, (g', y) :: t, .cons hx ht, f, h => by
    have e : g = g' := hx.1
    subst e
    by_cases hf : f = g
    · subst hf
      exact .head _
    · refine .tail _ (AtOk.names ht f ?_)
      rwa [List.lookup_cons, beq_eq_false_iff_ne.mpr hf] at h
theorem AtOk.get {F : Hp} : ∀ {fs : List (Str × V)} {at_ : List (Str × PyData)}, AtOk K F fs at_ → (at_.map (·.1)).Nodup → ∀ p ∈ at_, ∃ v, fs.lookup p.1 = some v ∧ Dq K F v p.2
  | _, _, .nil, _, p, h => by cases h
  | (g, x) :: r, (g', y) :: t, .cons hx ht, nd, p, h => by
    have e : g = g' := hx.1
    subst e
    rcases List.mem_cons.mp h with rfl | h
    · exact ⟨x, by rw [List.lookup_cons, beq_self_eq_true], hx.2⟩
    · have nd' := List.nodup_cons.mp nd
      obtain ⟨v, e1, e2⟩ := AtOk.get ht nd'.2 p h
      refine ⟨v, ?_, e2⟩
      have ne : p.1 ≠ g := fun z => nd'.1 (by rw [← z]; exact List.mem_map.mpr ⟨p, h, rfl⟩)
      rw [List.lookup_cons, beq_eq_false_iff_ne.mpr ne]
      exact e1
theorem tOf_attr {p : Nat} {W : Str → Hp → Prop} {i : Nat} {f : Str} {e : DE} (D : Ends) (σ : L2.St) (H : Hp) (h : tOfS K p W (sAttr i f e) D σ H) : sFld K (tVar i) (tOf K e) f D σ H := by
  obtain ⟨F, ow, ρ, so, fl, so', r0, rs, e0, k⟩ := h
  obtain ⟨⟨d, so1⟩, e1, e2⟩ := Option.bind_eq_some_iff.mp e0
  split at e2
  · rename_i j hj
    split at e2
    · rename_i cls at_ hs
      obtain ⟨hc, e3⟩ := if_some e2
      cases e3
      refine ⟨F, ow, ρ, so, d, so1, r0, rs, e1, fun F1 H1 v r1 s1 d1 => ?_⟩
      obtain ⟨u, hu, q⟩ := rs.get hj
      have q : SxOk K F ow u (.n j) := q
      cases q with
      | n ha =>
        rename_i a
        obtain ⟨fa, o, ho, C, dx, fs, rfl, hK, hA⟩ := r1.own j _ _ ha hs
        obtain ⟨p1, p2⟩ := relO_putW r1 ha hs fa (o := .ins C dx (putF f v fs)) (w' := .x (.ob cls (putD f d at_))) ⟨fa, _, upd_same, C, dx, _, rfl, hK, at_put d1 hA⟩
        have hm : some a ∈ ow := List.mem_of_getElem? ha
        have hm2 : ∀ b o, some b ∉ ow → H1 b = some o → upd H1 a (.ins C dx (putF f v fs)) b = some o := fun b o nb hb => by
          rw [upd_ne (fun z => nb (by rw [z]; exact hm))]
          exact hb
        exact ⟨_, hu, a, C, dx, fs, rfl, ho, hK.cl, hK.na f hc.2, by rw [hA.len]; omega, k F1 _ ow p1 (s1.trans p2) (OwTo.refl _ _ _) σ (rs.mono s1.fz)⟩
    · cases e2
  · cases e2
end
section
variable {X : Cx} {i : Nat} {y cls : Str} {p1 p2 p3 pos : Pos} {st : Stmt} {rest : List Stmt} {f : DS} {g : DSI} {W : Str → Hp → Prop}
theorem pdsi_cons (h1 : PDS X 1 W st f) (h2 : PDSI X cls W rest g) : PDSI X cls W (st :: rest) (iSeq0 f g) :=
  (pss_cons h1 h2).imp fun D σ H ⟨F, ow, ρ, so, r, so', a, r0, rs, ha, e, kk⟩ => by
    obtain ⟨⟨fl1, so1⟩, e1, e2⟩ := Option.bind_eq_some_iff.mp e
    refine ⟨F, ow, ρ, so, fl1, so1, r0, rs, e1, fun F1 H1 ow1 r1 s1 t1 => ?_⟩
    have at0 : ow1[0]? = ow[0]? := by
      rcases t1.2 0 with z | ⟨z, _⟩
      · exact z
      · omega
    cases fl1 with
    | nx ρ1 => exact fun σ1 rs1 => ⟨F1, ow1, ρ1, so1, r, so', a, r1, rs1, by rw [at0]; exact ha, e2, fun F2 H2 sF s2 => (kk F2 H2 sF (s1.next t1 s2)).old s1.live⟩
    | ex n =>
      cases e2
      exact kk F1 H1 r1.sub s1
    | _ => cases e2
theorem pds_attr {p : Nat} {f : Str} {e : Expr} {fe : DE} (hN : X.N[i]? = some y) (hv : Vis X.env.scope y) (he : PD X e fe) (hd : (y == ("__debug__" : Str)) = false := by decide) (hcd : (y == ("__classdict__" : Str)) = false := by decide)
    (hs : swapsWith e (some (.Attribute (.Name y p1) f p2)) pos.line X.env = pure false := by rfl) : PDS X p W (.Assign [.Attribute (.Name y p1) f p2] e pos) (sAttr i f fe) := (ps_fld (pe_var hN hv hd hcd) he hs).imp tOf_attr
theorem pdsi_last {e : Expr} {fe : DE} (hN : X.N[i]? = some y) (hv : Vis X.env.scope y) (he : PD X e fe) (hd : (y == ("__debug__" : Str)) = false := by decide) (hcd : (y == ("__classdict__" : Str)) = false := by decide)
    (hs : swapsWith (.List [e] p3) (some (.Attribute (.Name y p1) "states" p2)) pos.line X.env = pure false := by rfl)
    (hst : starEach [e] X.env = (false, eval e X.env) :: starEach [] X.env := by rfl) : PDSI X cls W [.Assign [.Attribute (.Name y p1) "states" p2] (.List [e] p3) pos] (iLast i cls fe) := by
  refine (pss_one (ps_fld (pe_var hN hv hd hcd) (pdn_lst (pda_cons he pda_nil hst)) hs)).imp fun D σ H ⟨F, ow, ρ, so, r, so', a, r0, rs, ha, e, kk⟩ => ?_
  obtain ⟨⟨d, so1⟩, e1, e2⟩ := Option.bind_eq_some_iff.mp e
  split at e2
  · rename_i hj
    have e2 : iLastGo cls d so1 = some (r, so') := e2
    unfold iLastGo at e2
    split at e2
    · rename_i c at_ hs0
      obtain ⟨⟨rfl, hc2, hc3, hc4⟩, e3⟩ := if_some e2
      cases e3
      have e4 : nLst (aCons fe aNil) ρ so = some ([d], so') := by
        unfold nLst aCons aNil
        rw [e1]
        rfl
      refine ⟨F, ow, ρ, so, [d], so', r0, rs, e4, fun F1 H1 l vs r1 s1 n0 f1 h1 d1 => ?_⟩
      obtain ⟨u, hu, q⟩ := rs.get hj
      have q : SxOk X.K F ow u (.n 0) := q
      cases q with
      | n ha' =>
        rw [ha] at ha'
        cases ha'
        obtain ⟨fa, o, ho, C, dx, fs, rfl, hK, hA⟩ := r1.own 0 _ _ ha hs0
        have hm : some a ∈ ow := List.mem_of_getElem? ha
        have ne : l ≠ a := fun z => r0.old 0 a ha (by rw [← z]; exact n0)
        cases d1 with
        | cons dv dn =>
          cases dn
          refine ⟨_, hu, a, C, dx, fs, rfl, ho, hK.cl, hK.na _ (.tail _ (.head _)), by rw [hA.len]; omega, ?_⟩
          refine kk F1 _ (fun b o hb => ?_) (s1.trans ⟨Same.refl _, fun b o nb hb => ?_, fun _ _ _ _ h => h, fun b h => live_upd h⟩) ⟨C, dx, l, _, _, upd_same, fa, hK, fun p hp => ?_, ?_, fun f hf => ?_, by rw [upd_ne ne]; exact h1, f1, ne, dv, n0⟩ σ
          · rw [upd_ne (fun z => by rw [z, fa] at hb; cases hb)]
            exact r1.sub b o hb
          · rw [upd_ne (fun z => nb (by rw [z]; exact hm))]
            exact hb
          · obtain ⟨v, e5, e6⟩ := hA.get hc4 p hp
            exact ⟨v, by rw [lookup_putF, if_neg (hc3 p hp)]; exact e5, e6⟩
          · rw [lookup_putF, if_pos rfl]
          · rw [lookup_putF] at hf
            by_cases hfs : f = "states"
            · exact .inl hfs
            · rw [if_neg hfs] at hf
              exact .inr (hA.names f hf)
    · cases e2
  · cases e2
end
/-! ### the promise of an __init__ -/
def spI0 (K : PySem.W.Frag) (mg : Str → Option Value) (cls : Str) (n : Nat) (G : FI) : Sp := fun vs H Q E => ∃ a us C dx F ds r, vs = .ref a :: us ∧ us.length = n ∧ H a = some (.ins C dx []) ∧ InsK K cls C ∧ Same F H ∧ F a = none ∧ DqAll K F us ds ∧ G (ds.map Sl.d) = some r ∧
  ∀ F' H', Same F' H' → Stp [some a] F H F' H' → IzOk K cls (WEx mg E) F' H H' a (Q .non H') r
def spI (K : PySem.W.Frag) (mg : Str → Option Value) (cls : Str) (cv : List PyData → Option (List PyData)) (G : FI) : Sp := fun vs H Q E => ∃ a us C dx F ds as r, vs = .ref a :: us ∧ H a = some (.ins C dx []) ∧ InsK K cls C ∧ Same F H ∧ F a = none ∧ DqAll K F us ds ∧ cv ds = some as ∧ G (as.map Sl.d) = some r ∧
  ∀ F' H', Same F' H' → Stp [some a] F H F' H' → IzOk K cls (WEx mg E) F' H H' a (Q .non H') r
def fDefI (cls : Str) (n m q : Nat) (f : DSI) : FI := fun as => if as.length = n then (f (some (.x (.n 0)) :: (as.map some ++ List.replicate (m - (n + 1)) none)) (.x (.ob cls []) :: List.replicate q .no)).map (·.1) else none
theorem relS_nones {K : PySem.W.Frag} {F : Hp} {ow : Ads} {σ : L2.St} {ρ : Slots} (r : RelS K F ow σ ρ) (k : Nat) : RelS K F ow (σ ++ List.replicate k none) (ρ ++ List.replicate k none) := by
  refine ⟨by rw [List.length_append, List.length_append, r.len, List.length_replicate, List.length_replicate], fun i v s hv hs => ?_⟩
  by_cases hi : i < ρ.length
  · rw [List.getElem?_append_left (by rw [r.len]; exact hi)] at hv
    rw [List.getElem?_append_left hi] at hs
    exact r.ats i v s hv hs
  · rw [List.getElem?_append_right (by omega), List.getElem?_replicate] at hs
    split at hs
    · cases hs; trivial
    · cases hs
theorem body_ofI {K : PySem.W.Frag} {mg : Str → Option Value} {N : List Str} {cls : Str} {n q : Nat} {f : DSI} (vs : List V) (H : Hp) (Q : VK) (E : XK) (h : spI0 K mg cls n (fDefI cls n N.length q f) vs H Q E) : tOfSI K cls (WEx mg E) f { nx := fun _ H' => Q .non H', rt := Q } (L2.start N vs) H := by
  obtain ⟨a, us, C, dx, F, ds, r, rfl, hn, hH, hK, sF, fa, hd, e, k⟩ := h
  have ld : ds.length = n := by rw [← hd.len]; exact hn
  have e : (if (ds.map Sl.d).length = n then (f (some (.x (.n 0)) :: ((ds.map Sl.d).map some ++ List.replicate (N.length - (n + 1)) none)) (.x (.ob cls []) :: List.replicate q .no)).map (·.1) else none) = some r := e
  rw [if_pos (by rw [List.length_map]; exact ld)] at e
  obtain ⟨⟨r', so'⟩, e1, e2⟩ := Option.map_eq_some_iff.mp e
  cases e2
  have nn : ∀ b : Addr, some b ∈ (some a :: List.replicate q none : Ads) ↔ some b ∈ ([some a] : Ads) := fun b => by
    rw [List.mem_cons, List.mem_singleton, List.mem_replicate]
    constructor
    · rintro (h | h)
      · exact h
      · cases h.2
    · exact .inl
  have get1 : ∀ {m : Nat} {b : Addr}, (some a :: List.replicate q none : Ads)[m]? = some (some b) → m = 0 ∧ b = a := fun {m b} h => by
    cases m with
    | zero => cases h; exact ⟨rfl, rfl⟩
    | succ m =>
      rw [List.getElem?_cons_succ, List.getElem?_replicate] at h
      split at h <;> cases h
  have r0 : RelO K F H (some a :: List.replicate q none) (.x (.ob cls []) :: List.replicate q .no) := by
    refine ⟨sF, by simp, fun m b w hb hw => ?_, fun i j b hi hj => (get1 hi).1.trans (get1 hj).1.symm, fun m b hb => ?_⟩
    · cases m with
      | zero =>
        cases hb
        cases hw
        exact ⟨fa, _, hH, C, dx, [], rfl, hK, .nil⟩
      | succ m =>
        rw [List.getElem?_cons_succ, List.getElem?_replicate] at hw
        split at hw
        · cases hw
          cases b <;> trivial
        · cases hw
    · rw [(get1 hb).2, hH]
      exact nofun
  have rs : RelS K F (some a :: List.replicate q none) (L2.start N (.ref a :: us)) (some (.x (.n 0)) :: ((ds.map Sl.d).map some ++ List.replicate (N.length - (n + 1)) none)) := by
    have e3 : L2.start N (.ref a :: us) = some (V.ref a) :: (us.map some ++ List.replicate (N.length - (n + 1)) none) := by
      unfold L2.start
      rw [List.length_cons, hn]
      rfl
    rw [e3]
    exact relS_cons (SxOk.n rfl) (relS_nones (relS_args hd) _)
  exact ⟨F, _, _, _, r', so', a, r0, rs, rfl, e1, fun F' H' sF' s' => by
    have z := k F' H' sF' ⟨s'.fz, fun b o nb h => s'.keep b o (fun z => nb ((nn b).mp z)) h, fun b o nb h => s'.own b o (fun z => nb ((nn b).mp z)) h, s'.live⟩
    cases r' with
    | ok at_ st => exact fun hi σ' => z hi
    | ex m => exact z⟩
structure CalI (P : Program) (w : World) (K : PySem.W.Frag) (mg : Str → Option Value) (base : Heap) (k : Nat) (cls : Str) (cv : List PyData → Option (List PyData)) (G : FI) : Prop where
  ex : ∃ (C f : Addr), L2.Mk K C f ∧ mg cls = some (.ref C) ∧ InsK K cls C ∧ FnR P w K mg base (L2.CX P w) k f (spI K mg cls cv G)
/-- a class with its own __init__, as it stands in the module -/
structure ClsD (K : PySem.W.Frag) (mg : Str → Option Value) (cls : Str) (f : Addr) : Prop where
  ex : ∃ C : Addr, L2.Mk K C f ∧ mg cls = some (.ref C) ∧ InsK K cls C
/-- self, one thing, *others -/
def cvStar : List PyData → Option (List PyData)
  | d :: r => if r.length ≤ LIM then some [d, .tuple r] else none
  | _ => none
/-- self, one thing, and one with a default of None -/
def cvDef : List PyData → Option (List PyData)
  | [d] => some [d, .none]
  | [d, t] => some [d, t]
  | _ => none
section
variable {P : Program} {w : World} {K : PySem.W.Frag} {mg : Str → Option Value} {base : Heap} {cls qual : Str} {st : Stmt} {N : List Str} {k q : Nat} {f : DSI} {y1 y2 y3 : Str}
theorem mk_initD {f0 : Addr} {fd : FuncData} (D : ClsD K mg cls f0) (F : FunD K "__init__" qual (defArgs st) (defBody st) (defScope st) [V.non] [] f0 fd) (S : FnScope N [y1, y2, y3] (defScope st))
    (h1 : ∀ (T : Addr) (kV doc pm : Value) (an : Option Addr) (cdv ct : Value) (us its : List Value), us.length = 2 → its.length = 1 →
      ∃ k, bindArgs (PySem.W.fnOf "__init__" qual (defArgs st) (defBody st) (defScope st) (.ref T) kV doc pm an cdv ct) ⟨us, []⟩ = seqItems? (.ref T) >>= k ∧ k (some its.toArray) = pure ([y1, y2, y3].zip (us ++ its.drop 0)))
    (h2 : ∀ (T : Addr) (kV doc pm : Value) (an : Option Addr) (cdv ct : Value) (us its : List Value), us.length = 3 → its.length = 1 →
      ∃ k, bindArgs (PySem.W.fnOf "__init__" qual (defArgs st) (defBody st) (defScope st) (.ref T) kV doc pm an cdv ct) ⟨us, []⟩ = seqItems? (.ref T) >>= k ∧ k (some its.toArray) = pure ([y1, y2, y3].zip (us ++ its.drop 1)))
    (h : ∀ (cdv : Value) (A : Around) (outer : List Env) (s : Shared) (H : Hp) (E : XK), Room k (A.deeper (envOfC qual (defScope st) s.heap.objs.size f0 cdv)) →
      PDSI (cxOf (L2.CX P w) P w K mg base N qual (defScope st) f0 cdv A outer s H E) cls (WEx mg E) (defBody st) f) :
    CalI P w K mg base (k + 1) cls cvDef (fDefI cls 2 N.length q f) := by
  obtain ⟨C, M, hm, hK⟩ := D.ex
  obtain ⟨ds1, v1, b1⟩ := F.binds1 (ps := [y1, y2, y3]) 2 0 (by simp) rfl h1
  obtain ⟨ds2, v2, b2⟩ := F.binds1 (ps := [y1, y2, y3]) 3 1 (by simp) rfl h2
  have ok : FnOk P w K mg base (L2.CX P w) (k + 1) f0 fd [y1, y2, y3] (spI0 K mg cls 2 (fDefI cls 2 N.length q f)) :=
    F.ok S (fun vs H Q E ⟨a, us, _, _, _, _, _, e, hl, _⟩ => by rw [e, List.length_cons, hl]; rfl) fun cdv A outer s H vs Q E hr hsp => ⟨_, h cdv A outer s H E hr, body_ofI vs H Q E hsp⟩
  refine ⟨C, f0, M, hm, hK, fun A outer s H us vs Q E hr e0 r hsp => ?_⟩
  obtain ⟨a, us', C', dx, F0, ds, as, rr, rfl, hH, hK', sF, fa, hd, hc, e, kk⟩ := hsp
  match ds, hc with
  | [d], hc =>
    cases hc
    cases hd with
    | cons hu hn =>
      cases hn
      exact ok.raw b1 v1 A outer s H us _ Q E hr e0 r ⟨a, _, C', dx, F0, [d, .none], rr, rfl, rfl, hH, hK', sF, fa, .cons hu (.cons .non .nil), e, kk⟩
  | [d, t], hc =>
    cases hc
    cases hd with
    | cons hu hn =>
      cases hn with
      | cons hu2 hn =>
        cases hn
        exact ok.raw b2 v2 A outer s H us _ Q E hr e0 r ⟨a, _, C', dx, F0, [d, t], rr, rfl, rfl, hH, hK', sF, fa, .cons hu (.cons hu2 .nil), e, kk⟩
end
/-! ### an instance made, and frozen at once -/
def atD (at_ : List (Str × PyData)) : List (PyData × PyData) := at_.map fun p => (.str p.1, p.2)
/-- an instance as data: its class's name, its states, its attributes -/
def insD (cls : Str) (at_ : List (Str × PyData)) (ds : List PyData) : PyData := .dict ((.str cls, .list ds) :: atD at_)
theorem dqAt_of {K : PySem.W.Frag} {F : Hp} {fs : List (Str × V)} : ∀ {at_ : List (Str × PyData)}, (∀ p ∈ at_, ∃ v, fs.lookup p.1 = some v ∧ Dq K F v p.2) → DqAt K F fs (atD at_)
  | [], _ => .nil
  | p :: r, h => by
    obtain ⟨v, h1, h2⟩ := h p (.head _)
    exact .cons h1 h2 (dqAt_of fun q hq => h q (.tail _ hq))
theorem InsAt.odd {K : PySem.W.Frag} {F : Hp} {x l : Addr} {cls : Str} {at_ : List (Str × PyData)} {xs : List V} {ds : List PyData} (h : InsAt K F x l cls at_) (hl : F l = some (.lst xs)) (hd : DqAll K F xs ds) : Dq K F (.ref x) (insD cls at_ ds) := by
  obtain ⟨C, dx, fs, h1, h2, h3, h4, h5⟩ := h.ex
  refine .dct (.ins h1 h2 h4 hl hd (dqAt_of h3) fun f hf => ?_)
  rcases h5 f hf with z | z
  · exact .inl z
  · refine .inr ?_
    obtain ⟨p, hp, e⟩ := List.mem_map.mp z
    unfold atD
    rw [List.map_map]
    exact List.mem_map.mpr ⟨p, hp, by rw [← e]; rfl⟩
/-- a new list is frozen -/
theorem relO_fzNew {K : PySem.W.Frag} {F1 H1 : Hp} {ow : Ads} {so1 : Sto} {a : Addr} {vs : List V} (r1 : RelO K F1 H1 ow so1) (f1 : F1 a = none) (h1 : H1 a = some (.lst vs)) (nab : ∀ (j : Nat) (b : Addr), ow[j]? = some (some b) → b ≠ a) : RelO K (upd F1 a (.lst vs)) H1 ow so1 := by
  have s2 : Same F1 (upd F1 a (.lst vs)) := same_new f1
  refine ⟨fun b o hb => ?_, r1.len, fun j b w hb hw => ?_, r1.inj, r1.old⟩
  · by_cases e : b = a
    · subst e
      rw [upd_same] at hb
      cases hb
      exact h1
    · rw [upd_ne e] at hb
      exact r1.sub b o hb
  · have q := r1.own j b w hb hw
    cases b with
    | none => cases w <;> first | trivial | exact q.elim
    | some b =>
      have nb : b ≠ a := nab j b hb
      cases w with
      | no => trivial
      | lst es =>
        obtain ⟨fb, us, hu, hd2⟩ := q
        exact ⟨by rw [upd_ne nb]; exact fb, us, hu, dqAll_same s2 es us hd2⟩
      | dct es =>
        obtain ⟨fb, us, hu, hd2⟩ := q
        exact ⟨by rw [upd_ne nb]; exact fb, us, hu, dct_same s2 hd2⟩
      | x t0 =>
        obtain ⟨fb, us, hu, hd2⟩ := q
        exact ⟨by rw [upd_ne nb]; exact fb, us, hu, xt_same s2 hd2⟩
      | fz d => exact ⟨q.1, dq_same s2 d _ q.2⟩
def makeI (cv : List PyData → Option (List PyData)) (G : FI) (g : DL) (ρ : Slots) (so : Sto) : Option (RzO × Sto) := (g ρ so).bind fun p => (cv p.1).bind fun as => (G (as.map Sl.d)).map fun r => (r, p.2)
def fMk (cls : Str) (cv : List PyData → Option (List PyData)) (G : FI) (g : DL) : DE := fun ρ so => (makeI cv G g ρ so).bind fun r => match r.1 with
  | .ok at_ st => some (insD cls at_ [st], r.2)
  | .ex _ => none
def xMk (cv : List PyData → Option (List PyData)) (G : FI) (g : DL) : DX' := fun ρ so => (makeI cv G g ρ so).bind fun r => match r.1 with
  | .ok _ _ => none
  | .ex n => some (n, r.2)
/-- what the making is asked for -/
def MkOk (K : PySem.W.Frag) (mg : Str → Option Value) (cls : Str) (E : XK) (F H : Hp) (ow : Ads) (so1 : Sto) (Q : VK) : RzO → Prop
  | .ok at_ st => ∀ F' H' x l v, RelO K F' H' ow so1 → Stp ow F H F' H' → InsAt K F' x l cls at_ → H' l = some (.lst [v]) → F' l = none → H l = none → Dq K F' v st → Q (.ref x) H'
  | .ex n => ∀ F' H', RelO K F' H' ow so1 → Stp ow F H F' H' → WEx mg E n H'
theorem tOf_makeI {K : PySem.W.Frag} {mg : Str → Option Value} {cls : Str} {cv : List PyData → Option (List PyData)} {G : FI} {g : DL} {C : Addr} {E : XK} {Q : VK} {σ : L2.St} {F H : Hp} {ow : Ads} {ρ : Slots} {so so1 : Sto} {r : RzO} (hK : InsK K cls C)
    (r0 : RelO K F H ow so) (rs : RelS K F ow σ ρ) (e : makeI cv G g ρ so = some (r, so1)) (kk : MkOk K mg cls E F H ow so1 Q r) : StX.tMakeR C (spI K mg cls cv G) E (tOfA K g) σ H Q := by
  obtain ⟨⟨ds, so2⟩, e1, e2⟩ := Option.bind_eq_some_iff.mp e
  obtain ⟨as, e3, e4⟩ := Option.bind_eq_some_iff.mp e2
  obtain ⟨r', e5, e6⟩ := Option.map_eq_some_iff.mp e4
  cases e6
  refine ⟨F, ow, ρ, so, ds, _, r0, rs, e1, fun F1 H1 vs r1 s1 d1 => fun x dx nx ndx ne => ?_⟩
  let H2 : Hp := upd (upd H1 dx (.own x)) x (.ins C dx [])
  have f1x : F1 x = none := r1.sub.free nx
  have at2 : ∀ b o, H1 b = some o → H2 b = some o := fun b o hb => by
    show upd (upd H1 dx (.own x)) x (.ins C dx []) b = some o
    rw [upd_ne (ne_of_none hb nx), upd_ne (ne_of_none hb ndx)]
    exact hb
  have live2 : ∀ b, H1 b ≠ none → H2 b ≠ none := fun b hb => live_upd (live_upd hb)
  refine ⟨x, vs, C, dx, F1, ds, as, r, rfl, upd_same, hK, fun b o hb => at2 b o (r1.sub b o hb), f1x, d1, e3, e5, fun F' H' sF' s' => ?_⟩
  cases r with
  | ok at_ st =>
    intro hn
    refine ⟨rfl, ?_⟩
    obtain ⟨C', dx', l, fs, v, h1, h2, h3, h4, h5, h6, h7, h8, h9, h10, h11⟩ := hn.ex
    let F2 : Hp := upd F' x (.ins C' dx' fs)
    have sF2 : Same F' F2 := same_new h2
    have f2 : ∀ b, b ≠ x → F2 b = F' b := fun b hb => upd_ne hb
    have sH : Same F2 H' := fun b o hb => by
      by_cases hbx : b = x
      · subst hbx
        have z : F2 b = some (.ins C' dx' fs) := upd_same
        rw [z] at hb
        cases hb
        exact h1
      · rw [f2 b hbx] at hb
        exact sF' b o hb
    have sT : Stp [] F1 H1 F2 H' := by
      refine ⟨s'.fz.trans sF2, fun b o _ hb => s'.keep b o (fun z => ?_) (at2 b o hb), fun b o _ hb fb => ?_, fun b hb => s'.live b (live2 b hb)⟩
      · rw [List.mem_singleton] at z
        cases z
        rw [nx] at hb
        cases hb
      · have hbx : b ≠ x := ne_of_none hb nx
        rw [f2 b hbx]
        exact s'.own b o (fun z => hbx (by rw [List.mem_singleton] at z; exact Option.some.inj z)) (at2 b o hb) fb
    refine kk F2 H' x l v (r1.grow sT sH) (s1.trans sT.some_of) ⟨C', dx', fs, upd_same, h3, fun p hp => ?_, h5, h6⟩ h7 (by rw [f2 l h9]; exact h8) ?_ (dq_same sF2 _ _ h10)
    · obtain ⟨u, g1, g2⟩ := h4 p hp
      exact ⟨u, g1, dq_same sF2 _ _ g2⟩
    · cases q : H l with
      | none => rfl
      | some o =>
        have : H1 l ≠ none := s1.live l (by rw [q]; exact nofun)
        exact absurd h11 (live2 l this)
  | ex n =>
    have sT : Stp [] F1 H1 F' H' := by
      refine ⟨s'.fz, fun b o _ hb => s'.keep b o (fun z => ?_) (at2 b o hb), fun b o _ hb fb => s'.own b o (fun z => ?_) (at2 b o hb) fb, fun b hb => s'.live b (live2 b hb)⟩
      · rw [List.mem_singleton] at z
        cases z
        rw [nx] at hb
        cases hb
      · rw [List.mem_singleton] at z
        cases z
        rw [nx] at hb
        cases hb
    exact kk F' H' (r1.grow sT sF') (s1.trans sT.some_of)
section
variable {X : Cx} {k j : Nat} {cls : Str} {cv : List PyData → Option (List PyData)} {G : FI} {g : DL} {E : XK} {e : Expr} {es : List Expr} {pc pos : Pos}
theorem pd_make (tk : Lets X E) (c : CalI X.prog X.w X.K X.mg X.base k cls cv G) (hr : Room j X.A) (hk : k + 1 ≤ j) (hg : Gl X cls) (ha : PDA X (e :: es) g)
    (hdb : (cls == ("__debug__" : Str)) = false := by decide) (he : starEach (e :: es) X.env = (false, eval e X.env) :: starEach es X.env := by rfl) (hpl : (backTo pos (starEach es X.env)).any (·.1) = false := by rfl) :
    PD X (.Call (.Name cls pc) (e :: es) [] pos) (fMk cls cv G g) := by
  obtain ⟨C, f, M, hm, hK, F⟩ := c.ex
  refine (StX.pe_makeR M F (hr.mono hk) hg hm (lets_pass tk) ha hdb he hpl).imp fun σ H Q h => ?_
  obtain ⟨F0, ow, ρ, so, d, so', r0, rs, e0, kk⟩ := h
  obtain ⟨⟨r, so1⟩, e1, e2⟩ := Option.bind_eq_some_iff.mp e0
  refine tOf_makeI (r := r) hK r0 rs e1 ?_
  cases r with
  | ok at_ st =>
    cases e2
    intro F' H' x l v r' s' hi hl fl nl dv
    have s2 : Same F' (upd F' l (.lst [v])) := same_new fl
    refine kk (upd F' l (.lst [v])) H' _ (relO_fzNew r' fl hl fun j b hb z => (r0.old j b hb) (by rw [z]; exact nl)) ⟨s'.fz.trans s2, s'.keep, fun b o nb hb fb => ?_, s'.live⟩ ((hi.same s2).odd upd_same (.cons (dq_same s2 _ _ dv) .nil))
    rw [upd_ne (ne_of_none hb nl)]
    exact s'.own b o nb hb fb
  | ex n => cases e2
theorem px_make {E : XK} (tk : Lets X E) (c : CalI X.prog X.w X.K X.mg X.base k cls cv G) (hr : Room j X.A) (hk : k + 1 ≤ j) (hg : Gl X cls) (ha : PDA X (e :: es) g)
    (hdb : (cls == ("__debug__" : Str)) = false := by decide) (he : starEach (e :: es) X.env = (false, eval e X.env) :: starEach es X.env := by rfl) (hpl : (backTo pos (starEach es X.env)).any (·.1) = false := by rfl) :
    PE X (.Call (.Name cls pc) (e :: es) [] pos) (tEx X.K X.mg E (xMk cv G g)) := by
  obtain ⟨C, f, M, hm, hK, F⟩ := c.ex
  refine (StX.pe_makeR M F (hr.mono hk) hg hm (lets_pass tk) ha hdb he hpl).imp fun σ H Q h => ?_
  obtain ⟨F0, ow, ρ, so, n, so', r0, rs, e0, kk⟩ := h
  obtain ⟨⟨r, so1⟩, e1, e2⟩ := Option.bind_eq_some_iff.mp e0
  refine tOf_makeI (r := r) hK r0 rs e1 ?_
  cases r with
  | ok at_ st => cases e2
  | ex m =>
    cases e2
    exact fun F' H' r' s' => kk F' H' r' s'
end
/-! ### self.m(..) while the instance is being made, m a method that doesn't look at it -/
structure CalM (P : Program) (w : World) (K : PySem.W.Frag) (mg : Str → Option Value) (base : Heap) (k : Nat) (cls m : Str) (n : Nat) (G : FD) : Prop where
  ex : ∃ (C f : Addr) (fd : FuncData) (ps : List Str), InsK K cls C ∧ Meth K C m f ∧ FnOk P w K mg base CX0 k f fd ps (spF K n G) ∧ Binds K fd ps []
def eMethU (i : Nat) (cls m : Str) (G : FD) (g : DL) : DE := fun ρ so => match ρ[i]? with
  | some (some (.x (.n k))) => match so[k]? with
    | some (.x (.ob c at_)) => if c = cls ∧ (∀ p ∈ at_, p.1 ≠ m) then (g ρ so).bind fun p => (G (.x .u :: p.1.map .d) []).map fun r => (r.1, p.2) else none
    | _ => none
  | _ => none
theorem AtOk.no {K : PySem.W.Frag} {F : Hp} {f : Str} : ∀ {fs : List (Str × V)} {at_ : List (Str × PyData)}, AtOk K F fs at_ → (∀ p ∈ at_, p.1 ≠ f) → fs.lookup f = none
  | _, _, .nil, _ => rfl
  | (g, x) :: r, (g', y) :: t, .cons hx ht, h => by
    have e : g = g' := hx.1
    subst e
    have h1 : g ≠ f := h _ (.head _)
    rw [List.lookup_cons, beq_eq_false_iff_ne.mpr (Ne.symm h1)]
    exact AtOk.no ht fun p hp => h p (.tail _ hp)
/-! ### methods that don't look at the instance -/
theorem mk_calM {P : Program} {w : World} {K : PySem.W.Frag} {mg : Str → Option Value} {base : Heap} {C f0 : Addr} {fd : FuncData} {cls m qual : Str} {st : Stmt} {N ps : List Str} {k n p q : Nat} {f : DS} {W : Str → Hp → Prop} (hK : InsK K cls C) (M : L2.Meth K C m f0) (F : Fun K m qual st f0 fd)
    (S : FnScope N ps (defScope st)) (hn : ps.length = n)
    (hb : ∀ (kV doc pm : Value) (an : Option Addr) (cdv ct : Value) (us : List Value), us.length = ps.length → bindArgs (PySem.W.fnOf m qual (defArgs st) (defBody st) (defScope st) .none kV doc pm an cdv ct) ⟨us, []⟩ = pure (ps.zip us))
    (h : ∀ (cdv : Value) (A : Around) (outer : List Env) (s : Shared) (H : Hp) (E : XK), Room k (A.deeper (envOfC qual (defScope st) s.heap.objs.size f0 cdv)) → PDSs (cxOf CX0 P w K mg base N qual (defScope st) f0 cdv A outer s H E).nox p W (defBody st) f) :
    CalM P w K mg base (k + 1) cls m n (fDef n N.length p q f) :=
  ⟨⟨C, f0, fd, ps, hK, M, F.ok S (fun vs H Q E h => by rw [hn]; exact h.1) fun cdv A outer s H vs Q E hr hsp => ⟨_, h cdv A outer s H E hr, body_of vs H Q E hsp⟩, F.binds hb⟩⟩
/-! ### the facts of an own class -/
theorem kit_tyR {K : PySem.W.Frag} {C : Addr} {T : String} (h1 : PySem.W.kitMeta T = true) (h : PySem.W.mroIn K C (.type T) = some false) : PySem.W.kitOne K (.ref C) (.type T) = some false := by
  show (if PySem.W.kitMeta T = true then PySem.W.subIn K (.ref C) (.type T) else none) = some false
  rw [if_pos h1]
  exact h
theorem insK_of {K : PySem.W.Frag} {cls : Str} {C : Addr} (ns : PySem.W.nsIn K mainGlobals cls = some (some (.ref C))) (cl : L2.Cls K C) (ha : PySem.W.findIn K (.ref C) "__class__" = some (some (.builtin "object.__class__")))
    (hn : PySem.W.specialIn K (.builtin "object.__class__") "__get__" = some (some (.builtin "getset_descriptor.__get__"))) (htk : PySem.W.takesIn K (.builtin "object.__class__") = some true) (hm : PySem.W.mroIn K C (.type "object") = some true)
    (h1 : PySem.W.mroIn K C (.type "int") = some false) (h2 : PySem.W.mroIn K C (.type "str") = some false) (h3 : PySem.W.mroIn K C (.type "tuple") = some false) (h4 : PySem.W.mroIn K C (.type "list") = some false) (h5 : PySem.W.mroIn K C (.type "bool") = some false)
    (n1 : PySem.W.findIn K (.ref C) "attributes" = some none) (n2 : PySem.W.findIn K (.ref C) "states" = some none) (n3 : PySem.W.findIn K (.ref C) "limit" = some none) : InsK K cls C := by
  refine ⟨ns, cl, ha, hn, htk, hm, fun T hT => ?_, fun f hf => ?_⟩
  · simp only [List.mem_cons, List.not_mem_nil, or_false] at hT
    rcases hT with rfl | rfl | rfl | rfl | rfl
    · exact kit_tyR (by decide +kernel) h1
    · exact kit_tyR (by decide +kernel) h2
    · exact kit_tyR (by decide +kernel) h3
    · exact kit_tyR (by decide +kernel) h4
    · exact kit_tyR (by decide +kernel) h5
  · simp only [List.mem_cons, List.not_mem_nil, or_false] at hf
    rcases hf with rfl | rfl | rfl
    · exact n1
    · exact n2
    · exact n3
end MP
namespace MP
open PySem PySem.Spec PyProof.Rows L2 RL
/-! ### a tuple, any times -/
def dMulG : PyData → PyData → Option PyData
  | .tuple xs, .int k => if -1000 ≤ k ∧ k ≤ 1000 ∧ xs.length ≤ 1000 then some (.tuple (List.replicate k.toNat xs).flatten) else none
  | _, _ => none
theorem dMulG_tup {xs : List PyData} {k : Int} (h : -1000 ≤ k ∧ k ≤ 1000 ∧ xs.length ≤ 1000) : dMulG (.tuple xs) (.int k) = some (.tuple (List.replicate k.toNat xs).flatten) := if_pos h
theorem flat_rep {α : Type} (x : α) : ∀ m : Nat, (List.replicate m [x]).flatten = List.replicate m x
  | 0 => rfl
  | m + 1 => by rw [List.replicate_succ, List.flatten_cons, flat_rep x m]; rfl
theorem dMulG_one {x : PyData} {k : Int} (h : -1000 ≤ k ∧ k ≤ 1000) : dMulG (.tuple [x]) (.int k) = some (.tuple (List.replicate k.toNat x)) := by
  rw [dMulG_tup ⟨h.1, h.2, by show 1 ≤ 1000; decide⟩, flat_rep]
/-! ### the calculus: instances made -/
def iqQ (g : DSI) (Q : RzO × Sto → Prop) : Fl × Sto → Prop
  | (.nx ρ1, so) => Ev (g ρ1 so) Q
  | (.ex n, so) => Q (.ex n, so)
  | _ => False
theorem iq_nx {g : DSI} {Q : RzO × Sto → Prop} {ρ : Slots} {so : Sto} : iqQ g Q (.nx ρ, so) = Ev (g ρ so) Q := rfl
theorem iq_ex {g : DSI} {Q : RzO × Sto → Prop} {n : Str} {so : Sto} : iqQ g Q (.ex n, so) = Q (.ex n, so) := rfl
theorem ev_iSeq0 {f : DS} {g : DSI} {ρ : Slots} {so : Sto} {cq : CQ (RzO × Sto)} : @EvI _ (iSeq0 f g ρ so) cq ↔ @EvI _ (f ρ so) ⟨iqQ g cq.q⟩ := by
  unfold iSeq0
  rw [ev_bind]
  constructor
  · rintro ⟨⟨fl, so1⟩, e, h⟩
    refine ⟨⟨fl, so1⟩, e, ?_⟩
    cases fl with
    | nx ρ1 => exact h
    | ex n => obtain ⟨_, e2, h⟩ := h; cases e2; exact h
    | _ => obtain ⟨_, e2, _⟩ := h; cases e2
  · rintro ⟨⟨fl, so1⟩, e, h⟩
    refine ⟨⟨fl, so1⟩, e, ?_⟩
    cases fl with
    | nx ρ1 => exact h
    | ex n => exact ⟨_, rfl, h⟩
    | _ => exact h.elim
theorem ev_fDefI {cls : Str} {n m q : Nat} {f : DSI} {as : List Sl} {cq : CQ RzO} : @EvI _ (fDefI cls n m q f as) cq ↔ as.length = n ∧ @EvI _ (f (some (.x (.n 0)) :: (as.map some ++ List.replicate (m - (n + 1)) none)) (.x (.ob cls []) :: List.replicate q .no)) ⟨fun r => cq.q r.1⟩ := by
  unfold fDefI
  by_cases h : as.length = n
  · rw [if_pos h, ev_map]
    exact ⟨fun z => ⟨h, z⟩, fun z => z.2⟩
  · rw [if_neg h, ev_none]
    exact ⟨False.elim, fun z => h z.1⟩
theorem iLast_attr {cls : Str} {x d : PyData} {so : Sto} : iLastGo cls d (.x (.ob cls [(Str.ofString "attributes", x)]) :: so) = some (.ok [(Str.ofString "attributes", x)] d, .x (.ob cls [(Str.ofString "attributes", x)]) :: so) := by
  refine if_pos ⟨rfl, by show 1 < 900; decide, fun p hp => ?_, by simp⟩
  rw [List.mem_singleton.mp hp]
  show Str.ofString "attributes" ≠ Str.ofString "states"
  decide
theorem ev_iLast {i : Nat} {cls : Str} {f : DE} {ρ : Slots} {so : Sto} {cq : CQ (RzO × Sto)} : @EvI _ (iLast i cls f ρ so) cq ↔ @EvI _ (f ρ so) ⟨fun p => @EvI _ (match ρ[i]? with
    | some (some (.x (.n 0))) => iLastGo cls p.1 p.2
    | _ => none) cq⟩ := ev_bind
theorem ev_sAttr {i : Nat} {f : Str} {e : DE} {ρ : Slots} {so : Sto} {cq : CQ (Fl × Sto)} : @EvI _ (sAttr i f e ρ so) cq ↔ @EvI _ (e ρ so) ⟨fun p => @EvI _ (match ρ[i]? with
    | some (some (.x (.n k))) => match p.2[k]? with
      | some (.x (.ob cls at_)) => if at_.length < 900 ∧ f ∈ (["attributes", "states", "limit"] : List Str) then some (.nx ρ, p.2.set k (.x (.ob cls (putD f p.1 at_)))) else none
      | _ => none
    | _ => none) cq⟩ := ev_bind
def mkQ (cls : Str) (Q : PyData × Sto → Prop) (so : Sto) : RzO → Prop
  | .ok at_ st => Q (insD cls at_ [st], so)
  | .ex _ => False
theorem mk_ok {cls : Str} {Q : PyData × Sto → Prop} {so : Sto} {at_ : List (Str × PyData)} {st : PyData} : mkQ cls Q so (.ok at_ st) = Q (insD cls at_ [st], so) := rfl
theorem ev_fMk {cls : Str} {cv : List PyData → Option (List PyData)} {G : FI} {g : DL} {ρ : Slots} {so : Sto} {cq : CQ (PyData × Sto)} : @EvI _ (fMk cls cv G g ρ so) cq ↔ @EvI _ (g ρ so) ⟨fun p => @EvI _ (cv p.1) ⟨fun as => @EvI _ (G (as.map .d)) ⟨mkQ cls cq.q p.2⟩⟩⟩ := by
  unfold fMk makeI
  constructor
  · rintro ⟨r, e, hq⟩
    obtain ⟨⟨z, so1⟩, e1, e2⟩ := Option.bind_eq_some_iff.mp e
    obtain ⟨⟨ds, so2⟩, e3, e4⟩ := Option.bind_eq_some_iff.mp e1
    obtain ⟨as, e5, e6⟩ := Option.bind_eq_some_iff.mp e4
    obtain ⟨y, e7, e8⟩ := Option.map_eq_some_iff.mp e6
    cases e8
    refine ⟨_, e3, _, e5, _, e7, ?_⟩
    cases z with
    | ok at_ st => cases e2; exact hq
    | ex n => cases e2
  · rintro ⟨⟨ds, so2⟩, e3, as, e5, z, e7, hq⟩
    cases z with
    | ok at_ st =>
      refine ⟨_, ?_, hq⟩
      refine Option.bind_eq_some_iff.mpr ⟨(.ok at_ st, so2), ?_, rfl⟩
      refine Option.bind_eq_some_iff.mpr ⟨_, e3, Option.bind_eq_some_iff.mpr ⟨_, e5, ?_⟩⟩
      rw [e7]
      rfl
    | ex n => exact hq.elim
theorem cvStar_of {d : PyData} {r : List PyData} (h : r.length ≤ 5000) : cvStar (d :: r) = some [d, .tuple r] := if_pos h
theorem cvDef_one {d : PyData} : cvDef [d] = some [d, .none] := rfl
theorem cvDef_two {d t : PyData} : cvDef [d, t] = some [d, t] := rfl
end MP
namespace RL
open PySem PySem.Spec PyProof.Rows L2
open PySem.Sem (wp)
/-! ### what is shown, over the layer: also where something is shown by a def of its own -/
/-- the around within a showing: k levels of defs may follow, n of built-ins -/
structure ArR (X : Cx) (k n : Nat) (A : Around) : Prop where
  hd : A.handled = none
  fr : A.frames = some X.stack
  dp : A.depth + n + 3 * k + 5 < recursionLimit
  un : A.units + 3 * n + 16 * k + 200 < cLine
theorem ArR.mono {X : Cx} {k j n m : Nat} {A : Around} (r : ArR X k n A) (h : j ≤ k) (h2 : m ≤ n) : ArR X j m A := ⟨r.hd, r.fr, by have := r.dp; omega, by have := r.un; omega⟩
theorem ArR.in1 {X : Cx} {k n : Nat} {A : Around} (r : ArR X k (n + 1) A) : ArR X k n A.in1 := ⟨r.hd, r.fr, by have := r.dp; show A.depth + n + 3 * k + 5 < _; omega, by have := r.un; show A.units + 1 + 3 * n + 16 * k + 200 < _; omega⟩
theorem ArR.room {X : Cx} {k n : Nat} {A : Around} (r : ArR X k n A) : Room k A := ⟨r.hd, by have := r.dp; omega, by have := r.un; omega⟩
theorem ArR.units {X : Cx} {k n : Nat} {A : Around} (r : ArR X k n A) : A.units < cLine := by have := r.un; omega
theorem weight_list_loop (args : Args) : (Code.builtin "list.__repr__.loop" args).weight ≤ 1 := by
  have g := isGuard_list_loop args
  unfold Code.weight
  rw [g]
  show 0 + (if Code.isCreation (.builtin "list.__repr__.loop" args) then 1 else 0) + 1 + (if Code.isCaller (.builtin "list.__repr__.loop" args) then claimMargin else 0) ≤ 1
  have h1 : Code.isCreation (.builtin "list.__repr__.loop" args) = false := by first | rfl | kernel_rfl
  have h2 : Code.isCaller (.builtin "list.__repr__.loop" args) = false := by first | rfl | kernel_rfl
  rw [h1, h2]
  decide
theorem ArR.under {X : Cx} {k n : Nat} {A : Around} (r : ArR X k (n + 1) A) {id : String} {args : Args} (hu : (A.under (.builtin id args)).units = A.units + 1) (hw : (Code.builtin id args).weight ≤ 1) : ArR X k n (A.under (.builtin id args)) := by
  refine ⟨r.hd, ?_, ?_, ?_⟩
  · show pushEnvs (Code.builtin id args).envs A.frames = some X.stack
    rw [r.fr]
    rfl
  · have := r.dp
    show A.depth + (Code.builtin id args).weight + n + 3 * k + 5 < recursionLimit
    omega
  · have := r.un
    rw [hu]
    omega
/-- the value x is shown as t: H0 what is known, as what must not be under way -/
def ShowV (X : Cx) (as : List Addr) (k n : Nat) (H0 : Hp) (x : V) (t : Str) : Prop :=
  ∀ (pins : List (Addr × Obj)) (σ : L2.St) (b : Nat), b + t.length ≤ sizeLine → ∀ (A : Around) (g : List Code) (E : Value → Shared → Prop) (s : Shared) (H : Hp) (v : Value) (Q : Str → Shared → Prop), RelV x v → A.guards = some g → (∀ c ∈ as, Clear g c) → ArR X k n A → Inv X pins σ H s → Same H0 H →
    (∀ s' H', Inv X pins σ H' s' → Same H H' → Q t s') → wpAny (model X.prog X.w) A (pyReprUnder b v) Q E s
section
variable {X : Cx} {as as' : List Addr} {k j n m : Nat} {H0 : Hp} {x : V} {t : Str}
theorem ShowV.more (h : ShowV X as k n H0 x t) (hs : ∀ b ∈ as, b ∈ as') : ShowV X as' k n H0 x t := fun pins σ b hb A g E s H v Q r hg hc ar I e q => h pins σ b hb A g E s H v Q r hg (fun c hc2 => hc c (hs c hc2)) ar I e q
theorem ShowV.level (h : ShowV X as k n H0 x t) (h1 : k ≤ j) (h2 : n ≤ m) : ShowV X as j m H0 x t := fun pins σ b hb A g E s H v Q r hg hc ar I e q => h pins σ b hb A g E s H v Q r hg hc (ar.mono h1 h2) I e q
theorem ShowV.leaf (h : ∀ v, RelV x v → ReprIs X.prog X.w v t) : ShowV X as k n H0 x t := fun pins σ b hb A g E s H v Q r _ _ _ I _ q => h v r b hb A E s Q fun tk => q _ H (I.tok tk) (Same.refl _)
theorem ShowV.non : ShowV X as k n H0 .non "None" := .leaf fun v r => by cases r; exact ReprIs.none
theorem ShowV.bl (b : Bool) : ShowV X as k n H0 (.bl b) (if b then "True" else "False") := .leaf fun v r => by cases r; exact ReprIs.bool b
theorem ShowV.int {i : Int} (h : i.natAbs.log2 < 1920) : ShowV X as k n H0 (.int i) (toString i) := .leaf fun v r => by obtain ⟨tk, rfl⟩ := r; exact ReprIs.int tk h
theorem ShowV.str {y : Str} (h : (reprText y).length ≤ sizeLine) : ShowV X as k n H0 (.str y) (reprText y) := .leaf fun v r => by obtain ⟨tk, rfl⟩ := r; exact ReprIs.str y tk h
/-- the loop of a list -/
theorem loopV {a P : Addr} (hne : a ≠ P) {xs : List V} {ts : List Str} {base : Nat} {A : Around} {g : List Code} {pins : List (Addr × Obj)} {σ : L2.St} {R : Result → Shared → Prop} (hg : A.guards = some g) (hcl : ∀ b ∈ as, Clear g b) (ar : ArR X k (n + 1) A) (hna : a ∉ as) (hlen : ts.length = xs.length)
    (ha : H0 a = some (.lst xs)) (hT : ∀ (i : Nat) (x : V), xs[i]? = some x → ∃ t, ts[i]? = some t ∧ ShowV X as k n H0 x t) (hsz : base + (listText ts).length ≤ sizeLine) :
    ∀ (m i : Nat) (s : Shared) (H : Hp) (acc : Array Value) (c : Nat) (done : List (Str × Tok)), xs.length - i = m → i ≤ xs.length → Inv X pins σ H s → Same H0 H → FpOk X pins H P →
    s.heap.get? P = some { cls := .type "list", dict := none, data := .seq acc c, slots := #[] } → acc.toList = strValues done → done.map (·.1) = ts.take i →
    (∀ s' H' u, Inv X pins σ H' s' → Same H H' → R (.ok (.ret (.str (listText ts) u))) s') →
    codeAny (model X.prog X.w) A (.builtin "list.__repr__.loop" ⟨[.ref a, rawInt i, .ref P, rawInt ((base + piled (ts.take i) : Nat) : Int)], []⟩) R s := by
  have hL := textFrom_len ts 0 "["
  have hX : (listText ts).length = (textFrom 0 "[" ts).length + 1 := by
    show (textFrom 0 "[" ts ++ "]").length = _
    rw [strLen_append]; rfl
  have hsz1 : xs.length ≤ sizeLine := by
    have h1 := hL.1
    rw [if_neg (Nat.lt_irrefl 0)] at h1
    omega
  have hsz2 : ∀ t ∈ ts, t.length ≤ sizeLine := fun t ht => by
    have h2 := hL.2.1 t ht
    omega
  have hsz3 : (listText ts).length ≤ sizeLine := by omega
  have hp3 := piled_le_listText ts
  intro m
  induction m with
  | zero =>
    intro i s H acc c done hk hi I sH fP hP hacc hdone hR
    have hin : i = xs.length := by omega
    obtain ⟨its, rv, ⟨oa, na, ho, hc, _, hd⟩, _⟩ := I.list (SqL.of (sH _ _ ha))
    have li : its.length = xs.length := rv.length.symm
    refine codeAny_builtin F.entry_list_repr_loop ?_
    show wpAny _ _ (Builtin.«list.__repr__.loop» ⟨[.ref a, .int i 0, .ref P, .int ((base + piled (ts.take i) : Nat) : Int) 0], []⟩) _ _ s
    rw [repr_loop_tree]
    refine wpAny_bind (wpAny_listItems ho hd ?_)
    have hnone : its.toArray[(i : Int).toNat]? = none := by simp [hin, li]
    simp only [hnone]
    unfold reprEnd
    refine wpAny_bind (wpAny_listItems hP rfl ?_)
    rw [hacc, repr_fold]
    refine wpAny_bind (wpAny_pure ?_)
    have hall : done.map (·.1) = ts := by rw [hdone, hin, ← hlen, List.take_length]
    rw [hall]
    refine wpAny_bind (wpAny_mkStr (wpAny_pure ?_) hsz3)
    exact hR _ H _ (I.tok _) (Same.refl _)
  | succ m ih =>
    intro i s H acc c done hk hi I sH fP hP hacc hdone hR
    have hlt : i < xs.length := by omega
    obtain ⟨its, rv, ⟨oa, na, ho, hc, _, hd⟩, _⟩ := I.list (SqL.of (sH _ _ ha))
    have li : its.length = xs.length := rv.length.symm
    obtain ⟨v, hv, rxv⟩ := rv.get (List.getElem?_eq_getElem hlt)
    obtain ⟨t, ht, hrep⟩ := hT i xs[i] (List.getElem?_eq_getElem hlt)
    have hp1 := piled_take_succ ht
    have hp2 := piled_take_le ts (i + 1)
    refine codeAny_builtin F.entry_list_repr_loop ?_
    show wpAny _ _ (Builtin.«list.__repr__.loop» ⟨[.ref a, .int i 0, .ref P, .int ((base + piled (ts.take i) : Nat) : Int) 0], []⟩) _ _ s
    rw [repr_loop_tree]
    refine wpAny_bind (wpAny_listItems ho hd ?_)
    have hsome : its.toArray[(i : Int).toNat]? = some v := by simpa using hv
    simp only [hsome]
    rw [Int.toNat_natCast]
    have I1 := I.pinned (fp := [P]) (fun b hb => by rw [List.mem_singleton.mp hb]; exact fP) (fun b hb => by rw [List.mem_singleton.mp hb]; exact ⟨_, hP, fun v => nofun⟩)
    refine wpAny_bind (wpAny_holding (hrep _ _ (base + piled (ts.take i) + 1) (by omega) _ _ _ _ _ _ _ rxv (guards_under_guard (isGuard_list_loop _) hg) (fun b hb => (hcl b hb).cons (a := a) fun e => hna (e ▸ hb)) (ar.under (units_under_list_loop _ _) (weight_list_loop _)) I1 sH fun s' H' I2 s2 => ?_))
    have pP := I2.pin (P, _) (List.mem_append_right _ (List.mem_append_right _ (mem_pinsAt (List.mem_singleton.mpr rfl) hP)))
    obtain ⟨hP2, nP2, _⟩ := pP
    have I3 := I2.unpinned
    have fP2 : FpOk X pins H' P := ⟨nP2, fP.2⟩
    refine wpAny_bind (wpAny_mkStr ?_ (hsz2 t (List.mem_of_getElem? ht)))
    refine wpAny_bind ?_
    show wpAny _ _ (updateSeq P _) _ _ _
    have hasz : acc.size ≤ sizeLine := by
      have e1 : acc.toList.length = acc.size := by simp
      have e2 : (strValues done).length = done.length := by simp [strValues]
      have e3 : done.length = (ts.take i).length := by rw [← hdone, List.length_map]
      have e4 : (ts.take i).length ≤ i := by rw [List.length_take]; omega
      rw [hacc] at e1; omega
    refine wpAny_updateSeq hP2 rfl (wpAny_pure ⟨F.quiet_list_repr_loop _, ?_⟩) hasz
    have e1 : ((i : Int) + 1) = ((i + 1 : Nat) : Int) := by omega
    have e2 : base + piled (ts.take i) + (t.length + 2) = base + piled (ts.take (i + 1)) := by omega
    rw [e1, e2]
    refine ih (i + 1) _ H' (acc.push (.str t s'.toks)) _ (done ++ [(t, s'.toks)]) (by omega) hlt ((I3.tok (s'.toks + 1)).turned (it := P) (fun b o hb e => (Heap.get?_update_other _ _ (fun h : P = b => hb h.symm)).trans e) nP2 fP2.2.1 fP2.2.2.2.1 fP2.2.2.2.2.1 fP2.2.2.2.2.2) (sH.trans s2) fP2 (Heap.get?_update_self _ hP2 rfl) (by simp [hacc, strValues]) (by simp [List.take_add_one, ht, hdone]) fun s'' H'' u I' s3 => hR s'' H'' u I' (s2.trans s3)
theorem list_atV {a : Addr} {x : V} {l : List V} {ts : List Str} {base : Nat} {A : Around} {g : List Code} {pins : List (Addr × Obj)} {σ : L2.St} {s : Shared} {H : Hp} {R : Result → Shared → Prop} (ha : H0 a = some (.lst (x :: l))) (hna : a ∉ as) (hlen : ts.length = (x :: l).length) (hT : ∀ (i : Nat) (y : V), (x :: l)[i]? = some y → ∃ t, ts[i]? = some t ∧ ShowV X as k n H0 y t)
    (hg : A.guards = some g) (hcl : ∀ c ∈ a :: as, Clear g c) (ar : ArR X k (n + 1) A) (I : Inv X pins σ H s) (sH : Same H0 H) (hb : base + (listText ts).length ≤ sizeLine) (hR : ∀ s' H' u, Inv X pins σ H' s' → Same H H' → R (.ok (.ret (.str (listText ts) u))) s') :
    wpAny (model X.prog X.w) A.in1 (Builtin.listReprAt base ⟨[.ref a], []⟩) (fun fin s' => match fin with | .done f => R (.ok f) s' | .again c' => c'.quiet = true ∧ codeAny (model X.prog X.w) A c' R s') (fun e s' => R (.error e) s') s := by
  obtain ⟨its, rvs, ⟨oa, na, ho, hc, _, hd⟩, hz⟩ := I.list (SqL.of (sH _ _ ha))
  match its, rvs with
  | u :: us, rvs =>
  have hca : Clear g a := hcl a (.head _)
  refine wpAny_list_repr_head (A := A.in1) hg (fun v rest kw hm => listSameRef_of_ne (hca _ _ _ _ hm)) ho hd ?_
  refine wpAny_bind (m := newList []) (wpAny_newObj_type ?_)
  refine wpAny_pure ⟨F.quiet_list_repr_loop _, ?_⟩
  have kp : ∀ b o, s.heap.get? b = some o → (s.heap.push { cls := .type "list", data := .seq #[] }).get? b = some o := fun b o e => Heap.get?_push_of_some _ e
  have nP : H s.heap.objs.size = none := I.hok.fresh (Nat.le_refl _)
  have fP : FpOk X pins H s.heap.objs.size := I.fpOk (Nat.le_refl _) nP
  exact loopV (a := a) (P := s.heap.objs.size) (k := k) (n := n) (as := as) (Nat.ne_of_lt (Heap.lt_size ho)) hg (fun b hb => hcl b (.tail _ hb)) ar hna hlen ha hT hb _ 0 _ H #[] _ [] rfl (Nat.zero_le _)
    (I.kept (t' := s.toks) kp) sH fP (Heap.get?_push_size _ rfl) rfl (by simp) hR
theorem ShowV.list {a : Addr} {x : V} {l : List V} {ts : List Str} (ha : H0 a = some (.lst (x :: l))) (hna : a ∉ as) (hlen : ts.length = (x :: l).length) (hT : ∀ (i : Nat) (y : V), (x :: l)[i]? = some y → ∃ t, ts[i]? = some t ∧ ShowV X as k n H0 y t) :
    ShowV X (a :: as) k (n + 1) H0 (.ref a) (listText ts) := by
  intro pins σ base hb A g E s H v Q rv hg hcl ar I sH q
  cases rv
  obtain ⟨its, rvs, ⟨oa, na, ho, hc, _, hd⟩, hz⟩ := I.list (SqL.of (sH _ _ ha))
  refine wpAny_pyReprUnder_ref (by omega) (wpAny_pyReprObjUnder_twin (twin := "list.__repr__.under") ⟨oa, ho, hc⟩ F.slot_list_repr.toG rfl ar.units ?_)
  refine call_twin_plain F.plain_list_repr_under F.entry_list_repr_under F.check_list_repr_under ⟨oa, ho, hc⟩ F.slot_list_repr.toG (F.args_list_repr_1 _) ?_
  exact list_atV (R := callEnd _ E) ha hna hlen hT hg hcl ar I sH hb fun s' H' u I' s' => ⟨⟨_, _, rfl⟩, _, _, rfl, q _ _ I' s'⟩
theorem ShowV.listNil {a : Addr} (ha : H0 a = some (.lst [])) : ShowV X as k n H0 (.ref a) "[]" := by
  intro pins σ base hb A g E s H v Q rv hg hcl ar I sH q
  cases rv
  obtain ⟨its, rvs, ⟨oa, na, ho, hc, _, hd⟩, hz⟩ := I.list (SqL.of (sH _ _ ha))
  cases rvs
  exact wpAny_pyReprUnder_ref (by omega) (wpAny_pyReprObjUnder_list_empty ⟨oa, ho, hc⟩ ar.units ho hd ⟨_, _, rfl, q _ H (I.tok _) (Same.refl _)⟩)
/-! #### tuples -/
inductive ShowAll (X : Cx) (as : List Addr) (k n : Nat) (H0 : Hp) : List V → List Str → Prop
  | nil : ShowAll X as k n H0 [] []
  | cons {x : V} {t : Str} {l : List V} {ts : List Str} : ShowV X as k n H0 x t → ShowAll X as k n H0 l ts → ShowAll X as k n H0 (x :: l) (t :: ts)
theorem ShowAll.length : ∀ {l : List V} {ts : List Str}, ShowAll X as k n H0 l ts → ts.length = l.length
  | _, _, .nil => rfl
  | _, _, .cons _ h => by simp [h.length]
theorem ShowAll.item : ∀ {l : List V} {ts : List Str}, ShowAll X as k n H0 l ts → ∀ (i : Nat) (y : V), l[i]? = some y → ∃ t, ts[i]? = some t ∧ ShowV X as k n H0 y t
  | _, _, .nil, _, _, e => by simp at e
  | _, _, .cons hx _, 0, _, e => by
    simp at e
    subst e
    exact ⟨_, rfl, hx⟩
  | _, _, .cons _ hl, i + 1, y, e => by
    obtain ⟨t, h1, h2⟩ := hl.item i y (by simpa using e)
    exact ⟨t, by simpa using h1, h2⟩
theorem ShowAll.more_le (hs : ∀ b ∈ as, b ∈ as') (h2 : n ≤ m) : ∀ {l : List V} {ts : List Str}, ShowAll X as k n H0 l ts → ShowAll X as' k m H0 l ts
  | _, _, .nil => .nil
  | _, _, .cons hx hl => .cons ((hx.more hs).level (Nat.le_refl _) h2) (hl.more_le hs h2)
theorem tupFoldV {A : Around} {g : List Code} {pins : List (Addr × Obj)} {σ : L2.St} {E : Value → Shared → Prop} (hg : A.guards = some g) (hcl : ∀ b ∈ as, Clear g b) (ar : ArR X k n A) : ∀ (xs : List V) (us : List Value) (ts : List Str) (acc : Array Str) (m : Nat) (s : Shared) (H : Hp) (Q : (Array Str × Nat) → Shared → Prop), Vals xs us → ShowAll X as k n H0 xs ts → m + piled ts ≤ sizeLine →
    Inv X pins σ H s → Same H0 H → (∀ s' H', Inv X pins σ H' s' → Same H H' → Q ⟨acc ++ ts.toArray, m + piled ts⟩ s') →
    wpAny (model X.prog X.w) A (forIn us (⟨acc, m⟩ : (Array Str × Nat)) tupBody) Q E s := by
  intro xs
  induction xs with
  | nil =>
    intro us ts acc m s H Q rv hT _ I _ h
    cases rv
    cases hT
    have h0 := h s H I (Same.refl _)
    simp only [List.forIn_nil]
    exact wpAny_pure (by simpa [piled] using h0)
  | cons x l ih =>
    intro us ts acc m s H Q rv hT hn I sH h
    cases rv with
    | cons rx rl =>
      cases hT with
      | cons hx hl =>
        rename_i t ts'
        rw [piled_cons] at hn
        rw [List.forIn_cons]
        refine wpAny_bind (wpAny_bind (hx _ _ (m + 1) (by omega) _ _ _ _ _ _ _ rx hg hcl ar I sH fun s' H' I' s1 => wpAny_pure ?_))
        refine ih _ ts' (acc.push t) (m + (t.length + 2)) _ H' Q rl hl (by omega) I' (sH.trans s1) fun s'' H'' I'' s2 => ?_
        have h1 := h s'' H'' I'' (s1.trans s2)
        have e : m + piled (t :: ts') = m + (t.length + 2) + piled ts' := by rw [piled_cons]; omega
        rw [e] at h1
        simpa using h1
theorem weight_tuple_repr (args : Args) : (Code.builtin "tuple.__repr__" args).weight ≤ 1 := by
  have g := isGuard_tuple_repr args
  unfold Code.weight
  rw [g]
  show 0 + (if Code.isCreation (.builtin "tuple.__repr__" args) then 1 else 0) + 1 + (if Code.isCaller (.builtin "tuple.__repr__" args) then claimMargin else 0) ≤ 1
  have h1 : Code.isCreation (.builtin "tuple.__repr__" args) = false := by first | rfl | kernel_rfl
  have h2 : Code.isCaller (.builtin "tuple.__repr__" args) = false := by first | rfl | kernel_rfl
  rw [h1, h2]
  decide
theorem weight_tuple_under (args : Args) : (Code.builtin "tuple.__repr__.under" args).weight ≤ 1 := by
  have g := isGuard_tuple_repr_under args
  unfold Code.weight
  rw [g]
  show 0 + (if Code.isCreation (.builtin "tuple.__repr__.under" args) then 1 else 0) + 1 + (if Code.isCaller (.builtin "tuple.__repr__.under" args) then claimMargin else 0) ≤ 1
  have h1 : Code.isCreation (.builtin "tuple.__repr__.under" args) = false := by first | rfl | kernel_rfl
  have h2 : Code.isCaller (.builtin "tuple.__repr__.under" args) = false := by first | rfl | kernel_rfl
  rw [h1, h2]
  decide
theorem tuple_atV {a : Addr} {xs : List V} {ts : List Str} {base : Nat} {A : Around} {g : List Code} {pins : List (Addr × Obj)} {σ : L2.St} {s : Shared} {H : Hp} {R : Result → Shared → Prop} {id : String} {rest : List Value} (ha : SqT X.K H a xs) (hna : a ∉ as) (hT : ShowAll X as k n H0 xs ts)
    (hcg : (Code.builtin id ⟨.ref a :: rest, []⟩).isGuard = true) (hcu : (A.under (.builtin id ⟨.ref a :: rest, []⟩)).units = A.units + 1) (hcw : (Code.builtin id ⟨.ref a :: rest, []⟩).weight ≤ 1)
    (hg : A.guards = some g) (hcl : ∀ c ∈ a :: as, Clear g c) (ar : ArR X k (n + 1) A) (I : Inv X pins σ H s) (sH : Same H0 H) (hb : base + (tupleText ts).length ≤ sizeLine) (hR : ∀ s' H' u, Inv X pins σ H' s' → Same H H' → R (.ok (.ret (.str (tupleText ts) u))) s') :
    wpOwn (model X.prog X.w) A (.builtin id ⟨.ref a :: rest, []⟩) (Builtin.tupleReprAt base ⟨[.ref a], []⟩) (fun fin s' => match fin with | .done f => R (.ok f) s' | .again c' => c'.quiet = true ∧ codeAny (model X.prog X.w) A c' R s') (fun e s' => R (.error e) s') s := by
  have hca : Clear g a := hcl a (.head _)
  obtain ⟨its, rvs, ⟨o, ho, hc, na, hd⟩, hz⟩ := I.tuple ha
  have hlen : ts.length = its.length := by rw [hT.length]; exact rvs.length
  have hp := piled_le_tupleText ts
  have hsz0 : (tupleText ts).length ≤ sizeLine := by omega
  rw [tuple_repr_tree, tupleReprUnderWay_eq]
  refine wpOwn_bind (wpOwn_stackTailAny hg (tupGuardF_off _) (tupGuardF_pos _) ?_)
  have hn : (g.any fun c => tupGuardF (.ref a) (c, default)) = false := by
    rw [List.any_eq_false]
    intro c hcm
    rw [tupGuardF_of_clear hca c hcm]
    exact Bool.false_ne_true
  rw [hn]
  refine wpOwn_of_wpAny ?_
  show wpAny _ _ (tupleReprRest base (.ref a)) _ _ s
  unfold tupleReprRest Builtin.Tuple.tupleItemsOf
  refine wpAny_bind (wpAny_bind (wpAny_seqItems ho hd (wpAny_pure ?_)))
  rw [← Array.forIn_toList]
  refine wpAny_bind (tupFoldV (guards_under_guard hcg hg) (fun b hb => (hcl b (.tail _ hb)).cons (a := a) fun e => hna (e ▸ hb)) (ar.under hcu hcw) xs _ ts _ _ _ H _ rvs hT (by omega) I sH fun s' H' I' s1 => ?_)
  refine wpAny_bind (wpAny_mkStr (wpAny_pure ?_) (by simpa [tupleText, hlen] using hsz0))
  have h1 := hR _ H' s'.toks (I'.tok (s'.toks + 1)) s1
  simpa [tupleText, hlen] using h1
theorem ShowV.tuple {a : Addr} {xs : List V} {ts : List Str} (ha : ∀ H, Same H0 H → SqT X.K H a xs) (hna : a ∉ as) (hT : ShowAll X as k n H0 xs ts) : ShowV X (a :: as) k (n + 1) H0 (.ref a) (tupleText ts) := by
  intro pins σ base hb A g E s H v Q rv hg hcl ar I sH q
  cases rv
  obtain ⟨its, rvs, ⟨o, ho, hc, na, hd⟩, hz⟩ := I.tuple (ha H sH)
  refine wpAny_pyReprUnder_ref (by omega) (wpAny_pyReprObjUnder_twin (twin := "tuple.__repr__.under") ⟨o, ho, hc⟩ F.slot_tuple_repr rfl ar.units ?_)
  refine call_twin_own (F.quiet_tuple_repr_under _) F.entry_tuple_repr_under F.check_tuple_repr_under ⟨o, ho, hc⟩ F.slot_tuple_repr (F.args_tuple_repr_1 _) ?_
  exact tuple_atV (R := callEnd _ E) (ha H sH) hna hT (isGuard_tuple_repr_under _) (units_under_tuple_repr_under _ _) (weight_tuple_under _) hg hcl ar I sH hb fun s' H' u I' s' => ⟨⟨_, _, rfl⟩, _, _, rfl, q _ _ I' s'⟩
/-! #### what the kit shows -/
/-- by what is so at each heap that holds H0 -/
theorem ShowV.kit {a : Addr} (h : ∀ (pins : List (Addr × Obj)) (σ : L2.St) (H : Hp) (s : Shared), Inv X pins σ H s → Same H0 H → ReprK X.prog X.w as s.heap n (.ref a) t) : ShowV X as k n H0 (.ref a) t := by
  intro pins σ base hb A g E s H v Q rv hg hcl ar I sH q
  cases rv
  exact h pins σ H s I sH base hb A g E s Q hg hcl (by have := ar.un; omega) (fun _ _ e => e) fun h' tk hk => q _ H (I.kept (t' := tk) hk) (Same.refl _)
/-! #### instances -/
/-- what an own __repr__ promises: the text of the instance at a, behind all that is known -/
def ReprFn (X : Cx) (k : Nat) (C f : Addr) (H0 : Hp) (a : Addr) (t : Str) : Prop :=
  PySem.W.findIn X.K (.ref C) "__repr__" = some (some (.ref f)) ∧ PySem.W.isFn X.K (.ref f) = true ∧
  ∀ (A : Around) (s : Shared) (H : Hp) (E : Value → Shared → Prop) (Q : Value → Shared → Prop), Room k A → Env0 X.prog X.w X.K X.mg X.base A X.stack s H → Same H0 H →
    (∀ s' H' u, s'.os = s.os → AllBare s'.gens → Un (frs X.stack) [] H H' s.heap s'.heap → HOk X.prog X.w H' s'.heap → Same H H' → Q (.str t u) s') → wpAny (model X.prog X.w) A (call (.ref f) [.ref a]) Q E s
theorem env0_at {pins : List (Addr × Obj)} {σ : L2.St} {s : Shared} {H : Hp} {A : Around} (I : Inv X pins σ H s) (hf : A.frames = some X.stack) : Env0 X.prog X.w X.K X.mg X.base A X.stack s H :=
  let e := I.env0
  ⟨hf, e.mod, e.bs, e.bsz, e.funs, e.frf, e.hok, e.bare⟩
theorem ShowV.ins {a C dx f : Addr} {fs : List (Str × V)} (ha : H0 a = some (.ins C dx fs)) (hF : ReprFn X k C f H0 a t) : ShowV X as k (n + 1) H0 (.ref a) t := by
  intro pins σ base hb A g E s H v Q rv hg hcl ar I sH q
  cases rv
  obtain ⟨hr, hf, run⟩ := hF
  obtain ⟨mA, O, _⟩ := ins_get I.hok (sH _ _ ha)
  obtain ⟨od, J, _⟩ := O.look
  have KI := I.kIn
  refine wpAny_pyReprUnder_ref (by omega) ?_
  unfold pyReprObjUnder pyReprObjBy
  refine wpAny_bind (wpAny_cRoomFor ar.units ?_)
  refine wpAny_bind (m := specialOf (.ref a) (Str.ofString "__repr__")) (wpAny_bind (J.type.here ((PySem.W.looks_findIn KI hr).here ?_)))
  show wpAny _ _ (if (some (Value.ref f)).isNone = true then _ else _) _ _ _
  rw [if_neg (by simp)]
  have body : ∀ (E' : Value → Shared → Prop) (Q' : Value → Shared → Prop), (∀ s' H' u, Inv X pins σ H' s' → Same H H' → Q' (.str t u) s') → wpAny (model X.prog X.w) A (call (.ref f) [.ref a]) Q' E' s := fun E' Q' h =>
    run A s H E' Q' ar.room (env0_at I ar.fr) sH fun s' H' u ho hgn un hok ss => h s' H' u (I.call' ho un hok hgn (ch := []) fun b z => absurd z (by simp)) ss
  refine wpAny_bind (m := callSpecialIfBoundBy? _ (.ref a) (Str.ofString "__repr__")) ?_
  simp only [callSpecialIfBoundBy?, bindSpecialIfBound?]
  refine wpAny_holding (wpAny_bind (wpAny_bind (wpAny_bind (J.type.here ((PySem.W.looks_findIn KI hr).here ?_)))))
  refine wpAny_bind (wpAny_askSetting (wpAny_ite ?_))
  have fin : ∀ E' : Value → Shared → Prop, wpAny (model X.prog X.w) A (call (.ref f) ([.ref a] ++ []) >>= fun v => pure (some v)) (fun r s' => ∃ u, r = some (Value.str t u) ∧ Q t s') E' s := fun E' =>
    wpAny_bind (body _ _ fun s' H' u I' ss => wpAny_pure ⟨u, rfl, q s' H' I' ss⟩)
  split
  · refine wpAny_bind ((PySem.W.bind_fn KI _ (beq_iff_eq.mp hf)).here (wpAny_pure ?_))
    refine wpAny_mono (fin _) (fun r s' h => ?_) fun _ _ e => e
    obtain ⟨u, rfl, hq⟩ := h
    exact wpAny_bind (wpAny_isInstance (T := "str") (b := true) rfl isSubtype_str_str (wpAny_pure ⟨_, _, rfl, hq⟩))
  · refine wpAny_tryCatch (wpAny_bind ((PySem.W.bind_fn KI _ (beq_iff_eq.mp hf)).here (wpAny_pure ?_)))
    refine wpAny_mono (fin _) (fun r s' h => ?_) fun _ _ e => e
    obtain ⟨u, rfl, hq⟩ := h
    exact wpAny_bind (wpAny_isInstance (T := "str") (b := true) rfl isSubtype_str_str (wpAny_pure ⟨_, _, rfl, hq⟩))
end
/-! ### repr(x) -/
def ShowC (X : Cx) (k n : Nat) (H0 : Hp) (x : V) (t : Str) : Prop :=
  ∀ (pins : List (Addr × Obj)) (σ : L2.St) (A : Around) (E : Value → Shared → Prop) (s : Shared) (H : Hp) (v : Value) (Q : Value → Shared → Prop), t.length ≤ sizeLine → RelV x v → A.guards = some [] → ArR X k (n + 1) A → Inv X pins σ H s → Same H0 H →
    (∀ s' H' u, Inv X pins σ H' s' → Same H H' → Q (.str t u) s') → wpAny (model X.prog X.w) A (call (.builtin "repr") [v]) Q E s
section
variable {X : Cx} {as : List Addr} {k n : Nat} {H0 : Hp} {x : V} {t : Str}
theorem ShowC.list {a : Addr} {x : V} {l : List V} {ts : List Str} (ha : H0 a = some (.lst (x :: l))) (hna : a ∉ as) (hlen : ts.length = (x :: l).length) (hT : ∀ (i : Nat) (y : V), (x :: l)[i]? = some y → ∃ t, ts[i]? = some t ∧ ShowV X as k n H0 y t) : ShowC X k (n + 1) H0 (.ref a) (listText ts) := by
  intro pins σ A E s H v Q hz rv hg ar I sH q
  cases rv
  obtain ⟨its, rvs, ⟨oa, na, ho, hc, _, hd⟩, _⟩ := I.list (SqL.of (sH _ _ ha))
  refine call_repr_slot (by have := ar.un; omega) ⟨oa, ho, hc⟩ F.slot_list_repr.toG ?_
  exact wpAny_call (codeAny_call_builtin F.slot_list_repr.plain F.entry_list_repr (F.slot_list_repr.check _ _ _ _ _ _ _ _ ⟨oa, ho, hc⟩ (F.args_list_repr_1 _)
    (list_atV (base := 0) (R := callEnd _ E) ha hna hlen hT hg (fun b _ => Clear.nil b) (ar.in1.mono (Nat.le_refl _) (by omega)) I sH (by omega) fun s' H' u I' s' => ⟨_, _, rfl, q _ _ _ I' s'⟩)))
theorem ShowC.listNil {a : Addr} (ha : H0 a = some (.lst [])) : ShowC X k n H0 (.ref a) "[]" := by
  intro pins σ A E s H v Q hz rv hg ar I sH q
  cases rv
  obtain ⟨its, rvs, ⟨oa, na, ho, hc, _, hd⟩, _⟩ := I.list (SqL.of (sH _ _ ha))
  cases rvs
  refine call_repr_slot (by have := ar.un; omega) ⟨oa, ho, hc⟩ F.slot_list_repr.toG ?_
  exact call_list_repr_empty ⟨oa, ho, hc⟩ ho hd ⟨_, _, rfl, q _ H _ (I.tok _) (Same.refl _)⟩
theorem ShowC.tuple {a : Addr} {xs : List V} {ts : List Str} (ha : ∀ H, Same H0 H → SqT X.K H a xs) (hna : a ∉ as) (hT : ShowAll X as k n H0 xs ts) : ShowC X k (n + 1) H0 (.ref a) (tupleText ts) := by
  intro pins σ A E s H v Q hz rv hg ar I sH q
  cases rv
  obtain ⟨its, rvs, ⟨o, ho, hc, na, hd⟩, _⟩ := I.tuple (ha H sH)
  refine call_repr_slot (by have := ar.un; omega) ⟨o, ho, hc⟩ F.slot_tuple_repr ?_
  exact wpAny_call (codeAny_call_builtin_own (Code.quiet_builtin _ (by decide +kernel)) F.entry_tuple_repr (F.slot_tuple_repr.check _ _ _ _ _ _ _ _ ⟨o, ho, hc⟩ (F.args_tuple_repr_1 _)
    (tuple_atV (base := 0) (R := callEnd _ E) (ha H sH) hna hT (isGuard_tuple_repr _) (units_under_tuple_repr _ _) (weight_tuple_repr _) hg (fun b _ => Clear.nil b) (ar.in1.mono (Nat.le_refl _) (by omega)) I sH (by omega) fun s' H' u I' s' => ⟨_, _, rfl, q _ _ _ I' s'⟩)))
/-- a dict, by its entries at each heap -/
theorem ShowC.dict {a : Addr} {ps : List Str} (h : ∀ (pins : List (Addr × Obj)) (σ : L2.St) (H : Hp) (s : Shared), Inv X pins σ H s → Same H0 H → ∃ o es n', s.heap.get? a = some o ∧ o.cls = .type "dict" ∧ o.data = .dict es n' ∧ (a == sysModules) = false ∧ a ∉ as ∧ ReprEntriesK X.prog X.w as s.heap n es.toList ps) : ShowC X k (n + 1) H0 (.ref a) (dictText ps) := by
  intro pins σ A E s H v Q hz rv hg ar I sH q
  cases rv
  obtain ⟨o, es, n', ho, hc, hd, hs, hna, he⟩ := h pins σ H s I sH
  refine call_repr_slot (by have := ar.un; omega) ⟨o, ho, hc⟩ F.slot_dict_repr ?_
  exact call_dict_reprK (s := s) ho hc hd hs hna he hg (fun b _ => Clear.nil b) (by have := ar.un; show A.units + 1 + (n + 1) < cLine; omega) (fun _ _ e => e) (fun h' u tk hk => ⟨_, _, rfl, q _ H _ (I.kept (t' := tk) hk) (Same.refl _)⟩) hz
theorem ShowC.ins {a C dx f : Addr} {fs : List (Str × V)} (ha : H0 a = some (.ins C dx fs)) (hF : ReprFn X k C f H0 a t) : ShowC X k n H0 (.ref a) t := by
  intro pins σ A E s H v Q hz rv hg ar I sH q
  cases rv
  obtain ⟨hr, hf, run⟩ := hF
  obtain ⟨mA, O, _⟩ := ins_get I.hok (sH _ _ ha)
  obtain ⟨od, J, _⟩ := O.look
  have KI := I.kIn
  refine Calls.call_function_entry F.kind_repr F.plain_repr F.entry_repr (F.args_repr1 _) ?_
  unfold Builtin.«repr»
  refine wpAny_bind (m := oneArg "repr" _) (wpAny_pure ?_)
  refine wpAny_bind (wpAny_cRoomFor (by have := ar.un; show A.units + 1 < cLine; omega) ?_)
  refine wpAny_bind (m := specialOf (.ref a) (Str.ofString "__repr__")) (wpAny_bind (J.type.here ((PySem.W.looks_findIn KI hr).here ?_)))
  show wpAny _ _ (if (some (Value.ref f)).isNone = true then _ else _) _ _ _
  rw [if_neg (by simp)]
  refine wpAny_bind (m := callSpecialIfBound? (.ref a) (Str.ofString "__repr__") _) (PySem.W.ifBound_K KI J hr hf (run A.in1 s H _ _ ar.in1.room (env0_at I ar.fr) sH fun s' H' u ho hgn un hok ss => ?_))
  refine wpAny_bind (wpAny_isInstance (T := "str") (b := true) (typeIs_str _ _ _) isSubtype_str_str ?_)
  have hq := q s' H' u (I.call' ho un hok hgn (ch := []) fun b z => absurd z (by simp)) ss
  first
    | exact wpAny_pure ⟨_, rfl, hq⟩
    | (rw [if_pos rfl]; exact wpAny_pure ⟨_, rfl, hq⟩)
    | (simp only [if_true]; exact wpAny_pure ⟨_, rfl, hq⟩)
end
end RL
namespace MP
open PySem PySem.Spec PyProof.Rows L2 RL
/-! ### repr of any data, instances among them -/
mutual
/-- how deep -/
def dpt : PyData → Nat
  | .list ds => dptAll ds + 1
  | .tuple ds => dptAll ds + 1
  | .dict kvs => match kvs with
    | [(.int _, d)] => dpt d + 1
    | _ => 1
  | _ => 0
def dptAll : List PyData → Nat
  | [] => 0
  | d :: ds => max (dpt d) (dptAll ds)
end
/-- what is shown of an instance by its class's own __repr__ (R) -/
abbrev Rep := Str → Option FD
def shwI (R : Rep) (cls : Str) (d : PyData) : Option Str := (R cls).bind fun G => match G [.d d] [] with
  | some (.str t, _) => some t
  | _ => none
mutual
def shw (R : Rep) : PyData → Option Str
  | .none => some (Str.ofString "None")
  | .bool b => some (if b then Str.ofString "True" else Str.ofString "False")
  | .int i => if i.natAbs.log2 < 1920 then some (Str.ofString (toString i)) else none
  | .str x => if x.length ≤ 1000 ∧ (reprText x).length ≤ 16000000 then some (reprText x) else none
  | .list ds => match ds with
    | [] => some (Str.ofString "[]")
    | d :: r => (shwAll R (d :: r)).map listText
  | .tuple ds => (shwAll R ds).map tupleText
  | .dict kvs => match kvs with
    | [] => some (dictText [])
    | [(.int i, .int j)] => if i.natAbs.log2 < 1920 ∧ j.natAbs.log2 < 1920 then some (dictText [Str.ofString (toString i) ++ ": " ++ Str.ofString (toString j)]) else none
    | [(.int i, .tuple [])] => if i.natAbs.log2 < 1920 then some (dictText [Str.ofString (toString i) ++ ": " ++ tupleText []]) else none
    | (.str cls, .list ds) :: at_ => shwI R cls (.dict ((.str cls, .list ds) :: at_))
    | _ => none
def shwAll (R : Rep) : List PyData → Option (List Str)
  | [] => some []
  | d :: ds => (shw R d).bind fun t => (shwAll R ds).map fun ts => t :: ts
end
theorem dpt_insD (cls : Str) (ds : List PyData) (at_ : List (PyData × PyData)) : dpt (.dict ((.str cls, .list ds) :: at_)) = 1 := by
  cases at_ <;> rfl
theorem dpt_inuD (cls : Str) : dpt (.dict [(.str cls, .none)]) = 1 := by rfl
section
variable {K : PySem.W.Frag} {F : Hp}
mutual
theorem dpt_one : ∀ {d : PyData} {v : V}, Dq K F v d → ∀ {e : PyData}, Dq K F v e → dpt d = dpt e
  | _, _, .non, _, h => by cases h; rfl
  | _, _, .bl b, _, h => by cases h; rfl
  | _, _, .int i, _, h => by cases h; rfl
  | _, _, .str x, _, h => by cases h; rfl
  | _, _, .lst h1 h2, _, h => by
    cases h with
    | lst g1 g2 =>
      rw [h1] at g1
      cases g1
      show dptAll _ + 1 = dptAll _ + 1
      rw [dptAll_one h2 g2]
    | tup g1 g2 =>
      obtain ⟨ob, g1, _⟩ := g1
      rw [h1] at g1
      cases g1
    | dct g =>
      cases g with
      | nil g => rw [h1] at g; cases g
      | one g _ => rw [h1] at g; cases g
      | ins g => rw [h1] at g; cases g
      | inu g => rw [h1] at g; cases g
  | _, _, .tup h1 h2, _, h => by
    obtain ⟨ob, h1, _⟩ := h1
    cases h with
    | lst g1 g2 => rw [h1] at g1; cases g1
    | tup g1 g2 =>
      obtain ⟨ob2, g1, _⟩ := g1
      rw [h1] at g1
      cases g1
      show dptAll _ + 1 = dptAll _ + 1
      rw [dptAll_one h2 g2]
    | dct g =>
      cases g with
      | nil g => rw [h1] at g; cases g
      | one g _ => rw [h1] at g; cases g
      | ins g => rw [h1] at g; cases g
      | inu g => rw [h1] at g; cases g
  | _, _, .dct h1, _, h => by
    cases h1 with
    | nil h1 =>
      cases h with
      | lst g1 g2 => rw [h1] at g1; cases g1
      | tup g1 g2 => obtain ⟨_, g1, _⟩ := g1; rw [h1] at g1; cases g1
      | dct g =>
        cases g with
        | nil g => rfl
        | one g _ => rw [h1] at g; cases g
        | ins g => rw [h1] at g; cases g
        | inu g => rw [h1] at g; cases g
    | one h1 h2 =>
      cases h with
      | lst g1 g2 => rw [h1] at g1; cases g1
      | tup g1 g2 => obtain ⟨_, g1, _⟩ := g1; rw [h1] at g1; cases g1
      | dct g =>
        cases g with
        | nil g => rw [h1] at g; cases g
        | one g g2 =>
          rw [h1] at g
          cases g
          show dpt _ + 1 = dpt _ + 1
          rw [dpt_one h2 g2]
        | ins g => rw [h1] at g; cases g
        | inu g => rw [h1] at g; cases g
    | ins h1 =>
      cases h with
      | lst g1 g2 => rw [h1] at g1; cases g1
      | tup g1 g2 => obtain ⟨_, g1, _⟩ := g1; rw [h1] at g1; cases g1
      | dct g =>
        cases g with
        | nil g => rw [h1] at g; cases g
        | one g _ => rw [h1] at g; cases g
        | ins g => exact (dpt_insD _ _ _).trans (dpt_insD _ _ _).symm
        | inu g => exact (dpt_insD _ _ _).trans (dpt_inuD _).symm
    | inu h1 =>
      cases h with
      | lst g1 g2 => rw [h1] at g1; cases g1
      | tup g1 g2 => obtain ⟨_, g1, _⟩ := g1; rw [h1] at g1; cases g1
      | dct g =>
        cases g with
        | nil g => rw [h1] at g; cases g
        | one g _ => rw [h1] at g; cases g
        | ins g => exact (dpt_inuD _).trans (dpt_insD _ _ _).symm
        | inu g => exact (dpt_inuD _).trans (dpt_inuD _).symm
theorem dptAll_one : ∀ {ds : List PyData} {vs : List V}, DqAll K F vs ds → ∀ {es : List PyData}, DqAll K F vs es → dptAll ds = dptAll es
  | _, _, .nil, _, h => by cases h; rfl
  | _, _, .cons h1 h2, _, h => by
    cases h with
    | cons g1 g2 =>
      show max (dpt _) (dptAll _) = max (dpt _) (dptAll _)
      rw [dpt_one h1 g1, dptAll_one h2 g2]
end
end
/-- no address among as is deeper -/
def LowA (K : PySem.W.Frag) (F : Hp) (as : List Addr) (n : Nat) : Prop := ∀ c ∈ as, ∃ d, Dq K F (.ref c) d ∧ dpt d ≤ n
theorem LowA.not {K : PySem.W.Frag} {F : Hp} {as : List Addr} {n : Nat} {a : Addr} {d : PyData} (h : LowA K F as n) (hd : Dq K F (.ref a) d) (hn : n < dpt d) : a ∉ as := fun z => by
  obtain ⟨e, he, hl⟩ := h a z
  have := dpt_one hd he
  omega
theorem LowA.app {K : PySem.W.Frag} {F : Hp} {as bs : List Addr} {n m l : Nat} (h : LowA K F as n) (g : LowA K F bs m) (h1 : n ≤ l) (h2 : m ≤ l) : LowA K F (as ++ bs) l := fun c hc => by
  rcases List.mem_append.mp hc with z | z
  · obtain ⟨d, q, e⟩ := h c z
    exact ⟨d, q, by omega⟩
  · obtain ⟨d, q, e⟩ := g c z
    exact ⟨d, q, by omega⟩
theorem LowA.cons {K : PySem.W.Frag} {F : Hp} {as : List Addr} {n l : Nat} {a : Addr} {d : PyData} (h : LowA K F as n) (hd : Dq K F (.ref a) d) (h1 : n ≤ l) (h2 : dpt d ≤ l) : LowA K F (a :: as) l := fun c hc => by
  rcases List.mem_cons.mp hc with rfl | z
  · exact ⟨d, hd, h2⟩
  · obtain ⟨d, q, e⟩ := h c z
    exact ⟨d, q, by omega⟩
/-- the classes' own __repr__, as they stand in the module -/
def RepsOk (X : Cx) (k : Nat) (R : Rep) : Prop := ∀ cls G, R cls = some G → CalM X.prog X.w X.K X.mg X.base k cls "__repr__" 1 G
theorem reprFn_of {X : Cx} {k : Nat} {R : Rep} {cls : Str} {C a : Addr} {F : Hp} {d : PyData} {t : Str} (hR : RepsOk X k R) (hK : InsK X.K cls C) (hd : Dq X.K F (.ref a) d) (ht : shwI R cls d = some t) : ∃ f, ReprFn X k C f F a t := by
  obtain ⟨G, e1, e2⟩ := Option.bind_eq_some_iff.mp ht
  obtain ⟨C', f, fd, ps, hK', hm, Fn, hb⟩ := (hR cls G e1).ex
  have ec := hK.one hK'
  subst ec
  split at e2
  · rename_i t' so' eg
    cases e2
    refine ⟨f, hm.at_, hm.fn, fun A s H E Q hr he sH q => ?_⟩
    have hsp : spF X.K 1 G [.ref a] H (fun v H' => v = .str t ∧ Same H H') (fun _ _ _ => False) := by
      refine ⟨rfl, F, [], [], [.d d], .str t, so', relO_nil sH, relS_cons (s := .d d) hd (relS_args .nil), eg, fun F' H' v r' s' dv => ?_⟩
      cases dv
      exact ⟨rfl, s'.same⟩
    have hl : ps.length = 1 := (Fn.len _ _ _ _ hsp).symm
    have KI : X.K.In s.heap := he.mod.kin.keeps fun b o e => (he.bs b o e).1
    have bb := hb s [.ref a] KI (by rw [hl]; rfl)
    rw [List.append_nil] at bb
    refine wpAny_call (codeAny_mono (Fn.run A X.stack s H ⟨[.ref a], []⟩ [.ref a] [.ref a] _ _ hr he bb (.cons rfl .nil) hsp) ?_)
    rintro (e | fl) s' h
    · exact h.elim
    · cases fl with
      | ret u =>
        obtain ⟨v, H', os, bare, un, hok, rv, rfl, ss⟩ := h
        obtain ⟨tk, rfl⟩ := rv
        exact q s' H' tk os bare un hok ss
      | next => exact h.elim
      | brk => exact h.elim
      | cont => exact h.elim
  · cases e2
theorem tupAt_all {K : PySem.W.Frag} {F : Hp} {a : Addr} {xs : List V} (h : TupAt F a xs) : ∀ H, Same F H → SqT K H a xs := fun H s => h.sq s
section
variable {X : Cx} {k : Nat} {R : Rep} {F : Hp}
theorem dict_nil {a : Addr} (ha : F a = some (.dK [])) {as : List Addr} {n : Nat} {pins : List (Addr × Obj)} {σ : L2.St} {H : Hp} {s : Shared} (I : Inv X pins σ H s) (sH : Same F H) :
    ∃ o es n', s.heap.get? a = some o ∧ o.cls = .type "dict" ∧ o.data = .dict es n' ∧ (a == sysModules) = false ∧ ReprEntriesK X.prog X.w as s.heap n es.toList [] := by
  obtain ⟨_, ns, vs, kv, o, es, ep, ho, ⟨hc, _, _⟩, hd, hko, hp, _⟩ := (show ObjOk X.prog X.w H s.heap a (.dK []) from I.hok a _ (sH _ _ ha))
  refine ⟨o, es, ep, ho, hc, hd, ns, ?_⟩
  cases kv
  generalize es.toList = l at hp
  cases hp
  exact .nil
/-- the entries of a dict of one number -/
theorem dict_one {a : Addr} {i : Int} {v : V} (hi : i.natAbs.log2 < 1920) (ha : F a = some (.dK [(Sum.inl i, v)])) {as : List Addr} {n : Nat} {t : Str} {pins : List (Addr × Obj)} {σ : L2.St} {H : Hp} {s : Shared} (I : Inv X pins σ H s) (sH : Same F H) (hv : ∀ u, RelV v u → ReprK X.prog X.w as s.heap n u t) :
    ∃ o es n', s.heap.get? a = some o ∧ o.cls = .type "dict" ∧ o.data = .dict es n' ∧ (a == sysModules) = false ∧ ReprEntriesK X.prog X.w as s.heap n es.toList [Str.ofString (toString i) ++ ": " ++ t] := by
  obtain ⟨_, ns, vs, kv, o, es, ep, ho, ⟨hc, _, _⟩, hd, hko, hp, _⟩ := (show ObjOk X.prog X.w H s.heap a (.dK [(Sum.inl i, v)]) from I.hok a _ (sH _ _ ha))
  refine ⟨o, es, ep, ho, hc, hd, ns, ?_⟩
  cases kv with
  | @cons _ q _ _ hkv ht =>
    cases ht
    obtain ⟨qk, qv⟩ := q
    obtain ⟨e1, e2⟩ := hkv
    have e1 : Sum.inl i = qk := e1
    subst e1
    generalize es.toList = l at hp
    cases hp with
    | @cons e _ _ _ h1 h2 h3 =>
      cases h3
      obtain ⟨tk, e3⟩ := Value.isInt_shape (k := i) (v := e.key) h1
      refine .cons ?_ ?_ .nil
      · rw [e3]
        exact .of_is (ReprIs.int tk hi) _ _ _
      · rw [h2]
        exact hv _ e2
/-- the value in such a dict: a number, or the empty tuple -/
theorem val_one {v : V} {d : PyData} {t : Str} (hd : Dq X.K F v d) (h : (∃ j : Int, d = .int j ∧ j.natAbs.log2 < 1920 ∧ t = Str.ofString (toString j)) ∨ (d = .tuple [] ∧ t = tupleText [])) :
    ∃ as, LowA X.K F as (dpt d) ∧ ∀ (pins : List (Addr × Obj)) (σ : L2.St) (H : Hp) (s : Shared), Inv X pins σ H s → Same F H → ∀ u, RelV v u → ReprK X.prog X.w as s.heap (dpt d) u t := by
  rcases h with ⟨j, rfl, hj, rfl⟩ | ⟨rfl, rfl⟩
  · cases hd
    refine ⟨[], (fun _ h => nomatch h), fun pins σ H s I sH u r => ?_⟩
    obtain ⟨tk, rfl⟩ := r
    exact .of_is (ReprIs.int tk hj) _ _ _
  · cases id hd with
    | tup h1 h2 =>
      rename_i c xs
      cases h2
      refine ⟨[c], LowA.cons (fun _ h => nomatch h) hd (Nat.le_refl _) (Nat.le_refl _), fun pins σ H s I sH u r => ?_⟩
      cases r
      obtain ⟨its, rv, ⟨o, ho, hc, n', hdat⟩, _⟩ := I.tuple (h1.sq sH)
      cases rv
      exact ReprK.tuple (d := 0) ho hc hdat (by simp) .nil
/-- what is shown of odd data -/
theorem odd_cases {kvs : List (PyData × PyData)} {t : Str} (ht : shw R (.dict kvs) = some t) : (kvs = [] ∧ t = dictText []) ∨
    (∃ (i : Int) (d : PyData) (u : Str), kvs = [(.int i, d)] ∧ i.natAbs.log2 < 1920 ∧ ((∃ j : Int, d = .int j ∧ j.natAbs.log2 < 1920 ∧ u = Str.ofString (toString j)) ∨ (d = .tuple [] ∧ u = tupleText [])) ∧ t = dictText [Str.ofString (toString i) ++ ": " ++ u]) ∨
    ∃ cls ds at_, kvs = (.str cls, .list ds) :: at_ ∧ shwI R cls (.dict kvs) = some t := by
  unfold shw at ht
  split at ht
  · cases ht; exact .inl ⟨rfl, rfl⟩
  · obtain ⟨hc, rfl⟩ := if_some ht
    exact .inr (.inl ⟨_, _, _, rfl, hc.1, .inl ⟨_, rfl, hc.2, rfl⟩, rfl⟩)
  · obtain ⟨hc, rfl⟩ := if_some ht
    exact .inr (.inl ⟨_, _, _, rfl, hc, .inr ⟨rfl, rfl⟩, rfl⟩)
  · exact .inr (.inr ⟨_, _, _, rfl, ht⟩)
  · cases ht
theorem dpt_pair (i : Int) (d : PyData) : dpt (.dict [(.int i, d)]) = dpt d + 1 := by rfl
theorem dpt_ins (cls : Str) (ds : List PyData) (at_ : List (PyData × PyData)) : dpt (.dict ((.str cls, .list ds) :: at_)) = 1 := by
  cases at_ <;> rfl
theorem show_odd (hR : RepsOk X k R) {a : Addr} {kvs : List (PyData × PyData)} (h : OddAt X.K F a kvs) {t : Str} (ht : shw R (.dict kvs) = some t) :
    ∃ as, LowA X.K F as (dpt (.dict kvs)) ∧ ShowV X as k (dpt (.dict kvs)) F (.ref a) t := by
  have hd : Dq X.K F (.ref a) (.dict kvs) := .dct h
  rcases odd_cases ht with ⟨rfl, rfl⟩ | ⟨i, d, u, rfl, hi, hu, rfl⟩ | ⟨cls, ds, at_, rfl, hs⟩
  · cases h with
    | nil ha =>
      refine ⟨[a], LowA.cons (fun _ h => nomatch h) hd (Nat.zero_le _) (Nat.le_refl _), ShowV.kit fun pins σ H s I sH => ?_⟩
      obtain ⟨o, es, n', ho, hc, hdat, ns, he⟩ := dict_nil (as := []) (n := 0) ha I sH
      exact ReprK.dict ho hc hdat ns (by simp) he
  · cases h with
    | one ha hv =>
      obtain ⟨as, lo, hk⟩ := val_one hv hu
      rw [dpt_pair] at *
      refine ⟨a :: as, lo.cons hd (Nat.le_succ _) (Nat.le_of_eq (dpt_pair _ _)), ShowV.kit fun pins σ H s I sH => ?_⟩
      obtain ⟨o, es, n', ho, hc, hdat, ns, he⟩ := dict_one hi ha I sH (hk pins σ H s I sH)
      exact ReprK.dict ho hc hdat ns (lo.not hd (by rw [dpt_pair]; exact Nat.lt_succ_self _)) he
  · cases id h with
    | ins h1 h2 =>
      obtain ⟨f, hf⟩ := reprFn_of hR h2 hd hs
      rw [dpt_ins] at *
      exact ⟨[], (fun _ h => nomatch h), ShowV.ins h1 hf⟩
mutual
theorem show_v (hR : RepsOk X k R) : ∀ {v : V} {d : PyData}, Dq X.K F v d → ∀ {t : Str}, shw R d = some t → t.length ≤ sizeLine → ∃ as, LowA X.K F as (dpt d) ∧ ShowV X as k (dpt d) F v t
  | _, _, .non, t, ht, _ => by cases ht; exact ⟨[], (fun _ h => nomatch h), .non⟩
  | _, _, .bl b, t, ht, _ => by cases ht; exact ⟨[], (fun _ h => nomatch h), .bl b⟩
  | _, _, .int i, t, ht, _ => by
    obtain ⟨hc, rfl⟩ := if_some (show (if i.natAbs.log2 < 1920 then some (Str.ofString (toString i)) else none) = some t from ht)
    exact ⟨[], (fun _ h => nomatch h), .int hc⟩
  | _, _, .str x, t, ht, hz => by
    obtain ⟨hc, rfl⟩ := if_some (show (if x.length ≤ 1000 ∧ (reprText x).length ≤ 16000000 then some (reprText x) else none) = some t from ht)
    exact ⟨[], (fun _ h => nomatch h), .str hz⟩
  | _, _, .lst (ds := []) h1 h2, t, ht, hz => by
    cases ht
    cases h2
    exact ⟨[], (fun _ h => nomatch h), .listNil h1⟩
  | _, _, .lst (ds := d :: r) h1 h2, t, ht, hz => by
    obtain ⟨ts, e1, rfl⟩ := Option.map_eq_some_iff.mp (show (shwAll R (d :: r)).map listText = some t from ht)
    obtain ⟨as, lo, hs⟩ := show_all hR h2 e1 (Nat.le_trans (piled_le_listText ts) hz)
    have hd : Dq X.K F (.ref _) (.list (d :: r)) := .lst h1 h2
    cases h2 with
    | cons g1 g2 =>
      refine ⟨_ :: as, lo.cons hd (Nat.le_succ _) (Nat.le_refl _), ShowV.list h1 (lo.not hd (Nat.lt_succ_self _)) hs.length fun i y hy => hs.item i y hy⟩
  | _, _, .tup h1 h2, t, ht, hz => by
    rename_i a xs ds
    obtain ⟨ts, e1, rfl⟩ := Option.map_eq_some_iff.mp (show (shwAll R ds).map tupleText = some t from ht)
    obtain ⟨as, lo, hs⟩ := show_all hR h2 e1 (Nat.le_trans (piled_le_tupleText ts) hz)
    have hd : Dq X.K F (.ref a) (.tuple ds) := .tup h1 h2
    exact ⟨a :: as, lo.cons hd (Nat.le_succ _) (Nat.le_refl _), ShowV.tuple (tupAt_all h1) (lo.not hd (Nat.lt_succ_self _)) hs⟩
  | _, _, .dct h, t, ht, hz => show_odd hR h ht
theorem show_all (hR : RepsOk X k R) : ∀ {vs : List V} {ds : List PyData}, DqAll X.K F vs ds → ∀ {ts : List Str}, shwAll R ds = some ts → piled ts ≤ sizeLine → ∃ as, LowA X.K F as (dptAll ds) ∧ ShowAll X as k (dptAll ds) F vs ts
  | _, _, .nil, ts, ht, _ => by cases ht; exact ⟨[], (fun _ h => nomatch h), .nil⟩
  | _, _, .cons (d := d) (ds := ds) h1 h2, ts, ht, hz => by
    obtain ⟨t, e1, e2⟩ := Option.bind_eq_some_iff.mp (show ((shw R d).bind fun t => (shwAll R ds).map fun ts => t :: ts) = some ts from ht)
    obtain ⟨us, e3, rfl⟩ := Option.map_eq_some_iff.mp e2
    rw [piled_cons] at hz
    obtain ⟨as, l1, s1⟩ := show_v hR h1 e1 (by omega)
    obtain ⟨bs, l2, s2⟩ := show_all hR h2 e3 (by omega)
    refine ⟨as ++ bs, l1.app l2 (Nat.le_max_left _ _) (Nat.le_max_right _ _), .cons ((s1.more fun b hb => List.mem_append_left _ hb).level (Nat.le_refl _) (Nat.le_max_left _ _)) (s2.more_le (fun b hb => List.mem_append_right _ hb) (Nat.le_max_right _ _))⟩
end
/-- repr(x) -/
theorem show_c (hR : RepsOk X k R) {v : V} {d : PyData} (hd : Dq X.K F v d) {t : Str} (ht : shw R d = some t) {pins : List (Addr × Obj)} {σ : L2.St} {A : Around} {E : Value → Shared → Prop} {s : Shared} {H : Hp} {u : Value} {Q : Value → Shared → Prop} (hz : t.length ≤ sizeLine) (r : RelV v u) (hg : A.guards = some []) (ar : ArR X k (dpt d + 2) A) (I : Inv X pins σ H s) (sH : Same F H)
    (q : ∀ s' H' u, Inv X pins σ H' s' → Same H H' → Q (.str t u) s') : wpAny (model X.prog X.w) A (call (.builtin "repr") [u]) Q E s := by
  cases id hd with
  | non => cases r; cases ht; exact P.repr_of_none (q _ H _ (I.tok _) (Same.refl _))
  | bl b => cases r; cases ht; exact P.repr_of_bool (q _ H _ (I.tok _) (Same.refl _))
  | int i =>
    obtain ⟨tk, rfl⟩ := r
    obtain ⟨hc, rfl⟩ := if_some (show (if i.natAbs.log2 < 1920 then some (Str.ofString (toString i)) else none) = some t from ht)
    exact P.repr_of_int hc (q _ H _ (I.tok _) (Same.refl _))
  | str x =>
    obtain ⟨tk, rfl⟩ := r
    obtain ⟨hc, rfl⟩ := if_some (show (if x.length ≤ 1000 ∧ (reprText x).length ≤ 16000000 then some (reprText x) else none) = some t from ht)
    exact P.repr_of_str (q _ H _ (I.tok _) (Same.refl _)) hz
  | lst h1 h2 =>
    rename_i a xs ds
    cases ds with
    | nil => cases ht; cases h2; exact ShowC.listNil (n := 0) h1 pins σ A E s H u Q hz r hg (ar.mono (Nat.le_refl _) (by omega)) I sH q
    | cons d ds =>
      obtain ⟨ts, e1, rfl⟩ := Option.map_eq_some_iff.mp (show (shwAll R (d :: ds)).map listText = some t from ht)
      obtain ⟨as, lo, hs⟩ := show_all hR h2 e1 (Nat.le_trans (piled_le_listText ts) hz)
      cases h2 with
      | cons g1 g2 => exact ShowC.list h1 (lo.not hd (Nat.lt_succ_self _)) hs.length (fun i y hy => hs.item i y hy) pins σ A E s H u Q hz r hg (ar.mono (Nat.le_refl _) (show dptAll (d :: ds) + 1 + 1 ≤ dptAll (d :: ds) + 1 + 2 by omega)) I sH q
  | tup h1 h2 =>
    rename_i a xs ds
    obtain ⟨ts, e1, rfl⟩ := Option.map_eq_some_iff.mp (show (shwAll R ds).map tupleText = some t from ht)
    obtain ⟨as, lo, hs⟩ := show_all hR h2 e1 (Nat.le_trans (piled_le_tupleText ts) hz)
    exact ShowC.tuple (tupAt_all h1) (lo.not hd (Nat.lt_succ_self _)) hs pins σ A E s H u Q hz r hg (ar.mono (Nat.le_refl _) (show dptAll ds + 1 + 1 ≤ dptAll ds + 1 + 2 by omega)) I sH q
  | dct h =>
    rename_i a kvs
    rcases odd_cases ht with ⟨rfl, rfl⟩ | ⟨i, d, w, rfl, hi, hu, rfl⟩ | ⟨cls, ds, at_, rfl, hs⟩
    · cases h with
      | nil ha =>
        exact ShowC.dict (as := []) (n := 0) (fun pins σ H s I sH => by
          obtain ⟨o, es, n', ho, hc, hdat, ns, he⟩ := dict_nil (as := []) (n := 0) ha I sH
          exact ⟨o, es, n', ho, hc, hdat, ns, by simp, he⟩) pins σ A E s H u Q hz r hg (ar.mono (Nat.le_refl _) (by omega)) I sH q
    · cases h with
      | one ha hv =>
        obtain ⟨as, lo, hk⟩ := val_one hv hu
        rw [dpt_pair] at ar
        exact ShowC.dict (as := as) (n := dpt d) (fun pins σ H s I sH => by
          obtain ⟨o, es, n', ho, hc, hdat, ns, he⟩ := dict_one hi ha I sH (hk pins σ H s I sH)
          exact ⟨o, es, n', ho, hc, hdat, ns, lo.not hd (by rw [dpt_pair]; exact Nat.lt_succ_self _), he⟩) pins σ A E s H u Q hz r hg (ar.mono (Nat.le_refl _) (by omega)) I sH q
    · cases id h with
      | ins h1 h2 =>
        obtain ⟨f, hf⟩ := reprFn_of hR h2 hd hs
        exact ShowC.ins (n := 0) h1 hf pins σ A E s H u Q hz r hg (ar.mono (Nat.le_refl _) (by omega)) I sH q
end
/-! ### as the mirror tells it -/
def fitsR (R : Rep) (d : PyData) : Option Str := if dpt d ≤ 40 then (shw R d).bind fun t => if t.length ≤ 16000000 then some t else none else none
def eRepr (R : Rep) (f : DE) : DE := fun ρ so => (f ρ so).bind fun p => (fitsR R p.1).map fun t => (.str t, p.2)
def rReprO (X : Cx) (R : Rep) : List V → Hp → VK → Prop := fun xs H Q => ∃ (F : Hp) (x : V) (d : PyData) (t : Str), xs = [x] ∧ Same F H ∧ Dq X.K F x d ∧ fitsR R d = some t ∧ ∀ H', Same H H' → Q (.str t) H'
theorem cr_reprO {X : Cx} {k j : Nat} {R : Rep} (hR : RepsOk X k R) (hg : X.A.guards = some []) (hr : Room j X.A) (hk : k + 16 ≤ j) : CallR X (.builtin "repr") (rReprO X R) := by
  intro pins s σ H xs us Q I r h
  obtain ⟨F, x, d, t, rfl, sF, hd, ht, q⟩ := h
  obtain ⟨u, rfl, r1⟩ := vals1 r
  unfold fitsR at ht
  obtain ⟨hc, ht⟩ : dpt d ≤ 40 ∧ ((shw R d).bind fun t => if t.length ≤ 16000000 then some t else none) = some t := by
    split at ht
    · exact ⟨by assumption, ht⟩
    · cases ht
  obtain ⟨t', e1, e2⟩ := Option.bind_eq_some_iff.mp ht
  obtain ⟨hz, rfl⟩ := if_some e2
  refine show_c hR hd e1 (by rw [sizeLine_eq]; omega) r1 hg ⟨hr.hd, I.ok.frames, by have := hr.dp; omega, by have := hr.un; omega⟩ I sF fun s' H' u' I' ss => ?_
  exact ⟨.str _, H', I', ⟨_, rfl⟩, q H' ss⟩
theorem tOf_repr {X : Cx} {R : Rep} {f : DE} (σ : L2.St) (H : Hp) (Q : VK) (h : tOf X.K (eRepr R f) σ H Q) : tCB (rReprO X R) (tCons (tOf X.K f) tNil) σ H Q := by
  obtain ⟨F, ow, ρ, so, d, so', r0, rs, e, k⟩ := h
  obtain ⟨⟨d1, so1⟩, e1, e2⟩ := Option.bind_eq_some_iff.mp e
  obtain ⟨t, e3, e4⟩ := Option.map_eq_some_iff.mp e2
  cases e4
  refine ⟨F, ow, ρ, so, d1, _, r0, rs, e1, fun F1 H1 v r1 s1 d1 => ⟨F1, v, _, t, rfl, r1.sub, d1, e3, fun H' ss => ?_⟩⟩
  have sT : Stp [] F1 H1 F1 H' := ⟨Same.refl _, fun b o _ hb => ss b o hb, fun _ _ _ _ h => h, fun b hb => by
    cases q : H1 b with
    | none => exact absurd q hb
    | some o => rw [ss b o q]; exact nofun⟩
  exact k F1 H' _ (r1.grow sT (r1.sub.trans ss)) (s1.trans sT.some_of) (.str t)
theorem pd_reprO {X : Cx} {k j : Nat} {R : Rep} {e : Expr} {f : DE} {p pos : Pos} (hR : RepsOk X k R) (hgd : X.A.guards = some []) (hr : Room j X.A) (hk : k + 16 ≤ j) (hg : Gl X "repr") (hm : X.mg "repr" = none) (ha : PD X e f)
    (hs : starEach [e] X.env = (false, eval e X.env) :: starEach [] X.env := by rfl) (hpl : (backTo pos (starEach [] X.env)).any (·.1) = false := by rfl) : PD X (.Call (.Name "repr" p) [e] [] pos) (eRepr R f) :=
  (pe_callB (cr_reprO hR hgd hr hk) hg hm (by decide +kernel) (pa_cons ha pa_nil hs) (by decide) (by decide) hs hpl).imp tOf_repr
theorem ev_eRepr {R : Rep} {f : DE} {ρ : Slots} {so : Sto} {cq : CQ (PyData × Sto)} : @EvI _ (eRepr R f ρ so) cq ↔ @EvI _ (f ρ so) ⟨fun p => @EvI _ (fitsR R p.1) ⟨fun t => cq.q (.str t, p.2)⟩⟩ := by
  unfold eRepr
  rw [ev_bind]
  constructor
  · rintro ⟨a, e, h⟩
    exact ⟨a, e, ev_map.mp h⟩
  · rintro ⟨a, e, h⟩
    exact ⟨a, e, ev_map.mpr h⟩
end MP
namespace MP
open PySem PySem.Spec PyProof.Rows L2 RL
/-! ### an instance in a slot: frozen, its states told with it; or done, its states at a place of the def's own -/
inductive Ist where
  | fz (ds : List PyData)
  | lv (k : Nat)
def insOf (i : Nat) (ρ : Slots) : Option (Str × List (PyData × PyData) × Ist) := match ρ[i]? with
  | some (some (.d (.dict ((.str cls, .list ds) :: at_)))) => some (cls, at_, .fz ds)
  | some (some (.x (.c cls at_ k))) => some (cls, atD at_, .lv k)
  | _ => none
def atGet (f : Str) : List (PyData × PyData) → Option PyData
  | (.str g, d) :: r => if g = f then some d else atGet f r
  | _ => none
def IstOk (K : PySem.W.Frag) (F : Hp) (ow : Ads) (l : Addr) : Ist → Prop
  | .fz ds => ∃ xs, F l = some (.lst xs) ∧ DqAll K F xs ds
  | .lv k => ow[k]? = some (some l)
structure InsR (K : PySem.W.Frag) (F : Hp) (ow : Ads) (a : Addr) (cls : Str) (at_ : List (PyData × PyData)) (st : Ist) : Prop where
  ex : ∃ (C dx l : Addr) (fs : List (Str × V)), F a = some (.ins C dx fs) ∧ InsK K cls C ∧ fs.lookup ("states" : Str) = some (V.ref l) ∧ DqAt K F fs at_ ∧ (∀ f : Str, fs.lookup f ≠ none → f = "states" ∨ PyData.str f ∈ at_.map (·.1)) ∧ IstOk K F ow l st
section
variable {K : PySem.W.Frag} {F H : Hp} {ow : Ads} {so : Sto} {σ : L2.St} {ρ : Slots} {i : Nat} {cls : Str} {at_ : List (PyData × PyData)} {st : Ist}
theorem ins_at (rs : RelS K F ow σ ρ) (h : insOf i ρ = some (cls, at_, st)) : ∃ a, σ[i]? = some (some (V.ref a)) ∧ InsR K F ow a cls at_ st := by
  unfold insOf at h
  split at h
  · rename_i c ds at0 hs
    cases h
    obtain ⟨v, hv, q⟩ := rs.get hs
    have q : Dq K F v (.dict ((.str cls, .list ds) :: at_)) := q
    cases q with
    | dct q =>
      cases q with
      | ins h1 h2 h3 h4 h5 h6 h7 => exact ⟨_, hv, ⟨_, _, _, _, h1, h2, h3, h6, h7, _, h4, h5⟩⟩
  · rename_i c at0 k hs
    cases h
    obtain ⟨v, hv, q⟩ := rs.get hs
    have q : SxOk K F ow v (.c cls at0 k) := q
    cases q with
    | c h1 h2 =>
      obtain ⟨C, dx, fs, g1, g2, g3, g4, g5⟩ := h1.ex
      refine ⟨_, hv, ⟨C, dx, _, fs, g1, g2, g4, dqAt_of g3, fun f hf => ?_, h2⟩⟩
      rcases g5 f hf with z | z
      · exact .inl z
      · refine .inr ?_
        obtain ⟨p, hp, e⟩ := List.mem_map.mp z
        unfold atD
        rw [List.map_map]
        exact List.mem_map.mpr ⟨p, hp, by rw [← e]; rfl⟩
  · cases h
theorem at_get {fs : List (Str × V)} {f : Str} {d : PyData} : ∀ {at_ : List (PyData × PyData)}, DqAt K F fs at_ → atGet f at_ = some d → ∃ v, fs.lookup f = some v ∧ Dq K F v d
  | _, .nil, h => by cases h
  | _, .cons (f := g) (d := e) (r := r) h1 h2 h3, h => by
    have h : (if g = f then some e else atGet f r) = some d := h
    by_cases hg : g = f
    · rw [if_pos hg] at h
      cases h
      subst hg
      exact ⟨_, h1, h2⟩
    · rw [if_neg hg] at h
      exact at_get h3 h
end
def isAtr (f : Str) : Bool := decide (f = "attributes") || decide (f = "states") || decide (f = "limit")
theorem isAtr_mem {f : Str} (h : isAtr f = true) : f ∈ (["attributes", "states", "limit"] : List Str) := by
  unfold isAtr at h
  simp only [Bool.or_eq_true, decide_eq_true_eq] at h
  rcases h with (rfl | rfl) | rfl
  · exact .head _
  · exact .tail _ (.head _)
  · exact .tail _ (.tail _ (.head _))
/-! #### x.f -/
def eFldI (i : Nat) (f : Str) : DE := fun ρ so => (insOf i ρ).bind fun p => if isAtr f then (atGet f p.2.1).map fun d => (d, so) else none
theorem tOf_fldI {K : PySem.W.Frag} {i : Nat} {f : Str} (σ : L2.St) (H : Hp) (Q : VK) (h : tOf K (eFldI i f) σ H Q) : tFld K (tVar i) f σ H Q := by
  obtain ⟨F, ow, ρ, so, d, so', r0, rs, e, k⟩ := h
  obtain ⟨⟨cls, at_, st⟩, e1, e2⟩ := Option.bind_eq_some_iff.mp e
  obtain ⟨hf, e3⟩ : isAtr f = true ∧ ((atGet f at_).map fun d => (d, so)) = some (d, so') := by
    split at e2
    · exact ⟨by assumption, e2⟩
    · cases e2
  obtain ⟨d', e4, e5⟩ := Option.map_eq_some_iff.mp e3
  cases e5
  obtain ⟨a, ha, I⟩ := ins_at rs e1
  obtain ⟨C, dx, l, fs, h1, h2, h3, h4, h5, h6⟩ := I.ex
  obtain ⟨v, hv, hd⟩ := at_get h4 e4
  exact ⟨_, ha, a, C, dx, fs, v, rfl, r0.sub _ _ h1, h2.cl, h2.na f (isAtr_mem hf), hv, k F H v r0 (Stp.refl _ _ _) hd⟩
section
variable {X : Cx} {i : Nat} {y f : Str} {p1 pos : Pos}
theorem pd_fldI (hN : X.N[i]? = some y) (hv : Vis X.env.scope y) (hd : (y == ("__debug__" : Str)) = false := by decide) (hcd : (y == ("__classdict__" : Str)) = false := by decide)
    (hb : attributeBase (.Name y p1) f X.env (eval (.Name y p1) X.env) = eval (.Name y p1) X.env := by rfl) : PD X (.Attribute (.Name y p1) f pos) (eFldI i f) := (pe_fld (pe_var hN hv hd hcd) hb).imp tOf_fldI
end
/-! #### x.states[e] -/
def statesOf (so : Sto) : Ist → Option (List PyData)
  | .fz ds => some ds
  | .lv k => match so[k]? with
    | some (.lst ds) => some ds
    | _ => none
theorem statesOf_lv {so : Sto} {j : Nat} {ds : List PyData} (h : statesOf so (.lv j) = some ds) : ∃ e, so[j]? = some (.lst e) ∧ e = ds := by
  have h : (match so[j]? with | some (.lst e) => some e | _ => none) = some ds := h
  split at h
  · rename_i e hj
    cases h
    exact ⟨_, hj, rfl⟩
  · cases h
def atD1 (ds : List PyData) : PyData → Option PyData
  | .int n => atI ds n
  | _ => none
def eStI (i : Nat) (b : DE) : DE := fun ρ so => (insOf i ρ).bind fun p => (b ρ so).bind fun q => (statesOf q.2 p.2.2).bind fun ds => (atD1 ds q.1).map fun d => (d, q.2)
theorem tOf_stI {K : PySem.W.Frag} {i : Nat} {b : DE} (σ : L2.St) (H : Hp) (Q : VK) (h : tOf K (eStI i b) σ H Q) : tOp (rIxL K) (tFld K (tVar i) "states") (tOf K b) σ H Q := by
  obtain ⟨F, ow, ρ, so, d, so', r0, rs, e, k⟩ := h
  obtain ⟨⟨cls, at_, st⟩, e1, e2⟩ := Option.bind_eq_some_iff.mp e
  obtain ⟨⟨x, so1⟩, e3, e4⟩ := Option.bind_eq_some_iff.mp e2
  obtain ⟨ds, e5, e6⟩ := Option.bind_eq_some_iff.mp e4
  obtain ⟨d', e7, e8⟩ := Option.map_eq_some_iff.mp e6
  cases e8
  obtain ⟨a, ha, I⟩ := ins_at rs e1
  obtain ⟨C, dx, l, fs, h1, h2, h3, h4, h5, h6⟩ := I.ex
  refine ⟨_, ha, a, C, dx, fs, .ref l, rfl, r0.sub _ _ h1, h2.cl, h2.na _ (.tail _ (.head _)), h3, F, ow, ρ, so, x, _, r0, rs, e3, fun F1 H1 v1 r1 s1 d1 => ?_⟩
  cases x with
  | int n =>
    have e7 : atI ds n = some d := e7
    cases d1
    obtain ⟨us, hus, hds⟩ : ∃ us, H1 l = some (.lst us) ∧ DqAll K F1 us ds := by
      cases st with
      | fz ds0 =>
        cases e5
        obtain ⟨xs, g1, g2⟩ := h6
        exact ⟨xs, r1.sub _ _ (s1.fz _ _ g1), dqAll_same s1.fz _ _ g2⟩
      | lv j =>
        have h6 : ow[j]? = some (some l) := h6
        obtain ⟨ds1, hj, rfl⟩ := statesOf_lv e5
        obtain ⟨b, vs, hb, _, hvs, hd⟩ := r1.lst hj
        rw [h6] at hb
        cases hb
        exact ⟨vs, hvs, hd⟩
    obtain ⟨v, g, q⟩ := atI_dq hds e7
    exact ⟨l, us, n, v, rfl, rfl, SqL.of hus, g, k F1 H1 v r1 s1 q⟩
  | _ => cases e7
section
variable {X : Cx} {i : Nat} {y : Str} {b : Expr} {fb : DE} {p1 p2 pos : Pos}
theorem pd_stI (hN : X.N[i]? = some y) (hv : Vis X.env.scope y) (hb : PD X b fb) (hs : PlainIx b) (hd : (y == ("__debug__" : Str)) = false := by decide) (hcd : (y == ("__classdict__" : Str)) = false := by decide)
    (hbase : attributeBase (.Name y p1) "states" X.env (eval (.Name y p1) X.env) = eval (.Name y p1) X.env := by rfl) : PD X (.Subscript (.Attribute (.Name y p1) "states" p2) b pos) (eStI i fb) := (pe_ix ix_list (pe_fld (pe_var hN hv hd hcd) hbase) hb hs).imp tOf_stI
end
/-! #### a def that is handed the instance -/
def back1 (so : Sto) (k : Nat) (r : PyData × Sto) : Option (PyData × Sto) := match r.2 with
  | [w] => some (r.1, so.set k w)
  | _ => none
def callI (G : FD) (i : Nat) (ds : List PyData) (ρ : Slots) (so : Sto) : Option (PyData × Sto) := match ρ[i]? with
  | some (some (.d d)) => (G (.d d :: ds.map .d) []).map fun r => (r.1, so)
  | some (some (.x (.c cls at_ k))) => match so[k]? with
    | some (.lst ss) => (G (.x (.c cls at_ 0) :: ds.map .d) [.lst ss]).bind (back1 so k)
    | _ => none
  | _ => none
theorem back1_of {so so' : Sto} {k : Nat} {r : PyData × Sto} {d : PyData} (h : back1 so k r = some (d, so')) : ∃ w, r = (d, [w]) ∧ so' = so.set k w := by
  obtain ⟨y, o⟩ := r
  match o, h with
  | [w], h => cases h; exact ⟨w, rfl, rfl⟩
theorem spF_callI {K : PySem.W.Frag} {G : FD} {n i : Nat} {F1 H1 : Hp} {ow : Ads} {so1 so' : Sto} {σ : L2.St} {ρ : Slots} {v : V} {vs : List V} {ds : List PyData} {d : PyData} {Q : VK} {E : XK} (r1 : RelO K F1 H1 ow so1) (rs : RelS K F1 ow σ ρ) (hv : σ[i]? = some (some v)) (d1 : DqAll K F1 vs ds) (hn : ds.length + 1 = n)
    (e : callI G i ds ρ so1 = some (d, so')) (kk : ∀ F' H' u, RelO K F' H' ow so' → Stp ow F1 H1 F' H' → Dq K F' u d → Q u H') : spF K n G (v :: vs) H1 Q E := by
  unfold callI at e
  split at e
  · rename_i x hx
    obtain ⟨⟨y, so2⟩, e1, e2⟩ := Option.map_eq_some_iff.mp e
    cases e2
    obtain ⟨u, hu, q⟩ := rs.get hx
    rw [hv] at hu
    cases hu
    have q : Dq K F1 v x := q
    have ra : RelS K F1 [] ((v :: vs).map some) ((Sl.d x :: ds.map Sl.d).map some) := by
      rw [List.map_cons, List.map_cons]
      exact relS_cons (s := .d x) q (relS_args d1)
    exact ⟨by rw [List.length_cons, d1.len]; exact hn, F1, [], [], _, _, so2, r1.none, ra, e1, fun F2 H2 w r2 s2 dw => kk F2 H2 w (r1.grow s2 r2.sub) s2.some_of dw⟩
  · rename_i cls at_ k hx
    split at e
    · rename_i ss hk
      obtain ⟨r, e1, e2⟩ := Option.bind_eq_some_iff.mp e
      obtain ⟨w, rfl, rfl⟩ := back1_of e2
      obtain ⟨u, hu, q⟩ := rs.get hx
      rw [hv] at hu
      cases hu
      have q : SxOk K F1 ow v (.c cls at_ k) := q
      cases q with
      | c g1 g2 =>
        refine ⟨by rw [List.length_cons, d1.len]; exact hn, F1, [some _], [.lst ss], _, _, [w], r1.one g2 hk, relS_cons (s := .x (.c cls at_ 0)) (SxOk.c g1 rfl) (relS_args d1), e1, fun F2 H2 w2 r2 s2 dw => ?_⟩
        obtain ⟨p1, p2⟩ := r1.back g2 hk r2 s2
        exact kk F2 H2 w2 p1 p2 dw
    · cases e
  · cases e
/-! #### x.f, a property -/
structure CalP (P : Program) (w : World) (K : PySem.W.Frag) (mg : Str → Option Value) (base : Heap) (k : Nat) (cls f : Str) (G : FD) : Prop where
  ex : ∃ (C p g : Addr) (fd : FuncData) (ps : List Str), InsK K cls C ∧ PropOf K C f p g ∧ FnOk P w K mg base CX0 k g fd ps (spF K 1 G) ∧ Binds K fd ps []
def eProp (cls f : Str) (G : FD) (i : Nat) : DE := fun ρ so => (insOf i ρ).bind fun p => if p.1 = cls then callI G i [] ρ so else none
theorem pd_prop {X : Cx} {k j i : Nat} {cls f y : Str} {G : FD} {p1 pos : Pos} (c : CalP X.prog X.w X.K X.mg X.base k cls f G) (hr : Room j X.A) (hk : k + 1 ≤ j) (hN : X.N[i]? = some y) (hv : Vis X.env.scope y) (hd : (y == ("__debug__" : Str)) = false := by decide) (hcd : (y == ("__classdict__" : Str)) = false := by decide)
    (hb : attributeBase (.Name y p1) f X.env (eval (.Name y p1) X.env) = eval (.Name y p1) X.env := by rfl) : PD X (.Attribute (.Name y p1) f pos) (eProp cls f G i) := by
  obtain ⟨C, p, g, fd, ps, hK, hp, F, hbn⟩ := c.ex
  refine (pe_prop (E := fun _ _ _ => False) (pe_var hN hv hd hcd) hK.cl hp F (hr.mono hk) hbn .nil (fun _ _ _ _ _ _ _ h => h.elim) hb).imp fun σ H Q h => ?_
  obtain ⟨F0, ow, ρ, so, d, so', r0, rs, e, kk⟩ := h
  obtain ⟨⟨c, at_, st⟩, e1, e2⟩ := Option.bind_eq_some_iff.mp e
  obtain ⟨hc, e3⟩ : c = cls ∧ callI G i [] ρ so = some (d, so') := by
    split at e2
    · exact ⟨by assumption, e2⟩
    · cases e2
  subst hc
  obtain ⟨a, ha, I⟩ := ins_at rs e1
  obtain ⟨C', dx, l, fs, h1, h2, h3, h4, h5, h6⟩ := I.ex
  have ec := hK.one h2
  subst ec
  exact ⟨_, ha, a, dx, fs, rfl, r0.sub _ _ h1, spF_callI r0 rs ha .nil rfl e3 kk⟩
/-! #### len(x), by an own __len__ -/
def eLenI (cls : Str) (G : FD) (i : Nat) : DE := fun ρ so => (insOf i ρ).bind fun p => if p.1 = cls then (callI G i [] ρ so).bind fun r => match r.1 with
  | .int n => if 0 ≤ n ∧ n < 2 ^ 63 then some (.int n, r.2) else none
  | _ => none else none
def rLenI (K : PySem.W.Frag) (C : Addr) (sp : Sp) : List V → Hp → VK → Prop := fun xs H Q => ∃ a dx fs, xs = [.ref a] ∧ H a = some (.ins C dx fs) ∧ sp [.ref a] H (fun v H' => ∃ n, v = .int n ∧ 0 ≤ n ∧ n < 2 ^ 63 ∧ Q (.int n) H') fun _ _ _ => False
theorem cr_lenI {X : Cx} {k j : Nat} {C f : Addr} {fd : FuncData} {ps : List Str} {sp : Sp} (hm : L2.Meth X.K C "__len__" f) (F : FnOk X.prog X.w X.K X.mg X.base CX0 k f fd ps sp) (hr : Room j X.A) (hk : k + 1 ≤ j) (hb : Binds X.K fd ps []) : CallR X (.builtin "len") (rLenI X.K C sp) := by
  intro pins s σ H xs us Q I r h
  obtain ⟨a, dx, fs, rfl, ha, hsp⟩ := h
  obtain ⟨u, rfl, r1⟩ := vals1 r
  cases r1
  obtain ⟨mA, O, _⟩ := ins_get I.hok ha
  obtain ⟨od, J, _⟩ := O.look
  obtain ⟨m, hfr⟩ := I.fr
  refine PySem.W.len_K hfr I.mod.kin J hm.at_ hm.fn ?_
  have hl : ps.length = 1 := (F.len _ _ _ _ hsp).symm
  have bb := hb s [.ref a] I.kIn (by rw [hl]; rfl)
  rw [List.append_nil] at bb
  refine wpAny_call (codeAny_mono (F.run X.A.in1 X.stack s H ⟨[.ref a], []⟩ [.ref a] [.ref a] _ _ ((hr.mono hk).in1) I.env0.in1 bb (.cons rfl .nil) hsp) ?_)
  rintro (e | fl) s' hq
  · exact hq.elim
  · cases fl with
    | ret u =>
      obtain ⟨v, H', os, bare, un, hok, rv, n, rfl, h0, h1, q⟩ := hq
      obtain ⟨tk, rfl⟩ := rv
      have I' := I.call' os un hok bare (ch := []) fun b z => absurd z (by simp)
      exact ⟨⟨h0, h1⟩, .int n, H', I'.tok _, ⟨_, rfl⟩, q⟩
    | next => exact hq.elim
    | brk => exact hq.elim
    | cont => exact hq.elim
theorem pd_lenI {X : Cx} {k j i : Nat} {cls y : Str} {G : FD} {p p2 pos : Pos} (c : CalM X.prog X.w X.K X.mg X.base k cls "__len__" 1 G) (hr : Room j X.A) (hk : k + 1 ≤ j) (hg : Gl X "len") (hm : X.mg "len" = none) (hN : X.N[i]? = some y) (hv : Vis X.env.scope y)
    (hd : (y == ("__debug__" : Str)) = false := by decide) (hcd : (y == ("__classdict__" : Str)) = false := by decide)
    (hs : starEach [.Name y p2] X.env = (false, eval (.Name y p2) X.env) :: starEach [] X.env := by rfl) (hpl : (backTo pos (starEach [] X.env)).any (·.1) = false := by rfl) : PD X (.Call (.Name "len" p) [.Name y p2] [] pos) (eLenI cls G i) := by
  obtain ⟨C, f, fd, ps, hK, hmt, F, hb⟩ := c.ex
  refine (pe_callB (cr_lenI hmt F hr hk hb) hg hm (by decide +kernel) (pa_cons (pe_var hN hv hd hcd) pa_nil hs) (by decide) (by decide) hs hpl).imp fun σ H Q h => ?_
  obtain ⟨F0, ow, ρ, so, d, so', r0, rs, e, kk⟩ := h
  obtain ⟨⟨c, at_, st⟩, e1, e2⟩ := Option.bind_eq_some_iff.mp e
  split at e2
  · rename_i hc
    have hc : c = cls := hc
    subst hc
    obtain ⟨⟨x, so1⟩, e3, e4⟩ := Option.bind_eq_some_iff.mp e2
    cases x with
    | int n =>
      have e4 : (if 0 ≤ n ∧ n < 2 ^ 63 then some (PyData.int n, so1) else none) = some (d, so') := e4
      obtain ⟨hn, e5⟩ := if_some e4
      cases e5
      obtain ⟨a, ha, I⟩ := ins_at rs e1
      obtain ⟨C', dx, l, fs, h1, h2, h3, h4, h5, h6⟩ := I.ex
      have ec := hK.one h2
      subst ec
      refine ⟨_, ha, a, dx, fs, rfl, r0.sub _ _ h1, spF_callI r0 rs ha .nil rfl e3 fun F' H' u r' s' du => ?_⟩
      cases du
      exact ⟨n, rfl, hn.1, hn.2, kk F' H' _ r' s' (.int n)⟩
    | _ => cases e4
  · cases e2
/-! #### x.NAME, a text that the class holds -/
end MP
namespace MP
open PySem PySem.Spec PyProof.Rows L2 RL
/-! ### own list + list: a new list -/
def nAddO (i : Nat) (g : DE) : DL := fun ρ so => (ownAt i ρ so).bind fun _ => (g ρ so).bind fun q => (ownAt i ρ q.2).bind fun p => match q.1 with
  | .list ys => if p.2.length + ys.length ≤ LIM then some (p.2 ++ ys, q.2) else none
  | _ => none
theorem ev_nAddO {i : Nat} {g : DE} {ρ : Slots} {so : Sto} {cq : CQ (List PyData × Sto)} : @EvI _ (nAddO i g ρ so) cq ↔ @EvI _ (ownAt i ρ so) ⟨fun _ => @EvI _ ((g ρ so).bind fun q => (ownAt i ρ q.2).bind fun p => match q.1 with
  | .list ys => if p.2.length + ys.length ≤ LIM then some (p.2 ++ ys, q.2) else none
  | _ => none) cq⟩ := ev_bind
/-! ### f-strings of numbers too -/
def dFmtU : PyData → Option PyData
  | .str y => if y.length ≤ LIMS then some (.str y) else none
  | .int i => if i.natAbs.log2 < 1920 then some (.str (Str.ofString (toString i))) else none
  | _ => none
def eFmtU (f : DE) : DE := fun ρ so => (f ρ so).bind fun p => (dFmtU p.1).map fun d => (d, p.2)
theorem pd_fmtU {X : Cx} {e : Expr} {f : DE} {pos : Pos} (h : PD X e f) : PD X (.FormattedValue e (-1) none pos) (eFmtU f) := (pe_fmt h).imp fun σ H Q q => by
  obtain ⟨F, ow, ρ, so, d, so', r0, rs, e, k⟩ := q
  obtain ⟨⟨d1, so1⟩, e1, e2⟩ := Option.bind_eq_some_iff.mp e
  obtain ⟨d2, e3, e4⟩ := Option.map_eq_some_iff.mp e2
  cases e4
  cases d1 with
  | str y =>
    have e3 : (if y.length ≤ LIMS then some (PyData.str y) else none) = some d := e3
    obtain ⟨hc, rfl⟩ := if_some e3
    refine ⟨F, ow, ρ, so, _, _, r0, rs, e1, fun F1 H1 v r1 s1 hd => .inl ⟨_, dq_str hd, Nat.le_trans hc (by decide), k F1 H1 _ r1 s1 (.str _)⟩⟩
  | int i =>
    have e3 : (if i.natAbs.log2 < 1920 then some (PyData.str (Str.ofString (toString i))) else none) = some d := e3
    obtain ⟨hc, rfl⟩ := if_some e3
    refine ⟨F, ow, ρ, so, _, _, r0, rs, e1, fun F1 H1 v r1 s1 hd => .inr ⟨i, ?_, hc, k F1 H1 _ r1 s1 (.str _)⟩⟩
    cases hd
    rfl
  | _ => cases e3
/-! ### own classes' properties, what is shown of their instances -/
theorem mk_calP {P : Program} {w : World} {K : PySem.W.Frag} {mg : Str → Option Value} {base : Heap} {C p0 f0 : Addr} {fd : FuncData} {cls m qual : Str} {st : Stmt} {N ps : List Str} {k n p q : Nat} {f : DS} {W : Str → Hp → Prop} (hK : InsK K cls C) (M : L2.PropOf K C m p0 f0) (F : Fun K m qual st f0 fd)
    (S : FnScope N ps (defScope st)) (hn : ps.length = n) (h1 : n = 1)
    (hb : ∀ (kV doc pm : Value) (an : Option Addr) (cdv ct : Value) (us : List Value), us.length = ps.length → bindArgs (PySem.W.fnOf m qual (defArgs st) (defBody st) (defScope st) .none kV doc pm an cdv ct) ⟨us, []⟩ = pure (ps.zip us))
    (h : ∀ (cdv : Value) (A : Around) (outer : List Env) (s : Shared) (H : Hp) (E : XK), Room k (A.deeper (envOfC qual (defScope st) s.heap.objs.size f0 cdv)) → PDSs (cxOf CX0 P w K mg base N qual (defScope st) f0 cdv A outer s H E).nox p W (defBody st) f) :
    CalP P w K mg base (k + 1) cls m (fDef n N.length p q f) := by
  subst h1
  exact ⟨⟨C, p0, f0, fd, ps, hK, M, F.ok S (fun vs H Q E h => by rw [hn]; exact h.1) fun cdv A outer s H vs Q E hr hsp => ⟨_, h cdv A outer s H E hr, body_of vs H Q E hsp⟩, F.binds hb⟩⟩
theorem CalM.mono {P : Program} {w : World} {K : PySem.W.Frag} {mg : Str → Option Value} {base : Heap} {j k : Nat} {cls m : Str} {n : Nat} {G : FD} (c : CalM P w K mg base j cls m n G) (h : j ≤ k) : CalM P w K mg base k cls m n G := by
  obtain ⟨C, f, fd, ps, h1, h2, h3, h4⟩ := c.ex
  exact ⟨⟨C, f, fd, ps, h1, h2, h3.mono h, h4⟩⟩
def repT (l : List (Str × FD)) : Rep := fun cls => l.lookup cls
theorem repOk_nil {X : Cx} {k : Nat} : RepsOk X k (repT []) := fun cls G h => by cases h
theorem repOk_cons {X : Cx} {j k : Nat} {cls : Str} {G : FD} {l : List (Str × FD)} (c : CalM X.prog X.w X.K X.mg X.base j cls "__repr__" 1 G) (hj : j ≤ k) (h : RepsOk X k (repT l)) : RepsOk X k (repT ((cls, G) :: l)) := fun c0 G0 e => by
  have e : (match c0 == cls with | true => some G | false => l.lookup c0) = some G0 := e
  split at e
  · rename_i hc
    cases e
    rw [eq_of_beq hc]
    exact c.mono hj
  · exact h c0 G0 e
/-! ### {k: n}, {k: ()} as data -/
def eDictI (k n : Int) : DE := fun _ so => some (.dict [(.int k, .int n)], so)
def eDictT (k : Int) : DE := fun _ so => some (.dict [(.int k, .tuple [])], so)
/-! ### a call without arguments -/
end MP
namespace MP
open PySem PySem.Spec PyProof.Rows L2 RL
/-! ### f(..)[x]: a dict that a call hands back, asked at what a name stands for -/
end MP
namespace MP
open PySem PySem.Spec PyProof.Rows L2 RL LamX
/-! ### calls that lend several own things: a list of one's own ahead, tables of lambdas behind -/
/-- nothing stands there -/
def Own.isNo : Own → Bool
  | .no => true
  | _ => false
/-- the own things at these places -/
def takes (so : Sto) : List Nat → Option (List Own)
  | [] => some []
  | k :: ks => (so[k]?).bind fun w => if w.isNo then none else (takes so ks).map fun ws => w :: ws
section
variable {K : PySem.W.Frag}
/-- where own things stand -/
theorem RelO.places {F H : Hp} {ow : Ads} {so : Sto} (r : RelO K F H ow so) {k : Nat} {w : Own} (hw : so[k]? = some w) (hn : w.isNo = false) : ∃ a, ow[k]? = some (some a) := by
  have hk : k < ow.length := by rw [r.len]; exact (List.getElem?_eq_some_iff.mp hw).1
  obtain ⟨a, ha⟩ : ∃ a, ow[k]? = some a := ⟨_, List.getElem?_eq_getElem hk⟩
  cases a with
  | some a => exact ⟨a, ha⟩
  | none =>
    have q := r.own k _ _ ha hw
    cases w with
    | no => cases hn
    | lst _ => exact q.elim
    | dct _ => exact q.elim
    | x _ => exact q.elim
    | fz _ => exact q.elim
theorem RelO.all {F H : Hp} {ow : Ads} {so : Sto} (r : RelO K F H ow so) : ∀ {ks : List Nat} {ws : List Own}, takes so ks = some ws → ∃ as : List Addr, as.length = ks.length ∧ ∀ (i k : Nat) (a : Addr), ks[i]? = some k → as[i]? = some a → ow[k]? = some (some a)
  | [], ws, h => ⟨[], rfl, fun i k a h => by simp at h⟩
  | k :: ks, ws, h => by
    obtain ⟨w, e1, e2⟩ := Option.bind_eq_some_iff.mp h
    by_cases hn : w.isNo = true
    · rw [if_pos hn] at e2
      cases e2
    rw [if_neg hn] at e2
    obtain ⟨us, e3, rfl⟩ := Option.map_eq_some_iff.mp e2
    obtain ⟨as, l, q⟩ := r.all e3
    obtain ⟨a, ha⟩ := r.places e1 (by simpa using hn)
    refine ⟨a :: as, by rw [List.length_cons, List.length_cons, l], fun i k' a' hk hw => ?_⟩
    cases i with
    | zero => cases hk; cases hw; exact ha
    | succ i => exact q i k' a' (by simpa using hk) (by simpa using hw)
end
/-! ### defs that make lambdas: their own tables among the things that are lent -/
end MP
namespace MP
open PySem PySem.Spec PyProof.Rows L2 RL LamX
/-! ### isinstance of an exception whose object is known to stand still -/
/-! ### a def called within the suite of an except clause, with the exception that the suite holds -/
/-! ### said: what a lambda gives, shown; or the word for what it raises -/
/-! ### the two defs' tables -/
/-! ### the calculus -/
end MP
namespace RL
open PySem PySem.Spec PyProof.Rows L2 GenW
/-! ### yield from a list: the turns of its iterator -/
end RL
namespace MP
open PySem PySem.Spec PyProof.Rows L2 RL
/-! ### a generator def: plain statements, then «yield from» a list; list(f(..)) of it -/
end MP
namespace MP
open PySem PySem.Spec PyProof.Rows L2 RL
/-! ### a generator def that may raise before it hands out anything; list(f(..)) of it -/
end MP
namespace MP
open PySem PySem.Spec PyProof.Rows L2 RL
/-! ### instances that are data: asked by any expression that gives one -/
/-- an instance of the class, its states told -/
def isIns (cls : Str) : PyData → Bool
  | .dict ((.str c, .list _) :: _) => decide (c = cls)
  | _ => false
theorem isIns_of {cls : Str} {d : PyData} (h : isIns cls d = true) : ∃ ds at_, d = .dict ((.str cls, .list ds) :: at_) := by
  unfold isIns at h
  split at h
  · rename_i c ds at_
    obtain rfl := of_decide_eq_true h
    exact ⟨_, _, rfl⟩
  · cases h
/-- what its data says -/
theorem dq_ins {K : PySem.W.Frag} {F : Hp} {v : V} {cls : Str} {ds : List PyData} {at_ : List (PyData × PyData)} (h : Dq K F v (.dict ((.str cls, .list ds) :: at_))) :
    ∃ (a l C dx : Addr) (fs : List (Str × V)) (xs : List V), v = .ref a ∧ F a = some (.ins C dx fs) ∧ InsK K cls C ∧ fs.lookup ("states" : Str) = some (V.ref l) ∧ F l = some (.lst xs) ∧ DqAll K F xs ds ∧ DqAt K F fs at_ ∧ (∀ f : Str, fs.lookup f ≠ none → f = "states" ∨ PyData.str f ∈ at_.map (·.1)) := by
  cases h with
  | dct q =>
    cases q with
    | ins h1 h2 h3 h4 h5 h6 h7 => exact ⟨_, _, _, _, _, _, rfl, h1, h2, h3, h4, h5, h6, h7⟩
theorem dq_insC {K : PySem.W.Frag} {F : Hp} {v : V} {cls : Str} {C : Addr} {d : PyData} (hK : InsK K cls C) (hc : isIns cls d = true) (h : Dq K F v d) : ∃ (a dx : Addr) (fs : List (Str × V)), v = .ref a ∧ F a = some (.ins C dx fs) := by
  obtain ⟨ds, at_, rfl⟩ := isIns_of hc
  obtain ⟨a, l, C', dx, fs, xs, rfl, h1, h2, _⟩ := dq_ins h
  have ec := hK.one h2
  subst ec
  exact ⟨a, dx, fs, rfl, h1⟩
/-- a def handed data alone, by its promise -/
theorem spF_data {K : PySem.W.Frag} {G : FD} {n : Nat} {F1 H1 : Hp} {ow : Ads} {so1 : Sto} {vs : List V} {ds : List PyData} {x : PyData} {so2 : Sto} {Q : VK} {E : XK} (r1 : RelO K F1 H1 ow so1) (d1 : DqAll K F1 vs ds) (hn : ds.length = n) (e : G (ds.map .d) [] = some (x, so2))
    (kk : ∀ F' H' u, RelO K F' H' ow so1 → Stp ow F1 H1 F' H' → Dq K F' u x → Q u H') : spF K n G vs H1 Q E :=
  ⟨by rw [d1.len]; exact hn, F1, [], [], _, _, so2, r1.none, relS_args d1, e, fun F2 H2 w r2 s2 dw => kk F2 H2 w (r1.grow s2 r2.sub) s2.some_of dw⟩
/-! #### e.f, a property -/
def ePropE (cls : Str) (G : FD) (fe : DE) : DE := fun ρ so => (fe ρ so).bind fun p => if isIns cls p.1 then (G [.d p.1] []).map fun r => (r.1, p.2) else none
theorem pd_propE {X : Cx} {k j : Nat} {cls f : Str} {G : FD} {e : Expr} {fe : DE} {pos : Pos} (c : CalP X.prog X.w X.K X.mg X.base k cls f G) (hr : Room j X.A) (hk : k + 1 ≤ j) (he : PD X e fe)
    (hb : attributeBase e f X.env (eval e X.env) = eval e X.env := by rfl) : PD X (.Attribute e f pos) (ePropE cls G fe) := by
  obtain ⟨C, p, g, fd, ps, hK, hp, F, hbn⟩ := c.ex
  refine (pe_prop (E := fun _ _ _ => False) he hK.cl hp F (hr.mono hk) hbn .nil (fun _ _ _ _ _ _ _ h => h.elim) hb).imp fun σ H Q h => ?_
  obtain ⟨F0, ow, ρ, so, d, so', r0, rs, e, kk⟩ := h
  obtain ⟨⟨d1, so1⟩, e1, e2⟩ := Option.bind_eq_some_iff.mp e
  obtain ⟨hc, e3⟩ : isIns cls d1 = true ∧ ((G [.d d1] []).map fun r => (r.1, so1)) = some (d, so') := by
    split at e2
    · exact ⟨by assumption, e2⟩
    · cases e2
  obtain ⟨⟨x, so2⟩, e4, e5⟩ := Option.map_eq_some_iff.mp e3
  cases e5
  refine ⟨F0, ow, ρ, so, d1, _, r0, rs, e1, fun F1 H1 v r1 s1 dv => ?_⟩
  obtain ⟨a, dx, fs, rfl, h1⟩ := dq_insC hK hc dv
  exact ⟨a, dx, fs, rfl, r1.sub _ _ h1, spF_data r1 (.cons dv .nil) rfl e4 fun F' H' u r' s' du => kk F' H' u r' (s1.trans s') du⟩
/-! #### len(e), by an own __len__ -/
def lenGo (so : Sto) : PyData → Option (PyData × Sto)
  | .int n => if 0 ≤ n ∧ n < 2 ^ 63 then some (.int n, so) else none
  | _ => none
def eLenE (cls : Str) (G : FD) (fe : DE) : DE := fun ρ so => (fe ρ so).bind fun p => if isIns cls p.1 then (G [.d p.1] []).bind fun r => lenGo p.2 r.1 else none
theorem pd_lenE {X : Cx} {k j : Nat} {cls : Str} {G : FD} {e : Expr} {fe : DE} {p pos : Pos} (c : CalM X.prog X.w X.K X.mg X.base k cls "__len__" 1 G) (hr : Room j X.A) (hk : k + 1 ≤ j) (hg : Gl X "len") (hm : X.mg "len" = none) (he : PD X e fe)
    (hs : starEach [e] X.env = (false, eval e X.env) :: starEach [] X.env := by rfl) (hpl : (backTo pos (starEach [] X.env)).any (·.1) = false := by rfl) : PD X (.Call (.Name "len" p) [e] [] pos) (eLenE cls G fe) := by
  obtain ⟨C, f, fd, ps, hK, hmt, F, hb⟩ := c.ex
  refine (pe_callB (cr_lenI hmt F hr hk hb) hg hm (by decide +kernel) (pa_cons he pa_nil hs) (by decide) (by decide) hs hpl).imp fun σ H Q h => ?_
  obtain ⟨F0, ow, ρ, so, d, so', r0, rs, e, kk⟩ := h
  obtain ⟨⟨d1, so1⟩, e1, e2⟩ := Option.bind_eq_some_iff.mp e
  obtain ⟨hc, e3⟩ : isIns cls d1 = true ∧ ((G [.d d1] []).bind fun r => lenGo so1 r.1) = some (d, so') := by
    split at e2
    · exact ⟨by assumption, e2⟩
    · cases e2
  obtain ⟨⟨x, so2⟩, e4, e5⟩ := Option.bind_eq_some_iff.mp e3
  have e5 : lenGo so1 x = some (d, so') := e5
  cases x with
  | int n =>
    obtain ⟨hn, e6⟩ := if_some (show (if 0 ≤ n ∧ n < 2 ^ 63 then some (PyData.int n, so1) else none) = some (d, so') from e5)
    cases e6
    refine ⟨F0, ow, ρ, so, d1, _, r0, rs, e1, fun F1 H1 v r1 s1 dv => ?_⟩
    obtain ⟨a, dx, fs, rfl, h1⟩ := dq_insC hK hc dv
    exact ⟨a, dx, fs, rfl, r1.sub _ _ h1, spF_data r1 (.cons dv .nil) rfl e4 fun F' H' u r' s' du => by
      cases du
      exact ⟨n, rfl, hn.1, hn.2, kk F' H' _ r' (s1.trans s') (.int n)⟩⟩
  | _ => cases e5
theorem ev_ePropE {cls : Str} {G : FD} {fe : DE} {ρ : Slots} {so : Sto} {cq : CQ (PyData × Sto)} : @EvI _ (ePropE cls G fe ρ so) cq ↔ @EvI _ (fe ρ so) ⟨fun p => @EvI _ (if isIns cls p.1 then (G [.d p.1] []).map fun r => (r.1, p.2) else none) cq⟩ := ev_bind
theorem ev_eLenE {cls : Str} {G : FD} {fe : DE} {ρ : Slots} {so : Sto} {cq : CQ (PyData × Sto)} : @EvI _ (eLenE cls G fe ρ so) cq ↔ @EvI _ (fe ρ so) ⟨fun p => @EvI _ (if isIns cls p.1 then (G [.d p.1] []).bind fun r => lenGo p.2 r.1 else none) cq⟩ := ev_bind
/-! #### len(x.states) -/
def eLenSt (i : Nat) : DE := fun ρ so => (insOf i ρ).bind fun p => (statesOf so p.2.2).map fun ds => (.int ds.length, so)
theorem tOf_lenSt {K : PySem.W.Frag} {i : Nat} (σ : L2.St) (H : Hp) (Q : VK) (h : tOf K (eLenSt i) σ H Q) : tCB (rLenU K) (tCons (tFld K (tVar i) "states") tNil) σ H Q := by
  obtain ⟨F, ow, ρ, so, d, so', r0, rs, e, k⟩ := h
  obtain ⟨⟨cls, at_, st⟩, e1, e2⟩ := Option.bind_eq_some_iff.mp e
  obtain ⟨ds, e5, e6⟩ := Option.map_eq_some_iff.mp e2
  cases e6
  obtain ⟨a, ha, I⟩ := ins_at rs e1
  obtain ⟨C, dx, l, fs, h1, h2, h3, h4, h5, h6⟩ := I.ex
  obtain ⟨us, hus, hds⟩ : ∃ us, H l = some (.lst us) ∧ DqAll K F us ds := by
    cases st with
    | fz ds0 =>
      cases e5
      obtain ⟨xs, g1, g2⟩ := h6
      exact ⟨xs, r0.sub _ _ g1, g2⟩
    | lv j =>
      have h6 : ow[j]? = some (some l) := h6
      obtain ⟨ds1, hj, rfl⟩ := statesOf_lv e5
      obtain ⟨b, vs, hb, _, hvs, hd⟩ := r0.lst hj
      rw [h6] at hb
      cases hb
      exact ⟨vs, hvs, hd⟩
  refine ⟨_, ha, a, C, dx, fs, .ref l, rfl, r0.sub _ _ h1, h2.cl, h2.na _ (.tail _ (.head _)), h3, .inl ⟨l, us, rfl, .inl (SqL.of hus), ?_⟩⟩
  rw [hds.len]
  exact k F H _ r0 (Stp.refl _ _ _) (.int _)
theorem pd_lenSt {X : Cx} {i : Nat} {y : Str} {p p1 p2 pos : Pos} (hg : Gl X "len") (hm : X.mg "len" = none) (hN : X.N[i]? = some y) (hv : Vis X.env.scope y) (hd : (y == ("__debug__" : Str)) = false := by decide) (hcd : (y == ("__classdict__" : Str)) = false := by decide)
    (hbase : attributeBase (.Name y p1) "states" X.env (eval (.Name y p1) X.env) = eval (.Name y p1) X.env := by rfl)
    (hs : starEach [.Attribute (.Name y p1) "states" p2] X.env = (false, eval (.Attribute (.Name y p1) "states" p2) X.env) :: starEach [] X.env := by rfl) (hpl : (backTo pos (starEach [] X.env)).any (·.1) = false := by rfl) :
    PD X (.Call (.Name "len" p) [.Attribute (.Name y p1) "states" p2] [] pos) (eLenSt i) :=
  (pe_callB cr_lenU hg hm PySem.boot_len (pa_cons (pe_fld (pe_var hN hv hd hcd) hbase) pa_nil hs) (by decide) (by decide) hs hpl).imp tOf_lenSt
end MP
namespace RL
open PySem PySem.Spec PyProof.Rows L2
/-! ### enumerate of a tuple -/
theorem nuEnum (l : Addr) (arr : Array Value) : Meets (Builtin.«enumerate.__new__» ⟨[.type "enumerate", .ref l], []⟩) (fun _ R s => s.heap.IsTuple l arr ∧
      R (.ok (.ret (.ref (s.heap.push { cls := .type "tuple_iterator", data := .fields #[.ref l, .int 0 0] }).objs.size)))
        { s with heap := (s.heap.push { cls := .type "tuple_iterator", data := .fields #[.ref l, .int 0 0] }).push { cls := .type "enumerate", data := .fields #[.none, .bool false, .ref s.heap.objs.size, rawInt 0, .none, .none] } }) :=
  .of_wp fun prog w A R s h => by
    obtain ⟨hp, g, d, tk, os⟩ := s
    obtain ⟨hl, h⟩ := h
    have hsub := sub_enumerate
    have hT : Heap.IsTuple (Shared.heap ⟨hp, g, d, tk, os⟩) l arr := hl
    obtain ⟨o, ho, _⟩ := id hl
    wp_walk using AutoSeq1.wpAny_loadPart' ho
    refine wpAny_stack_any fun st => wpAny_pure ?_
    split
    · rename_i c _ _ _ _ _
      cases (c == Value.type "enumerate")
      · wp_walk using AutoSeq1.wpAny_loadPart' ho, wpAny_pyIter_tuple hT
        exact ⟨_, rfl, h⟩
      · wp_walk using AutoSeq1.wpAny_loadPart' ho, wpAny_pyIter_tuple hT
        exact ⟨_, rfl, h⟩
    · wp_walk using AutoSeq1.wpAny_loadPart' ho, wpAny_pyIter_tuple hT
      exact ⟨_, rfl, h⟩
section
variable {prog : Program} {w : World} {A : Around} {E : Value → Shared → Prop} {s : Shared}
theorem call_enumT {l : Addr} {arr : Array Value} {Q : Value → Shared → Prop} (hL : s.heap.IsTuple l arr)
    (fin : ∀ h', IsEnum h' (s.heap.objs.size + 1) s.heap.objs.size 0 .none → h'.IsTupleIter s.heap.objs.size l 0 → (∀ c o, s.heap.get? c = some o → h'.get? c = some o) → Q (.ref (s.heap.objs.size + 1)) { s with heap := h' }) :
    wpAny (model prog w) A (call (.type "enumerate") [.ref l]) Q E s := by
  refine callType_new F.called_enumerate (by decide) (F.typeCall_enumerate_1 _) (F.newCall_enumerate_1 _) (fun obj => F.args_object_init_2 obj _) F.entry_enumerate_new (nuEnum l arr) ⟨hL, ?_⟩
  have n1 : (s.heap.push { cls := .type "tuple_iterator", data := .fields #[.ref l, .int 0 0] }).objs.size = s.heap.objs.size + 1 := Heap.size_push ..
  have up1 : ∀ {hh : Heap} {o : Obj} {c : Addr} {x : Obj}, hh.get? c = some x → (hh.push o).get? c = some x := fun e => Heap.get?_push_of_some _ e
  have g1 : ((s.heap.push { cls := .type "tuple_iterator", data := .fields #[.ref l, .int 0 0] }).push { cls := .type "enumerate", data := .fields #[.none, .bool false, .ref s.heap.objs.size, rawInt 0, .none, .none] }).get? (s.heap.push { cls := .type "tuple_iterator", data := .fields #[.ref l, .int 0 0] }).objs.size =
      some { cls := .type "enumerate", data := .fields #[.none, .bool false, .ref s.heap.objs.size, rawInt 0, .none, .none] } := Heap.get?_push_size _ rfl
  rw [n1] at g1
  show _ ∧ _
  rw [n1]
  exact ⟨⟨_, g1, rfl⟩, fin _ g1 ⟨_, up1 (Heap.get?_push_size _ rfl), rfl, rfl⟩ fun c o e => up1 (up1 e)⟩
end
def IteT (K : PySem.W.Frag) (a : Addr) : It :=
  ⟨fun i H => ∃ (xs : List V) (x : V), SqT K H a xs ∧ xs[i]? = some x, fun i H v H' => ∃ T x, v = .ref T ∧ H T = none ∧ H' = upd H T (.tup [.int (i : Nat), x]) ∧ ∀ xs, SqT K H a xs → xs[i]? = some x, fun i H => ∃ xs : List V, SqT K H a xs ∧ xs.length = i⟩
theorem turn_enumT {P : Program} {w : World} {K : PySem.W.Frag} {elts : List Expr} {kk : Nat} {tpos : Pos} (a e it : Addr) (h1 : a ≠ it) (h2 : e ≠ it) (h3 : e ≠ a) :
    Turn P w K (.Tuple elts kk tpos) (IteT K a) [e, it] e (fun i h => (∃ old, IsEnum h e it ((i : Nat) : Int) old) ∧ h.IsTupleIter it a i) where
  mem := by simp
  obj := fun i h st c hc => by
    obtain ⟨⟨old, he⟩, ⟨o, ho, _, hd⟩⟩ := st
    simp only [List.mem_cons, List.not_mem_nil, or_false] at hc
    rcases hc with rfl | rfl
    · exact ⟨_, he, fun v q => nomatch q⟩
    · exact ⟨o, ho, fun v q => by rw [hd] at q; cases q⟩
  keep := fun i h h' st k => by
    obtain ⟨⟨old, he⟩, hi⟩ := st
    exact ⟨⟨old, k e (by simp) _ he⟩, hi.at fun o q => k it (by simp) o q⟩
  item := by
    intro X hP hw hK hc i pins s σ H E I hf st hg
    subst hP hw hK
    obtain ⟨⟨old, he⟩, hit⟩ := st
    obtain ⟨xs, x, hq, hx⟩ := hg
    obtain ⟨its, rv, p, _⟩ := I.tuple hq
    obtain ⟨u, hu, ru⟩ := rv.get hx
    have hel : e < s.heap.objs.size := Heap.lt_size he
    have hil : it < s.heap.objs.size := by obtain ⟨_, q, _⟩ := hit; exact Heap.lt_size q
    have hh : X.A.in1.handled = none := I.ok.hd hc
    have hlt : i < its.toArray.size := by
      have := (List.getElem?_eq_some_iff.mp hu).1
      simpa using this
    refine wpAny_pyNext_enum_itemD (Draws.tuple hh it a h1 its.toArray) he ⟨hit, p⟩ hlt h2 (by simp [h2, h3]) fun y h' tk hy ho st' hT hsz hk => ?_
    have ey : y = u := by
      have e1 : its[i]? = some y := by simpa using hy
      exact Option.some.inj (e1.symm.trans hu)
    subst ey
    refine ⟨_, rfl, wpAny_letOwnedTupleGo_enum (s := { s with heap := h', toks := tk + 1 }) ho fun h'' he' sb => ?_⟩
    replace sb : Heap.SameBut e h' h'' := sb
    have hT2 : h''.get? s.heap.objs.size = some { cls := .type "tuple", data := .seq #[.int i tk, y] } := (sb.2 _ (Nat.ne_of_gt hel)).trans hT
    have new : ObjOk X.prog X.w (upd H s.heap.objs.size (.tup [.int (i : Nat), x])) h'' s.heap.objs.size (.tup [.int (i : Nat), x]) :=
      ⟨by show 2 ≤ sizeLine; decide, [.int i tk, y], .cons ⟨_, rfl⟩ (.cons ru .nil), ⟨_, hT2, rfl, _, rfl⟩⟩
    have far : ∀ c o, c ∉ [e, it] → s.heap.get? c = some o → h''.get? c = some o := fun c o hb q => by
      simp only [List.mem_cons, List.not_mem_nil, or_false, not_or] at hb
      exact (sb.2 c hb.1).trans (hk c o hb.1 hb.2 q)
    have I1 := I.turnedNew (t' := tk + 1) (ch := [e, it]) far hf (Nat.le_refl _) new
    refine ⟨.ref s.heap.objs.size, _, I1, rfl, ⟨_, x, rfl, I.hok.fresh (Nat.le_refl _), rfl, fun ys hy => by rw [I.tuple_inj hy hq]; exact hx⟩, ⟨⟨y, ?_⟩, st'.1.at fun o q => (sb.2 it (Ne.symm h2)).trans q⟩, fun c hcm => ?_⟩
    · have e1 : ((i + 1 : Nat) : Int) = (i : Int) + 1 := by omega
      rw [e1]
      exact he'
    · have hlt : c < s.heap.objs.size := by
        simp only [List.mem_cons, List.not_mem_nil, or_false] at hcm
        rcases hcm with rfl | rfl
        · exact hel
        · exact hil
      rw [upd_ne (Nat.ne_of_lt hlt)]
      exact (hf c hcm).1
  done := by
    intro X hP hw hK hc i pins s σ H E I hf st hg
    subst hP hw hK
    obtain ⟨⟨old, he⟩, hit⟩ := st
    obtain ⟨xs, hq, hx⟩ := hg
    obtain ⟨its, rv, p, _⟩ := I.tuple hq
    obtain ⟨f0, f1, f2, f3, f4, f5⟩ := hf it (by simp)
    have hl := rv.length
    have hh : X.A.in1.handled = none := I.ok.hd hc
    have en : its.toArray.size = i := by simp; omega
    have st2 : s.heap.IsTupleIter it a its.toArray.size ∧ s.heap.IsTuple a its.toArray := by rw [en]; exact ⟨hit, p⟩
    exact wpAny_pyNext_enum_endD (Draws.tuple hh it a h1 its.toArray) he st2 fun h' eb => ⟨rfl, I.turned (t' := s.toks) (fun c o hb q => eb c o hb q) f0 f1 f3 f4 f5⟩
  self := fun A i s Q E st h => let ⟨⟨_, he⟩, _⟩ := st; wpAny_pyIter_enum he h
def iEnumT (K : PySem.W.Frag) (ta : TA) : TI := fun σ H R => ta σ H fun vs H1 => ∃ a xs, vs = [.ref a] ∧ ((SqL K H1 a xs ∧ R (Ite K a) H1) ∨ (SqT K H1 a xs ∧ R (IteT K a) H1))
theorem pi_enumT {X : Cx} {e : Expr} {ta : TA} {p pos tpos : Pos} {elts : List Expr} {kk : Nat} (hg : Gl X "enumerate") (hm : X.mg "enumerate" = none) (ha : PA X [e] ta) (hs : starEach [e] X.env = [(false, eval e X.env)] := by rfl) :
    PI X (.Tuple elts kk tpos) (.Call (.Name "enumerate" p) [e] [] pos) (iEnumT X.K ta) := by
  refine ⟨fun pins s σ H R I h => Call_ (ld_blt I hg hm PyProof.Rows.boot_enumerate (PyProof.Rows.callWith_type1 (thn (ha.run pos pins s σ H _ I h) fun us s1 ⟨vs, H1, I1, r1, a, xs, ex, q⟩ => ?_) hs rfl))⟩
  subst ex
  have hap : ∀ c : Nat, c = s1.heap.objs.size + 1 ∨ c = s1.heap.objs.size → s1.heap.objs.size ≤ c := fun c hc => by omega
  cases r1 with
  | cons r rr =>
    cases rr
    cases r
    rcases q with ⟨hq, q⟩ | ⟨hq, q⟩
    · obtain ⟨its, rv, p', _⟩ := I1.list hq
      refine call_enumerate_list p'.isList fun h' he hit _ hk => wpAny_pyIter_enum he ?_
      refine ⟨s1.heap.objs.size + 1, [s1.heap.objs.size + 1, s1.heap.objs.size], _, _, H1, rfl, I1.kept (t' := s1.toks) hk, turn_enum a (s1.heap.objs.size + 1) s1.heap.objs.size, ⟨⟨.none, he⟩, hit, Nat.succ_ne_self _⟩, fun b hb => ?_, q⟩
      have hle := hap b (by simpa using hb)
      exact I1.fpOk hle (I1.hok.fresh hle)
    · obtain ⟨its, rv, p', _⟩ := I1.tuple hq
      obtain ⟨o, ho, _⟩ := id p'
      have hl : a < s1.heap.objs.size := Heap.lt_size ho
      refine call_enumT p' fun h' he hit hk => wpAny_pyIter_enum he ?_
      refine ⟨s1.heap.objs.size + 1, [s1.heap.objs.size + 1, s1.heap.objs.size], _, _, H1, rfl, I1.kept (t' := s1.toks) hk, turn_enumT a (s1.heap.objs.size + 1) s1.heap.objs.size (Nat.ne_of_lt hl) (Nat.succ_ne_self _) (Nat.ne_of_gt (Nat.lt_succ_of_lt hl)), ⟨⟨.none, he⟩, hit⟩, fun b hb => ?_, q⟩
      have hle := hap b (by simpa using hb)
      exact I1.fpOk hle (I1.hok.fresh hle)
theorem walk_enumT {K : PySem.W.Frag} {a : Addr} {xs : List V} : Walk (IteT K a) xs.length (fun H => SqT K H a xs) (YPair (fun i => some (.int (i : Nat))) (fun i => xs[i]?)) := by
  refine ⟨fun i _ hi q => ⟨xs, xs[i], q, by simp [hi]⟩, fun _ q => ⟨xs, q, rfl⟩, fun i H v H' _ q y => ?_⟩
  obtain ⟨T, x, e1, e2, e3, e4⟩ := y
  exact ⟨T, .int (i : Nat), x, e1, e2, e3, rfl, e4 xs q⟩
end RL
namespace MP
open PySem PySem.Spec PyProof.Rows L2 RL
/-! ### enumerate of a list or a tuple -/
def iEnA (f : DE) : DL := fun ρ so => (f ρ so).bind fun p => (seqOf p.1).map fun xs => (enumD xs, p.2)
theorem enumD_dq {K : PySem.W.Frag} {F1 F2 H2 : Hp} {us : List V} {xs : List PyData} (hus : DqAll K F1 us xs) {i : Nat} {x : V} {H3 : Hp} (hi : i < (enumD xs).length) (a1 : Same F1 F2) (a2 : Same F2 H2) (y : YPair (fun i => some (.int (i : Nat))) (fun i => us[i]?) i H2 x H3) :
    ∃ F3 d, (enumD xs)[i]? = some d ∧ Stp [] F2 H2 F3 H3 ∧ Same F3 H3 ∧ DqI K true F3 x d := by
  obtain ⟨T, u, w, rfl, nT, rfl, hu, hw⟩ := y
  cases hu
  obtain ⟨d2, g2, q2⟩ := hus.get hw
  refine ⟨_, .tuple [.int (i : Nat), d2], ?_, Stp.new nT a2, same_upd a2, new_tupI (a2.free nT) (.cons (.int _) (.cons (dq_same a1 _ _ q2) .nil))⟩
  unfold enumD
  have hi2 : i < xs.length := by rw [enum_len] at hi; exact hi
  rw [List.getElem?_zipWith, List.getElem?_range hi2, g2]
theorem pdi_enumA {X : Cx} {e : Expr} {f : DE} {p pos tpos : Pos} {elts : List Expr} {kk : Nat} (hg : Gl X "enumerate") (hm : X.mg "enumerate" = none) (ha : PD X e f) (hs : starEach [e] X.env = (false, eval e X.env) :: starEach [] X.env := by rfl) :
    PDI X (.Tuple elts kk tpos) (.Call (.Name "enumerate" p) [e] [] pos) (iEnA f) := by
  refine (RL.pi_enumT hg hm (pa_cons ha pa_nil hs) hs).imp fun σ H R q => ?_
  obtain ⟨F, ow, ρ, so, ds, so', r0, rs, e, k⟩ := q
  obtain ⟨⟨d, so1⟩, q1, q2⟩ := Option.bind_eq_some_iff.mp e
  obtain ⟨xs, q3, q4⟩ := Option.map_eq_some_iff.mp q2
  cases q4
  refine ⟨F, ow, ρ, so, _, so1, r0, rs, q1, fun F1 H1 v r1 s1 d1 => ?_⟩
  obtain ⟨a, us, rfl, ha, hus⟩ := dq_seq d1 q3
  have n1 := hus.len
  have ln : us.length = (enumD xs).length := by rw [enum_len]; omega
  rcases ha with ⟨ha, _⟩ | ⟨ha, _⟩
  · have wk := walk_enum (K := X.K) (a := a) (xs := us)
    rw [ln] at wk
    exact ⟨a, us, rfl, .inl ⟨SqL.of (r1.sub _ _ ha), k F1 H1 _ _ _ r1 s1 wk (fun F2 H2 a1 a2 => SqL.of (a2 _ _ (a1 _ _ ha))) fun i F2 H2 x H3 hi a1 a2 y => enumD_dq hus hi a1 a2 y⟩⟩
  · have wk := walk_enumT (K := X.K) (a := a) (xs := us)
    rw [ln] at wk
    exact ⟨a, us, rfl, .inr ⟨(ha.sq r1.sub), k F1 H1 _ _ _ r1 s1 wk (fun F2 H2 a1 a2 => (ha.sq (a1.trans a2))) fun i F2 H2 x H3 hi a1 a2 y => enumD_dq hus hi a1 a2 y⟩⟩
end MP
namespace MP
open PySem PySem.Spec PyProof.Rows L2 RL
def B__wall_1 : DS :=
    sNext
def F__wall : FD := fDef 1 1 0 0
    (sWhile 2000 (bVal (eC (.bool true))) B__wall_1)
def F_is_integer : FD := fDef 1 1 0 0
    (sRet (eAnd (eIsi "int" (eVar 0)) (eAnd (eOp dIsNot (eVar 0) (eC (.bool true))) (eOp dIsNot (eVar 0) (eC (.bool false))))))
def F_is_number_from : FD := fDef 3 3 0 0
    (sRet (eAnd (fCall0 F_is_integer (aCons (eVar 0) aNil)) (eChain dLe dLe (eVar 1) (eVar 0) (eVar 2))))
def B_are_integers_1 : DS :=
    (sIf (bOr (bNot (bVal (eIsi "int" (eVar 2)))) (bOr (bVal (eOp dIs (eVar 2) (eC (.bool true)))) (bVal (eOp dIs (eVar 2) (eC (.bool false)))))) (sRet (eC (.bool false))) sNext)
def F_are_integers : FD := fDef 2 3 0 0
    (sSeq (sIf (bOr (bNot (bVal (eIsi "tuple" (eVar 0)))) (bVal (eOp dNe (eCall gLen (aCons (eVar 0) aNil)) (eVar 1)))) (sRet (eC (.bool false))) sNext)
    (sSeq (sFor (.nm 2) (iSeq (eVar 0)) B_are_integers_1)
    (sRet (eC (.bool true)))))
def B_are_numbers_below_1 : DS :=
    (sIf (bOr (bNot (bVal (eIsi "int" (eVar 2)))) (bOr (bVal (eOp dIs (eVar 2) (eC (.bool true)))) (bOr (bVal (eOp dIs (eVar 2) (eC (.bool false)))) (bNot (bVal (eChain dLe dLt (eC (.int 0)) (eVar 2) (eVar 3))))))) (sRet (eC (.bool false))) sNext)
def F_are_numbers_below : FD := fDef 2 4 0 0
    (sSeq (sIf (bOr (bNot (bVal (eIsi "tuple" (eVar 0)))) (bVal (eOp dNe (eCall gLen (aCons (eVar 0) aNil)) (eCall gLen (aCons (eVar 1) aNil))))) (sRet (eC (.bool false))) sNext)
    (sSeq (sFor (.tp 2 (.cons (.nm 2) (.cons (.nm 3) .nil))) (iZip2 (aCons (eVar 0) (aCons (eVar 1) aNil))) B_are_numbers_below_1)
    (sRet (eC (.bool true)))))
def F_written : FD := fDef 1 5 0 1
    (sSeq (sIf (bVal (eChain dLt dLt (eUn dNeg (eC (.int 1000000000000000000000000000000000000000000000000000000000000))) (eVar 0) (eC (.int 1000000000000000000000000000000000000000000000000000000000000)))) (sRet (eCall gStrI (aCons (eVar 0) aNil))) sNext)
    sNone)
def B_groups_of_step_1 : DS :=
    (sSeq (sIf (bOr (bNot (bVal (eIsi "int" (eVar 3)))) (bOr (bVal (eOp dIs (eVar 3) (eC (.bool true)))) (bOr (bVal (eOp dIs (eVar 3) (eC (.bool false)))) (bNot (bVal (eChain dLe dLt (eC (.int 0)) (eVar 3) (eVar 1))))))) (sRet (eC (.int 0))) sNext)
    (sSet (.nm 2) (eOp dBor (eVar 2) (eOp dShl (eC (.int 1)) (eVar 3)))))
def F_groups_of_step : FD := fDef 2 5 0 0
    (sSeq (sIf (bOr (bNot (bVal (eIsi "tuple" (eVar 0)))) (bVal (eOp dNe (eCall gLen (aCons (eVar 0) aNil)) (eVar 1)))) (sRet (eC (.int 0))) sNext)
    (sSeq (sSet (.nm 2) (eC (.int 0)))
    (sSeq (sFor (.nm 3) (iSeq (eVar 0)) B_groups_of_step_1)
    (sSeq (sSet (.nm 4) (eUn dBits (eVar 2)))
    (sRet (eIf (bAnd (bVal (eOp dLt (eVar 4) (eVar 1))) (bVal (eOp dEq (eOp dAdd (eVar 2) (eC (.int 1))) (eOp dShl (eC (.int 1)) (eVar 4))))) (eVar 4) (eC (.int 0))))))))
def B_is_attribute_1 : DS :=
    (sSeq (sSet (.nm 3) (fCall0 F_groups_of_step (aCons (eVar 4) (aCons (eVar 3) aNil))))
    (sIf (bVal (eOp dEq (eVar 3) (eC (.int 0)))) (sRet (eC (.bool false))) sNext))
def F_is_attribute : FD := fDef 1 5 0 0
    (sSeq (sIf (bOr (bNot (bVal (eIsi "tuple" (eVar 0)))) (bVal (eOp dNe (eCall gLen (aCons (eVar 0) aNil)) (eC (.int 2))))) (sRet (eC (.bool false))) sNext)
    (sSeq (sSet (.tp 2 (.cons (.nm 1) (.cons (.nm 2) .nil))) (eVar 0))
    (sSeq (sIf (bOr (bNot (bVal (fCall0 F_is_number_from (aCons (eVar 1) (aCons (eC (.int 1)) (aCons (eC (.int 6)) aNil)))))) (bOr (bNot (bVal (eIsi "tuple" (eVar 2)))) (bVal (eOp dGt (eCall gLen (aCons (eVar 2) aNil)) (eC (.int 3)))))) (sRet (eC (.bool false))) sNext)
    (sSeq (sSet (.nm 3) (eVar 1))
    (sSeq (sFor (.nm 4) (iSeq (eVar 2)) B_is_attribute_1)
    (sRet (eC (.bool true))))))))
def B_count_of_cells_1 : DS :=
    (sSet (.nm 1) (eOp dMul (eVar 1) (eVar 2)))
def F_count_of_cells : FD := fDef 1 4 0 0
    (sSeq (sSet (.nm 1) (eC (.int 1)))
    (sSeq (sFor (.tp 2 (.cons (.nm 2) (.cons (.nm 3) .nil))) (iSeq (eVar 0)) B_count_of_cells_1)
    (sRet (eVar 1))))
def F_group_count : FD := fDef 2 4 0 0
    (sSeq (sSet (.tp 2 (.cons (.nm 2) (.cons (.nm 3) .nil))) (eVar 0))
    (sRet (eIf (bVal (eOp dEq (eVar 1) (eC (.int 0)))) (eVar 2) (eOp dAdd (eCall gMax (aCons (eOp dIx (eVar 3) (eOp dSub (eVar 1) (eC (.int 1)))) aNil)) (eC (.int 1))))))
def F_group_counts : FD := fDef 2 4 0 0
    (sRet (eOfN (nLc [2, 3] (.tp 2 (.cons (.nm 2) (.cons (.nm 3) .nil))) (iZip2 (aCons (eVar 0) (aCons (eVar 1) aNil))) bYes (fCall0 F_group_count (aCons (eVar 2) (aCons (eVar 3) aNil))))))
def B_groups_above_1 : DS :=
    (sSet (.nm 5) (eOfN (nLc [7] (.nm 7) (iSeq (eVar 5)) bYes (eOp dIx (eVar 6) (eVar 7)))))
def F_groups_above : FD := fDef 3 8 0 0
    (sSeq (sIf (bVal (eOp dEq (eVar 1) (eVar 2))) (sRet (eOfN (nRange (fCall0 F_group_count (aCons (eVar 0) (aCons (eVar 1) aNil)))))) sNext)
    (sSeq (sHead 3 4 (eSl (eOp dIx (eVar 0) (eC (.int 1))) (oSome (eVar 1)) (oSome (eVar 2))))
    (sSeq (sSet (.nm 5) (eOfN (nList (eVar 3))))
    (sSeq (sFor (.nm 6) (iSeq (eVar 4)) B_groups_above_1)
    (sRet (eVar 5))))))
def F_finest : FD := fDef 1 1 0 0
    (sRet (eOp dMul (eTup (aCons (eC (.int 0)) aNil)) (eCall gLen (aCons (eVar 0) aNil))))
def B_size_of_1 : DS :=
    (sSet (.nm 2) (eOp dMul (eVar 2) (fCall0 F_group_count (aCons (eVar 3) (aCons (eVar 4) aNil)))))
def F_size_of : FD := fDef 2 5 0 0
    (sSeq (sSet (.nm 2) (eC (.int 1)))
    (sSeq (sFor (.tp 2 (.cons (.nm 3) (.cons (.nm 4) .nil))) (iZip2 (aCons (eVar 0) (aCons (eVar 1) aNil))) B_size_of_1)
    (sRet (eVar 2))))
def B_place_of_1 : DS :=
    (sSet (.nm 3) (eOp dAdd (eOp dMul (eVar 3) (eVar 4)) (eVar 5)))
def F_place_of : FD := fDef 3 6 0 0
    (sSeq (sSet (.nm 3) (eC (.int 0)))
    (sSeq (sFor (.tp 2 (.cons (.nm 4) (.cons (.nm 5) .nil))) (iZip2 (aCons (fCall0 F_group_counts (aCons (eVar 0) (aCons (eVar 1) aNil))) (aCons (eVar 2) aNil))) B_place_of_1)
    (sRet (eVar 3))))
def B_is_rollup_1 : DS :=
    (sIf (bOr (bNot (bVal (eIsi "int" (eVar 2)))) (bOr (bVal (eOp dIs (eVar 2) (eC (.bool true)))) (bOr (bVal (eOp dIs (eVar 2) (eC (.bool false)))) (bNot (bVal (eChain dLe dLe (eC (.int 0)) (eVar 2) (eCall gLen (aCons (eVar 4) aNil)))))))) (sRet (eC (.bool false))) sNext)
def F_is_rollup : FD := fDef 2 5 0 0
    (sSeq (sIf (bOr (bNot (bVal (eIsi "tuple" (eVar 1)))) (bVal (eOp dNe (eCall gLen (aCons (eVar 1) aNil)) (eCall gLen (aCons (eVar 0) aNil))))) (sRet (eC (.bool false))) sNext)
    (sSeq (sFor (.tp 2 (.cons (.nm 2) (.cons (.tp 2 (.cons (.nm 3) (.cons (.nm 4) .nil))) .nil))) (iZip2 (aCons (eVar 1) (aCons (eVar 0) aNil))) B_is_rollup_1)
    (sRet (eC (.bool true)))))
def F_is_cell : FD := fDef 3 3 0 0
    (sRet (fCall0 F_are_numbers_below (aCons (eVar 2) (aCons (fCall0 F_group_counts (aCons (eVar 0) (aCons (eVar 1) aNil))) aNil))))
def B_is_scheme_1 : DS :=
    (sIf (bNot (bVal (fCall0 F_is_attribute (aCons (eVar 1) aNil)))) (sRet (eC (.bool false))) sNext)
def F_is_scheme : FD := fDef 1 2 0 0
    (sSeq (sIf (bOr (bNot (bVal (eIsi "tuple" (eVar 0)))) (bNot (bVal (eChain dLe dLe (eC (.int 1)) (eCall gLen (aCons (eVar 0) aNil)) (eC (.int 3)))))) (sRet (eC (.bool false))) sNext)
    (sSeq (sFor (.nm 1) (iSeq (eVar 0)) B_is_scheme_1)
    (sRet (eOp dLe (fCall0 F_count_of_cells (aCons (eVar 0) aNil)) (eC (.int 60))))))
def F_check_scheme : FX := fDefX 1 1 0 0
    (sIf (bNot (bVal (fCall0 F_is_scheme (aCons (eVar 0) aNil)))) (sRaise "SchemeError") sNext)
def F_check_rollup : FX := fDefX 2 2 0 0
    (sIf (bNot (bVal (fCall0 F_is_rollup (aCons (eVar 0) (aCons (eVar 1) aNil))))) (sRaise "RollupError") sNext)
def F_check_cell : FX := fDefX 3 3 0 0
    (sIf (bNot (bVal (fCall0 F_is_cell (aCons (eVar 0) (aCons (eVar 1) (aCons (eVar 2) aNil)))))) (sRaise "CellError") sNext)
def F_is_table_of : FD := fDef 2 2 0 0
    (sRet (fCall0 F_are_integers (aCons (eVar 1) (aCons (fCall0 F_count_of_cells (aCons (eVar 0) aNil)) aNil))))
def F_turned : FD := fDef 4 13 0 0
    (sSeq (sIf (bVal (eOp dEq (eVar 2) (eVar 3))) (sSeq (sSet (.nm 4) (fCall0 F_group_count (aCons (eVar 1) (aCons (eVar 2) aNil))))
    (sSeq (sIf (bOr (bVal (eOp dEq (eVar 4) (eC (.int 1)))) (bVal (eOp dEq (eVar 4) (eCall gLen (aCons (eVar 0) aNil))))) (sRet (eVar 0)) sNext)
    (sRet (eOfN (nLc2 [7, 8] [8] (.nm 7) (iRg1 (aCons (eVar 4) aNil)) bYes (iSeq (eStp (eVar 0) (oSome (eVar 7)) oNo (oSome (eVar 4)))) (.nm 8) bYes (eVar 8)))))) sNext)
    (sSeq (sSet (.nm 5) (fCall0 F_groups_above (aCons (eVar 1) (aCons (eVar 2) (aCons (eVar 3) aNil)))))
    (sSeq (sSet (.nm 4) (eCall gLen (aCons (eVar 5) aNil)))
    (sSeq (sSet (.nm 6) (eOfN (nLc [9] (.nm 9) (iRg1 (aCons (eOp dAdd (eCall gMax (aCons (eVar 5) aNil)) (eC (.int 1))) aNil)) bYes (eOfN (nLc [7, 10] (.tp 2 (.cons (.nm 7) (.cons (.nm 10) .nil))) (iEnA (eVar 5)) (bVal (eOp dEq (eVar 10) (eVar 9))) (eStp (eVar 0) (oSome (eVar 7)) oNo (oSome (eVar 4))))))))
    (sRet (eOfN (nLc2 [11, 12] [12] (.nm 11) (iSeq (eVar 6)) bYes (iZipS (eVar 11)) (.nm 12) bYes (eCall gSum (aCons (eVar 12) aNil)))))))))
def B_added_up_1 : DS :=
    (sSet (.nm 4) (fCall0 F_turned (aCons (eVar 4) (aCons (eOp dIx (eVar 0) (eVar 5)) (aCons (eOp dIx (eVar 1) (eVar 5)) (aCons (eOp dIx (eVar 3) (eVar 5)) aNil))))))
def F_added_up : FD := fDef 4 6 0 0
    (sSeq (sIf (bVal (eOp dEq (eVar 1) (eVar 3))) (sRet (eVar 2)) sNext)
    (sSeq (sSet (.nm 4) (eVar 2))
    (sSeq (sFor (.nm 5) (iRg3 (aCons (eOp dSub (eCall gLen (aCons (eVar 0) aNil)) (eC (.int 1))) (aCons (eUn dNeg (eC (.int 1))) (aCons (eUn dNeg (eC (.int 1))) aNil)))) B_added_up_1)
    (sRet (eCall gTuple (aCons (eVar 4) aNil))))))
def F_sums_at : FD := fDef 3 3 0 0
    (sRet (fCall0 F_added_up (aCons (eVar 0) (aCons (fCall0 F_finest (aCons (eVar 0) aNil)) (aCons (eVar 1) (aCons (eVar 2) aNil))))))
def F_no_amounts : FD := fDef 2 2 0 0
    (sRet (eOp dMul (eTup (aCons (eC (.int 0)) aNil)) (fCall0 F_size_of (aCons (eVar 0) (aCons (eVar 1) aNil)))))
def F_with_more : FD := fDef 5 6 0 0
    (sSeq (sSet (.nm 5) (fCall0 F_place_of (aCons (eVar 0) (aCons (eVar 1) (aCons (eVar 3) aNil)))))
    (sRet (eTup (aStar (eSl (eVar 2) oNo (oSome (eVar 5))) (aCons (eOp dAdd (eOp dIx (eVar 2) (eVar 5)) (eVar 4)) (aStar (eSl (eVar 2) (oSome (eOp dAdd (eVar 5) (eC (.int 1)))) oNo) aNil))))))
def F_check_put : FX := fDefX 3 3 0 0
    (sSeq (sDropX F_check_cell (aCons (eVar 0) (aCons (fCall0 F_finest (aCons (eVar 0) aNil)) (aCons (eVar 1) aNil))))
    (sIf (bNot (bVal (fCall0 F_is_number_from (aCons (eVar 2) (aCons (eUn dNeg (eC (.int 1000000))) (aCons (eC (.int 1000000)) aNil)))))) (sRaise "AmountError") sNext))
def F_check_table : FX := fDefX 2 2 0 0
    (sIf (bNot (bVal (fCall0 F_is_table_of (aCons (eVar 0) (aCons (eVar 1) aNil))))) (sRaise "TableError") sNext)
def F__law_cell : FD := fDef 2 2 0 0
    (sSeq (sIf (bVal (eOp dLt (eVar 1) (scLen 0))) (sRet (scIx 0 (eVar 1))) sNext)
    (sRet (eC (.int 0))))
def B__law_draws_1 : DS :=
    (sSeq (sDrop (oAppend 2 (eOp dMod (eVar 3) (eVar 4))))
    (sSet (.nm 3) (eOp dDiv (eVar 3) (eVar 4))))
def B__law_draws_2 : DS :=
    (sSeq (sSet (.nm 6) (eOp dMod (eOp dAdd (eOp dAdd (eOp dMul (eVar 0) (eC (.int 48271))) (eOp dMul (eVar 5) (eC (.int 69621)))) (eC (.int 11))) (eC (.int 2147483647))))
    (sSeq (sSet (.nm 6) (eOp dMod (eOp dAdd (eOp dMul (eVar 6) (eC (.int 16807))) (eVar 5)) (eC (.int 998244353))))
    (sDrop (oAppend 2 (eOp dMod (eVar 6) (eOp dIx (eVar 1) (eVar 5)))))))
def F__law_draws : FD := fDef 2 7 0 1
    (sSeq (sNew 2 0 (nLst aNil))
    (sSeq (sIf (bVal (eOp dGe (eVar 0) (eOp dPow (eC (.int 10)) (eC (.int 18))))) (sSeq (sSet (.nm 3) (eOp dSub (eVar 0) (eOp dPow (eC (.int 10)) (eC (.int 18)))))
    (sSeq (sFor (.nm 4) (iSeq (eVar 1)) B__law_draws_1)
    (sRet (eVar 2)))) sNext)
    (sSeq (sFor (.nm 5) (iRg1 (aCons (eCall gLen (aCons (eVar 1) aNil)) aNil)) B__law_draws_2)
    (sRet (eVar 2)))))
def F__law_is_same : Nat → FD
  | 0 => fun _ _ => none
  | nr + 1 => fDef 2 3 0 0
    (sSeq (sIf (bVal (eIsi "tuple" (eVar 1))) (sSeq (sIf (bOr (bNot (bVal (eIsi "tuple" (eVar 0)))) (bVal (eOp dNe (eCall gLen (aCons (eVar 0) aNil)) (eCall gLen (aCons (eVar 1) aNil))))) (sRet (eC (.bool false))) sNext)
    (sRet (eCall gAll (aCons (eOfN (nLc [2] (.nm 2) (iRg1 (aCons (eCall gLen (aCons (eVar 1) aNil)) aNil)) bYes (fCall0 (F__law_is_same nr) (aCons (eOp dIx (eVar 0) (eVar 2)) (aCons (eOp dIx (eVar 1) (eVar 2)) aNil))))) aNil)))) sNext)
    (sSeq (sIf (bVal (eOp dIs (eVar 1) (eC .none))) (sRet (eOp dIs (eVar 0) (eC .none))) sNext)
    (sSeq (sIf (bVal (eIsi "str" (eVar 1))) (sRet (eAnd (eIsi "str" (eVar 0)) (eOp dEq (eVar 0) (eVar 1)))) sNext)
    (sSeq (sIf (bOr (bNot (bVal (eIsi "int" (eVar 0)))) (bVal (eOp dNe (eIsi "bool" (eVar 0)) (eIsi "bool" (eVar 1))))) (sRet (eC (.bool false))) sNext)
    (sRet (eOp dEq (eVar 0) (eVar 1)))))))
def B__law_attribute_1 : DS :=
    (sIf (bVal (eOp dGt (eVar 3) (eC (.int 1)))) (sSeq (sSet (.nm 5) (eOp dAdd (eC (.int 1)) (eOp dMod (eOp dIx (eVar 0) (eOp dAdd (eC (.int 2)) (eVar 4))) (eOp dSub (eVar 3) (eC (.int 1))))))
    (sSeq (sSet (.nm 6) (eOp dMod (eOp dIx (eVar 0) (eOp dAdd (eC (.int 5)) (eVar 4))) (eVar 3)))
    (sSeq (sSet (.nm 7) (eOfN (nLc [8] (.nm 8) (iRg1 (aCons (eVar 3) aNil)) bYes (eIf (bVal (eOp dLt (eVar 8) (eVar 5))) (eVar 8) (eOp dMod (eOp dAdd (eOp dMul (eVar 8) (eC (.int 7))) (eOp dIx (eVar 0) (eOp dAdd (eC (.int 5)) (eVar 4)))) (eVar 5))))))
    (sSeq (sDrop (oAppend 2 (eCall gTuple (aCons (eOp dAdd (eSl (eVar 7) (oSome (eVar 6)) oNo) (eSl (eVar 7) oNo (oSome (eVar 6)))) aNil))))
    (sSet (.nm 3) (eVar 5)))))) sNext)
def F__law_attribute : FD := fDef 1 9 0 1
    (sSeq (sParDN 1 2 0 (eOp dIx (eTup (aCons (eC (.int 2)) (aCons (eC (.int 3)) (aCons (eC (.int 4)) (aCons (eC (.int 4)) (aCons (eC (.int 5)) (aCons (eC (.int 6)) (aCons (eC (.int 1)) (aCons (eC (.int 3)) aNil))))))))) (eOp dMod (eOp dIx (eVar 0) (eC (.int 0))) (eC (.int 8)))) (nLst aNil))
    (sSeq (sSet (.nm 3) (eVar 1))
    (sSeq (sFor (.nm 4) (iRg1 (aCons (eOp dMod (eOp dIx (eVar 0) (eC (.int 1))) (eC (.int 4))) aNil)) B__law_attribute_1)
    (sRet (eTup (aCons (eVar 1) (aCons (oTuple 2) aNil)))))))
def B__law_scheme_1 : DS :=
    (sSeq (sSet (.nm 5) (fCall0 F__law_attribute (aCons (eSl (eVar 1) (oSome (eOp dAdd (eC (.int 1)) (eOp dMul (eC (.int 8)) (eVar 4)))) (oSome (eOp dAdd (eC (.int 9)) (eOp dMul (eC (.int 8)) (eVar 4))))) aNil)))
    (sIf (bVal (eOp dLe (eOp dMul (eVar 3) (eOp dIx (eVar 5) (eC (.int 0)))) (eC (.int 60)))) (sSeq (sDrop (oAppend 2 (eVar 5)))
    (sSet (.nm 3) (eOp dMul (eVar 3) (eOp dIx (eVar 5) (eC (.int 0)))))) sNext))
def F__law_scheme : FD := fDef 1 6 0 1
    (sSeq (sParX [(1, 99), (2, 0), (3, 99)] (xD (fCall0 F__law_draws (aCons (eVar 0) (aCons (eOp dAdd (eOfN (nLst (aCons (eC (.int 3)) aNil))) (eOp dMul (eOfN (nLst (aCons (eC (.int 60)) aNil))) (eC (.int 24)))) aNil))) (xN (nLst aNil) (xD (eC (.int 1)) xNil))))
    (sSeq (sFor (.nm 4) (iRg1 (aCons (eOp dAdd (eC (.int 1)) (eOp dIx (eVar 1) (eC (.int 0)))) aNil)) B__law_scheme_1)
    (sRet (oTuple 2))))
def B__law_below_1 : DS :=
    (sDrop (oExtend 3 (nLc [5] (.nm 5) (iRg1 (aCons (eVar 2) aNil)) bYes (eOp dAdd (eVar 4) (eTup (aCons (eVar 5) aNil))))))
def B__law_below_2 : DS :=
    (sSeq (sNew 3 0 (nLst aNil))
    (sSeq (sFor (.nm 4) (iSeq (eVar 1)) B__law_below_1)
    (sSet (.nm 1) (eVar 3))))
def F__law_below : FD := fDef 1 6 0 1
    (sSeq (sSet (.nm 1) (eOfN (nLst (aCons (eTup aNil) aNil))))
    (sSeq (sFor (.nm 2) (iSeq (eVar 0)) B__law_below_2)
    (sRet (eVar 1))))
def F__law_fine_cells : FD := fDef 1 2 0 0
    (sRet (fCall0 F__law_below (aCons (eOfN (nLc [1] (.nm 1) (iSeq (eVar 0)) bYes (eOp dIx (eVar 1) (eC (.int 0))))) aNil)))
def F__law_table : FD := fDef 3 5 0 0
    (sSeq (sSet (.nm 3) (eCall gLen (aCons (fCall0 F__law_fine_cells (aCons (eVar 1) aNil)) aNil)))
    (sRet (eCall gTuple (aCons (eOfN (nLc [4] (.nm 4) (iSeq (fCall0 F__law_draws (aCons (eVar 0) (aCons (eOp dMul (eOfN (nLst (aCons (eOp dAdd (eOp dMul (eC (.int 2)) (eVar 2)) (eC (.int 1))) aNil))) (eVar 3)) aNil)))) bYes (eOp dSub (eVar 4) (eVar 2)))) aNil))))
def F__law_no_schemes : FD := fDef 1 4 0 0
    (sSeq (sSet (.tp 2 (.cons (.nm 1) (.cons (.nm 2) .nil))) (eOp dIx (eVar 0) (eC (.int 0))))
    (sSeq (sSet (.nm 3) (eOfN (nLst (aCons (eC .none) (aCons (eC (.int 0)) (aCons (eC (.bool true)) (aCons (eC (.str (Str.ofString ""))) (aCons (eTup aNil) (aCons (eOfN (nLst aNil)) (aCons eDict0 (aCons (eOfN (nList (eVar 0))) (aCons (eOp dIx (eVar 0) (eC (.int 0))) (aCons (eOfN (nLst (aCons (eVar 0) aNil))) aNil)))))))))))))
    (sSeq (sSet (.nm 3) (eOp dAdd (eVar 3) (eOfN (nLst (aCons (eTup (aCons (eVar 0) aNil)) (aCons (eOp dMulT (eVar 0) (eC (.int 4))) (aCons (eTup (aCons (eC .none) aNil)) (aCons (eTup (aCons (eTup aNil) aNil)) aNil))))))))
    (sSeq (sSet (.nm 3) (eOp dAdd (eVar 3) (eOfN (nLst (aCons (eTup (aCons (eTup (aCons (eC (.int 0)) (aCons (eTup aNil) aNil))) aNil)) (aCons (eTup (aCons (eTup (aCons (eC (.int 7)) (aCons (eTup aNil) aNil))) aNil)) (aCons (eTup (aCons (eTup (aCons (eC (.bool true)) (aCons (eTup aNil) aNil))) aNil)) (aCons (eTup (aCons (eTup (aCons (eC (.int 2)) aNil)) aNil)) (aCons (eTup (aCons (eTup (aCons (eC (.int 2)) (aCons (eTup aNil) (aCons (eTup aNil) aNil)))) aNil)) aNil)))))))))
    (sSeq (sSet (.nm 3) (eOp dAdd (eVar 3) (eOfN (nLst (aCons (eTup (aCons (eTup (aCons (eC (.int 2)) (aCons (eOfN (nLst aNil)) aNil))) aNil)) (aCons (eTup (aCons (eOfN (nLst (aCons (eC (.int 2)) (aCons (eTup aNil) aNil)))) aNil)) (aCons (eTup (aCons (eTup (aCons (eC (.str (Str.ofString "2"))) (aCons (eTup aNil) aNil))) aNil)) aNil)))))))
    (sSeq (sSet (.nm 3) (eOp dAdd (eVar 3) (eOfN (nLst (aCons (eTup (aCons (eTup (aCons (eC (.int 2)) (aCons (eTup (aCons (eTup (aCons (eC (.int 0)) (aCons (eC (.int 1)) aNil))) aNil)) aNil))) aNil)) (aCons (eTup (aCons (eTup (aCons (eC (.int 2)) (aCons (eTup (aCons (eTup (aCons (eC (.int 0)) (aCons (eC (.int 0)) (aCons (eC (.int 0)) aNil)))) aNil)) aNil))) aNil)) (aCons (eTup (aCons (eTup (aCons (eC (.int 2)) (aCons (eTup (aCons (eTup (aCons (eC (.int 1)) (aCons (eC (.int 1)) aNil))) aNil)) aNil))) aNil)) aNil)))))))
    (sSeq (sSet (.nm 3) (eOp dAdd (eVar 3) (eOfN (nLst (aCons (eTup (aCons (eTup (aCons (eC (.int 2)) (aCons (eTup (aCons (eTup (aCons (eC (.int 0)) aNil)) aNil)) aNil))) aNil)) (aCons (eTup (aCons (eTup (aCons (eC (.int 3)) (aCons (eTup (aCons (eTup (aCons (eC (.int 0)) (aCons (eC (.int 2)) (aCons (eC (.int 0)) aNil)))) aNil)) aNil))) aNil)) aNil))))))
    (sSeq (sSet (.nm 3) (eOp dAdd (eVar 3) (eOfN (nLst (aCons (eTup (aCons (eTup (aCons (eC (.int 3)) (aCons (eTup (aCons (eTup (aCons (eC (.int 0)) (aCons (eC (.int 1)) (aCons (eC (.int 1)) aNil)))) (aCons (eTup (aCons (eC (.int 0)) (aCons (eC (.int 1)) aNil))) aNil))) aNil))) aNil)) (aCons (eTup (aCons (eTup (aCons (eC (.int 3)) (aCons (eTup (aCons (eTup (aCons (eC (.int 0)) (aCons (eC (.int 1)) (aCons (eC (.bool true)) aNil)))) aNil)) aNil))) aNil)) aNil))))))
    (sSeq (sSet (.nm 3) (eOp dAdd (eVar 3) (eOfN (nLst (aCons (eTup (aCons (eTup (aCons (eC (.int 3)) (aCons (eTup (aCons (eOfN (nLst (aCons (eC (.int 0)) (aCons (eC (.int 1)) (aCons (eC (.int 1)) aNil))))) aNil)) aNil))) aNil)) (aCons (eTup (aCons (eTup (aCons (eC (.int 3)) (aCons (eTup (aCons (eTup (aCons (eC (.int 0)) (aCons (eUn dNeg (eC (.int 1))) (aCons (eC (.int 1)) aNil)))) aNil)) aNil))) aNil)) aNil))))))
    (sSeq (sSet (.nm 3) (eOp dAdd (eVar 3) (eOfN (nLst (aCons (eTup (aCons (eTup (aCons (eC (.int 6)) (aCons (eTup (aCons (eTup (aCons (eC (.int 0)) (aCons (eC (.int 1)) (aCons (eC (.int 2)) (aCons (eC (.int 3)) (aCons (eC (.int 4)) (aCons (eC (.int 4)) aNil))))))) (aCons (eTup (aCons (eC (.int 0)) (aCons (eC (.int 1)) (aCons (eC (.int 2)) (aCons (eC (.int 3)) (aCons (eC (.int 3)) aNil)))))) (aCons (eTup (aCons (eC (.int 0)) (aCons (eC (.int 1)) (aCons (eC (.int 2)) (aCons (eC (.int 2)) aNil))))) (aCons (eTup (aCons (eC (.int 0)) (aCons (eC (.int 1)) (aCons (eC (.int 1)) aNil)))) aNil))))) aNil))) aNil)) aNil)))))
    (sSeq (sSet (.nm 3) (eOp dAdd (eVar 3) (eOfN (nLst (aCons (eTup (aCons (eTup (aCons (eC (.int 1)) (aCons (eTup (aCons (eTup (aCons (eC (.int 0)) aNil)) aNil)) aNil))) aNil)) (aCons (eTup (aCons (eTup (aCons (eC (.int 2)) (aCons (eTup (aCons (eTup (aCons (eC (.int 0)) (aCons (eC (.int 0)) aNil))) (aCons (eTup aNil) aNil))) aNil))) aNil)) aNil))))))
    (sSeq (sSet (.nm 3) (eOp dAdd (eVar 3) (eOfN (nLst (aCons (eTup (aCons (eTup (aCons (eC (.int 6)) (aCons (eTup aNil) aNil))) (aCons (eTup (aCons (eC (.int 6)) (aCons (eTup aNil) aNil))) (aCons (eTup (aCons (eC (.int 2)) (aCons (eTup aNil) aNil))) aNil)))) (aCons (eOp dMul (eTup (aCons (eTup (aCons (eC (.int 2)) (aCons (eTup aNil) aNil))) aNil)) (eC (.int 4))) (aCons (eTup (aCons (eOp dIx (eVar 0) (eC (.int 0))) (aCons (eC .none) aNil))) aNil)))))))
    (sRet (eOp dAdd (eVar 3) (eOfN (nLst (aCons (eOp dAdd (eSl (eVar 0) oNo (oSome (eC (.int 1)))) (eTup (aCons (eTup (aCons (eVar 1) (aCons (eOfN (nList (eVar 2))) aNil))) aNil))) aNil)))))))))))))))))
def F_Cube_total : FD := fDef 1 1 0 0
    (sRet (eCall gSum (aCons (eStI 0 (eUn dNeg (eC (.int 1)))) aNil)))
def F_Cube_len : FD := fDef 1 2 0 0
    (sRet (eCall gLen (aCons (eOfN (nLc [1] (.nm 1) (iSeq (eStI 0 (eUn dNeg (eC (.int 1))))) (bVal (eOp dNe (eVar 1) (eC (.int 0)))) (eVar 1))) aNil)))
def F_Cube_repr : FD := fDef 1 1 0 0
    (sRet (eJoins ((eC (.str (Str.ofString "Cube("))) :: ((eFmtU (eLenI "Cube" F_Cube_len 0)) :: ((eC (.str (Str.ofString " cells, total "))) :: ((eFmtU (fCall0 F_written (aCons (eProp "Cube" "total" F_Cube_total 0) aNil))) :: ((eC (.str (Str.ofString ")"))) :: []))))) Str.empty))
abbrev RepT : Rep := repT [("Cube", F_Cube_repr)]
def saidL__law_said : List (Str × Str) := [("SchemeError", "scheme"), ("TableError", "table")]
def saidT__law_said : Str → Option Str := fun n => saidL__law_said.lookup n
def saidB__law_said (n : Str) : List (Str × Bool) := [("SchemeError", n == "SchemeError"), ("RollupError", n == "RollupError"), ("CellError", n == "CellError"), ("TableError", n == "TableError"), ("StoredError", n == "StoredError"), ("ReportError", n == "ReportError"), ("NumberError", n == "NumberError"), ("AmountError", n == "AmountError"), ("CubeError", n == "CubeError"), ("MatchError", n == "MatchError"), ("PlaceError", n == "PlaceError"), ("TextError", n == "TextError"), ("NothingDone", n == "NothingDone"), ("OrderError", n == "OrderError"), ("SumsError", n == "SumsError")]
def fs__law_said (n : Str) (a : Addr) : DS :=
    (sSeq (sSet (.nm 2) (eOfN (nLst (aCons (eIsE a 1 (n == "SchemeError")) (aCons (eIsE a 1 (n == "RollupError")) aNil)))))
    (sSeq (sSet (.nm 2) (eOp dAdd (eVar 2) (eOfN (nLst (aCons (eIsE a 1 (n == "CellError")) (aCons (eIsE a 1 (n == "TableError")) aNil))))))
    (sSeq (sSet (.nm 2) (eOp dAdd (eVar 2) (eOfN (nLst (aCons (eIsE a 1 (n == "StoredError")) (aCons (eIsE a 1 (n == "ReportError")) aNil))))))
    (sSeq (sSet (.nm 2) (eOp dAdd (eVar 2) (eOfN (nLst (aCons (eIsE a 1 (n == "NumberError")) aNil)))))
    (sSeq (sSet (.nm 2) (eOp dAdd (eVar 2) (eOfN (nLst (aCons (eIsE a 1 (n == "AmountError")) (aCons (eIsE a 1 (n == "CubeError")) aNil))))))
    (sSeq (sSet (.nm 2) (eOp dAdd (eVar 2) (eOfN (nLst (aCons (eIsE a 1 (n == "MatchError")) aNil)))))
    (sSeq (sSet (.nm 2) (eOp dAdd (eVar 2) (eOfN (nLst (aCons (eIsE a 1 (n == "PlaceError")) (aCons (eIsE a 1 (n == "TextError")) aNil))))))
    (sSeq (sSet (.nm 2) (eOp dAdd (eVar 2) (eOfN (nLst (aCons (eIsE a 1 (n == "NothingDone")) aNil)))))
    (sSeq (sSet (.nm 2) (eOp dAdd (eVar 2) (eOfN (nLst (aCons (eIsE a 1 (n == "OrderError")) (aCons (eIsE a 1 (n == "SumsError")) aNil))))))
    (sSeq (sSet (.nm 3) (eOfN (nLst (aCons (eC (.str (Str.ofString "scheme"))) (aCons (eC (.str (Str.ofString "rollup"))) (aCons (eC (.str (Str.ofString "cell"))) (aCons (eC (.str (Str.ofString "table"))) (aCons (eC (.str (Str.ofString "stored"))) (aCons (eC (.str (Str.ofString "report"))) aNil)))))))))
    (sSeq (sSet (.nm 3) (eOp dAdd (eVar 3) (eOfN (nLst (aCons (eC (.str (Str.ofString "number"))) (aCons (eC (.str (Str.ofString "amount"))) (aCons (eC (.str (Str.ofString "cube"))) (aCons (eC (.str (Str.ofString "match"))) (aCons (eC (.str (Str.ofString "place"))) aNil)))))))))
    (sSeq (sSet (.nm 3) (eOp dAdd (eVar 3) (eOfN (nLst (aCons (eC (.str (Str.ofString "text"))) (aCons (eC (.str (Str.ofString "nothing"))) (aCons (eC (.str (Str.ofString "order"))) (aCons (eC (.str (Str.ofString "sums"))) aNil))))))))
    (sRet (eIf (bVal (eOp dEq (eOp dCountU (eVar 2) (eC (.bool true))) (eC (.int 1)))) (eOp dIx (eVar 3) (eOp dIndex (eVar 2) (eC (.bool true)))) (eC (.str (Str.ofString "other")))))))))))))))))
def F_Cube_scheme : FD := fDef 1 1 0 0
    (sRet (eFldI 0 "attributes"))
def F_Cube_table : FD := fDef 1 1 0 0
    (sRet (eStI 0 (eUn dNeg (eC (.int 1)))))
def F_Cube_changes : FD := fDef 1 1 0 0
    (sRet (eOp dSub (eLenSt 0) (eC (.int 1))))
def F__law_told : FD := fDef 1 1 0 0
    (sRet (eTup (aCons (ePropE "Cube" F_Cube_scheme (eVar 0)) (aCons (ePropE "Cube" F_Cube_table (eVar 0)) (aCons (ePropE "Cube" F_Cube_total (eVar 0)) (aCons (ePropE "Cube" F_Cube_changes (eVar 0)) (aCons (eLenE "Cube" F_Cube_len (eVar 0)) (aCons (eRepr RepT (eVar 0)) aNil))))))))
def F__law_due : FD := fDef 3 6 0 0
    (sSeq (sSet (.nm 3) (eCall gLen (aCons (eOfN (nLc [5] (.nm 5) (iSeq (eVar 1)) (bVal (eOp dNe (eVar 5) (eC (.int 0)))) (eVar 5))) aNil)))
    (sSeq (sSet (.nm 4) (eOp dAdd (eOp dAdd (eOp dAdd (eOp dAdd (eC (.str (Str.ofString "Cube("))) (eCall gStrI (aCons (eVar 3) aNil))) (eC (.str (Str.ofString " cells, total ")))) (eCall gStrI (aCons (eCall gSum (aCons (eVar 1) aNil)) aNil))) (eC (.str (Str.ofString ")")))))
    (sRet (eTup (aCons (eVar 0) (aCons (eVar 1) (aCons (eCall gSum (aCons (eVar 1) aNil)) (aCons (eVar 2) (aCons (eVar 3) (aCons (eVar 4) aNil))))))))))
def F__law_no_tables : FD := fDef 1 2 0 0
    (sSeq (sSet (.nm 1) (eOfN (nLst (aCons (eC (.int 0)) (aCons (eC (.bool true)) (aCons (eC (.str (Str.ofString ""))) (aCons (eOfN (nLst aNil)) (aCons eDict0 (aCons (eOfN (nList (eVar 0))) (aCons (eOp dAdd (eVar 0) (eTup (aCons (eC (.int 0)) aNil))) (aCons (eSl (eVar 0) (oSome (eC (.int 1))) oNo) aNil)))))))))))
    (sSeq (sSet (.nm 1) (eOp dAdd (eVar 1) (eOfN (nLst (aCons (eOp dAdd (eSl (eVar 0) (oSome (eC (.int 1))) oNo) (eTup (aCons (eC (.bool true)) aNil))) (aCons (eOp dAdd (eSl (eVar 0) (oSome (eC (.int 1))) oNo) (eTup (aCons (eC .none) aNil))) (aCons (eTup (aCons (eVar 0) aNil)) aNil)))))))
    (sSeq (sSet (.nm 1) (eOp dAdd (eVar 1) (eOfN (nLst (aCons (eOp dAdd (eSl (eVar 0) (oSome (eC (.int 1))) oNo) (eTup (aCons (eC (.str (Str.ofString "0"))) aNil))) (aCons (eOp dAdd (eSl (eVar 0) (oSome (eC (.int 1))) oNo) (eTup (aCons (eTup (aCons (eC (.int 0)) aNil)) aNil))) (aCons (eOp dAdd (eSl (eVar 0) (oSome (eC (.int 1))) oNo) (eTup (aCons (eOfN (nLst (aCons (eC (.int 0)) aNil))) aNil))) aNil)))))))
    (sRet (eOp dAdd (eVar 1) (eOfN (nLst (aCons (eOp dMulS (eC (.str (Str.ofString "0"))) (eCall gLen (aCons (eVar 0) aNil))) (aCons (eOfN (nLst (aCons (eVar 0) aNil))) aNil)))))))))
def F_Cube : FI := fDefI "Cube" 2 3 0
    (iSeq0 (sDropX F_check_scheme (aCons (eVar 1) aNil))
    (iSeq0 (sIf (bVal (eOp dIsNot (eVar 2) (eC .none))) (sDropX F_check_table (aCons (eVar 1) (aCons (eVar 2) aNil))) sNext)
    (iSeq0 (sAttr 0 "attributes" (eVar 1))
    (iLast 0 "Cube" (eIf (bVal (eOp dIs (eVar 2) (eC .none))) (fCall0 F_no_amounts (aCons (eVar 1) (aCons (fCall0 F_finest (aCons (eVar 1) aNil)) aNil))) (eVar 2))))))
def B_law_1 : DS :=
    (sIf (bVal (eOp dNe (eSaid 0 "law" saidT__law_said (Str.ofString "") (xMk cvDef F_Cube (aCons (eVar 4) (aCons (eVar 8) aNil))) (fMk "Cube" cvDef F_Cube (aCons (eVar 4) (aCons (eVar 8) aNil)))) (eC (.str (Str.ofString "table"))))) (sRet (eC (.bool false))) sNext)
def B_law_2 : DS :=
    (sSeq (sSet (.nm 4) (fCall0 F__law_scheme (aCons (eOp dAdd (eVar 2) (eOp dMul (eC (.int 31)) (eVar 3))) aNil)))
    (sSeq (sParDD 5 6 (fCall0 F__law_table (aCons (eOp dAdd (eOp dDiv (eVar 2) (eC (.int 5))) (eVar 3)) (aCons (eVar 4) (aCons (eC (.int 3)) aNil)))) (eOp dMul (eTup (aCons (eC (.int 0)) aNil)) (eCall gLen (aCons (fCall0 F__law_fine_cells (aCons (eVar 4) aNil)) aNil))))
    (sSeq (sSet (.nm 7) (eRepr RepT (eTup (aCons (eVar 4) (aCons (eVar 5) aNil)))))
    (sSeq (sIf (bNot (bVal (fCall0 (F__law_is_same 8) (aCons (fCall0 F__law_told (aCons (fMk "Cube" cvDef F_Cube (aCons (eVar 4) aNil)) aNil)) (aCons (fCall0 F__law_due (aCons (eVar 4) (aCons (eVar 6) (aCons (eC (.int 0)) aNil)))) aNil))))) (sRet (eC (.bool false))) sNext)
    (sSeq (sIf (bNot (bVal (fCall0 (F__law_is_same 8) (aCons (fCall0 F__law_told (aCons (fMk "Cube" cvDef F_Cube (aCons (eVar 4) (aCons (eVar 5) aNil))) aNil)) (aCons (fCall0 F__law_due (aCons (eVar 4) (aCons (eVar 5) (aCons (eC (.int 0)) aNil)))) aNil))))) (sRet (eC (.bool false))) sNext)
    (sSeq (sIf (bNot (bVal (fCall0 (F__law_is_same 8) (aCons (fCall0 F__law_told (aCons (fMk "Cube" cvDef F_Cube (aCons (eVar 4) (aCons (eC .none) aNil))) aNil)) (aCons (fCall0 F__law_due (aCons (eVar 4) (aCons (eVar 6) (aCons (eC (.int 0)) aNil)))) aNil))))) (sRet (eC (.bool false))) sNext)
    (sSeq (sIf (bVal (eOp dNe (eRepr RepT (eTup (aCons (eVar 4) (aCons (eVar 5) aNil)))) (eVar 7))) (sRet (eC (.bool false))) sNext)
    (sFor (.nm 8) (iSeq (eOp dAdd (fCall0 F__law_no_tables (aCons (eVar 5) aNil)) (eOfN (nLst (aCons (eTup aNil) (aCons (fMk "Cube" cvDef F_Cube (aCons (eVar 4) aNil)) (aCons (eTup (aCons (fMk "Cube" cvDef F_Cube (aCons (eVar 4) aNil)) aNil)) aNil))))))) B_law_1))))))))
def B_law_3 : DS :=
    (sSeq (sNew 9 1 (nLst (aCons (eSaid 0 "law" saidT__law_said (Str.ofString "") (xMk cvDef F_Cube (aCons (eVar 8) aNil)) (fMk "Cube" cvDef F_Cube (aCons (eVar 8) aNil))) aNil)))
    (sSeq (sDrop (oAppend 9 (eSaid 0 "law" saidT__law_said (Str.ofString "") (xMk cvDef F_Cube (aCons (eVar 8) (aCons (eC (.int 0)) aNil))) (fMk "Cube" cvDef F_Cube (aCons (eVar 8) (aCons (eC (.int 0)) aNil))))))
    (sIf (bVal (oEq true 9 (eOfN (nLst (aCons (eC (.str (Str.ofString "scheme"))) (aCons (eC (.str (Str.ofString "scheme"))) aNil)))))) (sRet (eC (.bool false))) sNext)))
def B_law_4 : DS :=
    (sSeq (sSet (.nm 2) (fCallS F__law_cell 0 (aCons (eVar 1) aNil)))
    (sSeq (sFor (.nm 3) (iRg1 (aCons (eC (.int 3)) aNil)) B_law_2)
    (sFor (.nm 8) (iSeq (eOp dAdd (fCall0 F__law_no_schemes (aCons (eVar 4) aNil)) (eOfN (nLst (aCons (fMk "Cube" cvDef F_Cube (aCons (eVar 4) aNil)) aNil))))) B_law_3)))
def F_law : FD := fDef 1 10 1 1
    (sSeq (sFor (.nm 1) (iRg1 (aCons (eC (.int 3)) aNil)) B_law_4)
    (sRet (eC (.bool true))))
end MP
namespace MP
open PySem PySem.Spec PyProof.Rows L2 RL
abbrev N__wall : List Str := ["k"]
theorem sc__wall : FnScope N__wall ["k"] (defScope s__wall) := ⟨rfl, rfl, rfl, by decide +kernel, rfl, by decide +kernel, by decide +kernel⟩
abbrev N_is_integer : List Str := ["thing"]
theorem sc_is_integer : FnScope N_is_integer ["thing"] (defScope s_is_integer) := ⟨rfl, rfl, rfl, by decide +kernel, rfl, by decide +kernel, by decide +kernel⟩
abbrev N_is_number_from : List Str := ["thing", "least", "most"]
theorem sc_is_number_from : FnScope N_is_number_from ["thing", "least", "most"] (defScope s_is_number_from) := ⟨rfl, rfl, rfl, by decide +kernel, rfl, by decide +kernel, by decide +kernel⟩
abbrev N_are_integers : List Str := ["thing", "many", "part"]
theorem sc_are_integers : FnScope N_are_integers ["thing", "many"] (defScope s_are_integers) := ⟨rfl, rfl, rfl, by decide +kernel, rfl, by decide +kernel, by decide +kernel⟩
abbrev N_are_numbers_below : List Str := ["thing", "limits", "part", "limit"]
theorem sc_are_numbers_below : FnScope N_are_numbers_below ["thing", "limits"] (defScope s_are_numbers_below) := ⟨rfl, rfl, rfl, by decide +kernel, rfl, by decide +kernel, by decide +kernel⟩
abbrev N_written : List Str := ["number", "parts", "rest", "part", "digits"]
theorem sc_written : FnScope N_written ["number"] (defScope s_written) := ⟨rfl, rfl, rfl, by decide +kernel, rfl, by decide +kernel, by decide +kernel⟩
abbrev N_groups_of_step : List Str := ["thing", "below", "seen", "part", "many"]
theorem sc_groups_of_step : FnScope N_groups_of_step ["thing", "below"] (defScope s_groups_of_step) := ⟨rfl, rfl, rfl, by decide +kernel, rfl, by decide +kernel, by decide +kernel⟩
abbrev N_is_attribute : List Str := ["thing", "many", "steps", "below", "step"]
theorem sc_is_attribute : FnScope N_is_attribute ["thing"] (defScope s_is_attribute) := ⟨rfl, rfl, rfl, by decide +kernel, rfl, by decide +kernel, by decide +kernel⟩
abbrev N_count_of_cells : List Str := ["scheme", "product", "many", "steps"]
theorem sc_count_of_cells : FnScope N_count_of_cells ["scheme"] (defScope s_count_of_cells) := ⟨rfl, rfl, rfl, by decide +kernel, rfl, by decide +kernel, by decide +kernel⟩
abbrev N_group_count : List Str := ["attribute", "level", "many", "steps"]
theorem sc_group_count : FnScope N_group_count ["attribute", "level"] (defScope s_group_count) := ⟨rfl, rfl, rfl, by decide +kernel, rfl, by decide +kernel, by decide +kernel⟩
abbrev N_group_counts : List Str := ["scheme", "rollup", "attribute", "level"]
theorem sc_group_counts : FnScope N_group_counts ["scheme", "rollup"] (defScope s_group_counts) := ⟨rfl, rfl, rfl, by decide +kernel, rfl, by decide +kernel, by decide +kernel⟩
abbrev N_groups_above : List Str := ["attribute", "level", "higher", "first", "others", "groups", "step", "group"]
theorem sc_groups_above : FnScope N_groups_above ["attribute", "level", "higher"] (defScope s_groups_above) := ⟨rfl, rfl, rfl, by decide +kernel, rfl, by decide +kernel, by decide +kernel⟩
abbrev N_finest : List Str := ["scheme"]
theorem sc_finest : FnScope N_finest ["scheme"] (defScope s_finest) := ⟨rfl, rfl, rfl, by decide +kernel, rfl, by decide +kernel, by decide +kernel⟩
abbrev N_size_of : List Str := ["scheme", "rollup", "product", "attribute", "level"]
theorem sc_size_of : FnScope N_size_of ["scheme", "rollup"] (defScope s_size_of) := ⟨rfl, rfl, rfl, by decide +kernel, rfl, by decide +kernel, by decide +kernel⟩
abbrev N_place_of : List Str := ["scheme", "rollup", "cell", "place", "many", "group"]
theorem sc_place_of : FnScope N_place_of ["scheme", "rollup", "cell"] (defScope s_place_of) := ⟨rfl, rfl, rfl, by decide +kernel, rfl, by decide +kernel, by decide +kernel⟩
abbrev N_is_rollup : List Str := ["scheme", "thing", "part", "many", "steps"]
theorem sc_is_rollup : FnScope N_is_rollup ["scheme", "thing"] (defScope s_is_rollup) := ⟨rfl, rfl, rfl, by decide +kernel, rfl, by decide +kernel, by decide +kernel⟩
abbrev N_is_cell : List Str := ["scheme", "rollup", "thing"]
theorem sc_is_cell : FnScope N_is_cell ["scheme", "rollup", "thing"] (defScope s_is_cell) := ⟨rfl, rfl, rfl, by decide +kernel, rfl, by decide +kernel, by decide +kernel⟩
abbrev N_is_scheme : List Str := ["thing", "part"]
theorem sc_is_scheme : FnScope N_is_scheme ["thing"] (defScope s_is_scheme) := ⟨rfl, rfl, rfl, by decide +kernel, rfl, by decide +kernel, by decide +kernel⟩
abbrev N_check_scheme : List Str := ["scheme"]
theorem sc_check_scheme : FnScope N_check_scheme ["scheme"] (defScope s_check_scheme) := ⟨rfl, rfl, rfl, by decide +kernel, rfl, by decide +kernel, by decide +kernel⟩
abbrev N_check_rollup : List Str := ["scheme", "rollup"]
theorem sc_check_rollup : FnScope N_check_rollup ["scheme", "rollup"] (defScope s_check_rollup) := ⟨rfl, rfl, rfl, by decide +kernel, rfl, by decide +kernel, by decide +kernel⟩
abbrev N_check_cell : List Str := ["scheme", "rollup", "cell"]
theorem sc_check_cell : FnScope N_check_cell ["scheme", "rollup", "cell"] (defScope s_check_cell) := ⟨rfl, rfl, rfl, by decide +kernel, rfl, by decide +kernel, by decide +kernel⟩
abbrev N_is_table_of : List Str := ["scheme", "thing"]
theorem sc_is_table_of : FnScope N_is_table_of ["scheme", "thing"] (defScope s_is_table_of) := ⟨rfl, rfl, rfl, by decide +kernel, rfl, by decide +kernel, by decide +kernel⟩
abbrev N_turned : List Str := ["amounts", "attribute", "level", "higher", "many", "groups", "joined", "at", "amount", "group", "found", "columns", "parts"]
theorem sc_turned : FnScope N_turned ["amounts", "attribute", "level", "higher"] (defScope s_turned) := ⟨rfl, rfl, rfl, by decide +kernel, rfl, by decide +kernel, by decide +kernel⟩
abbrev N_added_up : List Str := ["scheme", "rollup", "amounts", "other", "found", "at"]
theorem sc_added_up : FnScope N_added_up ["scheme", "rollup", "amounts", "other"] (defScope s_added_up) := ⟨rfl, rfl, rfl, by decide +kernel, rfl, by decide +kernel, by decide +kernel⟩
abbrev N_sums_at : List Str := ["scheme", "table", "rollup"]
theorem sc_sums_at : FnScope N_sums_at ["scheme", "table", "rollup"] (defScope s_sums_at) := ⟨rfl, rfl, rfl, by decide +kernel, rfl, by decide +kernel, by decide +kernel⟩
abbrev N_no_amounts : List Str := ["scheme", "rollup"]
theorem sc_no_amounts : FnScope N_no_amounts ["scheme", "rollup"] (defScope s_no_amounts) := ⟨rfl, rfl, rfl, by decide +kernel, rfl, by decide +kernel, by decide +kernel⟩
abbrev N_with_more : List Str := ["scheme", "rollup", "amounts", "cell", "amount", "place"]
theorem sc_with_more : FnScope N_with_more ["scheme", "rollup", "amounts", "cell", "amount"] (defScope s_with_more) := ⟨rfl, rfl, rfl, by decide +kernel, rfl, by decide +kernel, by decide +kernel⟩
abbrev N_check_put : List Str := ["scheme", "cell", "amount"]
theorem sc_check_put : FnScope N_check_put ["scheme", "cell", "amount"] (defScope s_check_put) := ⟨rfl, rfl, rfl, by decide +kernel, rfl, by decide +kernel, by decide +kernel⟩
abbrev N_check_table : List Str := ["scheme", "table"]
theorem sc_check_table : FnScope N_check_table ["scheme", "table"] (defScope s_check_table) := ⟨rfl, rfl, rfl, by decide +kernel, rfl, by decide +kernel, by decide +kernel⟩
abbrev N__law_cell : List Str := ["_law_script", "_law_k"]
theorem sc__law_cell : FnScope N__law_cell ["_law_script", "_law_k"] (defScope s__law_cell) := ⟨rfl, rfl, rfl, by decide +kernel, rfl, by decide +kernel, by decide +kernel⟩
abbrev N__law_draws : List Str := ["_law_cell_here", "_law_bounds", "_law_found", "_law_left", "_law_below_here", "_law_k", "_law_mixed"]
theorem sc__law_draws : FnScope N__law_draws ["_law_cell_here", "_law_bounds"] (defScope s__law_draws) := ⟨rfl, rfl, rfl, by decide +kernel, rfl, by decide +kernel, by decide +kernel⟩
abbrev N__law_is_same : List Str := ["_law_actual", "_law_expected", "_law_k"]
theorem sc__law_is_same : FnScope N__law_is_same ["_law_actual", "_law_expected"] (defScope s__law_is_same) := ⟨rfl, rfl, rfl, by decide +kernel, rfl, by decide +kernel, by decide +kernel⟩
abbrev N__law_attribute : List Str := ["_law_numbers", "_law_many", "_law_steps", "_law_groups", "_law_turn", "_law_wide", "_law_by", "_law_row", "_law_at"]
theorem sc__law_attribute : FnScope N__law_attribute ["_law_numbers"] (defScope s__law_attribute) := ⟨rfl, rfl, rfl, by decide +kernel, rfl, by decide +kernel, by decide +kernel⟩
abbrev N__law_scheme : List Str := ["_law_cell_here", "_law_numbers", "_law_found", "_law_many", "_law_at", "_law_attribute_here"]
theorem sc__law_scheme : FnScope N__law_scheme ["_law_cell_here"] (defScope s__law_scheme) := ⟨rfl, rfl, rfl, by decide +kernel, rfl, by decide +kernel, by decide +kernel⟩
abbrev N__law_below : List Str := ["_law_numbers", "_law_found", "_law_many", "_law_later", "_law_row", "_law_one"]
theorem sc__law_below : FnScope N__law_below ["_law_numbers"] (defScope s__law_below) := ⟨rfl, rfl, rfl, by decide +kernel, rfl, by decide +kernel, by decide +kernel⟩
abbrev N__law_fine_cells : List Str := ["_law_scheme_here", "_law_attribute_here"]
theorem sc__law_fine_cells : FnScope N__law_fine_cells ["_law_scheme_here"] (defScope s__law_fine_cells) := ⟨rfl, rfl, rfl, by decide +kernel, rfl, by decide +kernel, by decide +kernel⟩
abbrev N__law_table : List Str := ["_law_cell_here", "_law_scheme_here", "_law_most", "_law_many", "_law_number"]
theorem sc__law_table : FnScope N__law_table ["_law_cell_here", "_law_scheme_here", "_law_most"] (defScope s__law_table) := ⟨rfl, rfl, rfl, by decide +kernel, rfl, by decide +kernel, by decide +kernel⟩
abbrev N__law_no_schemes : List Str := ["_law_scheme_here", "_law_many", "_law_steps", "_law_found"]
theorem sc__law_no_schemes : FnScope N__law_no_schemes ["_law_scheme_here"] (defScope s__law_no_schemes) := ⟨rfl, rfl, rfl, by decide +kernel, rfl, by decide +kernel, by decide +kernel⟩
abbrev N_Cube_total : List Str := ["self"]
theorem sc_Cube_total : FnScope N_Cube_total ["self"] (defScope s_Cube_total) := ⟨rfl, rfl, rfl, by decide +kernel, rfl, by decide +kernel, by decide +kernel⟩
abbrev N_Cube_len : List Str := ["self", "amount"]
theorem sc_Cube_len : FnScope N_Cube_len ["self"] (defScope s_Cube_len) := ⟨rfl, rfl, rfl, by decide +kernel, rfl, by decide +kernel, by decide +kernel⟩
abbrev N_Cube_repr : List Str := ["self"]
theorem sc_Cube_repr : FnScope N_Cube_repr ["self"] (defScope s_Cube_repr) := ⟨rfl, rfl, rfl, by decide +kernel, rfl, by decide +kernel, by decide +kernel⟩
abbrev N__law_said : List Str := ["_law_call", "e", "_law_marks", "_law_names"]
theorem sc__law_said : FnScope N__law_said ["_law_call"] (defScope s__law_said) := ⟨rfl, rfl, rfl, by decide +kernel, rfl, by decide +kernel, by decide +kernel⟩
abbrev N_Cube_scheme : List Str := ["self"]
theorem sc_Cube_scheme : FnScope N_Cube_scheme ["self"] (defScope s_Cube_scheme) := ⟨rfl, rfl, rfl, by decide +kernel, rfl, by decide +kernel, by decide +kernel⟩
abbrev N_Cube_table : List Str := ["self"]
theorem sc_Cube_table : FnScope N_Cube_table ["self"] (defScope s_Cube_table) := ⟨rfl, rfl, rfl, by decide +kernel, rfl, by decide +kernel, by decide +kernel⟩
abbrev N_Cube_changes : List Str := ["self"]
theorem sc_Cube_changes : FnScope N_Cube_changes ["self"] (defScope s_Cube_changes) := ⟨rfl, rfl, rfl, by decide +kernel, rfl, by decide +kernel, by decide +kernel⟩
abbrev N__law_told : List Str := ["_law_cube"]
theorem sc__law_told : FnScope N__law_told ["_law_cube"] (defScope s__law_told) := ⟨rfl, rfl, rfl, by decide +kernel, rfl, by decide +kernel, by decide +kernel⟩
abbrev N__law_due : List Str := ["_law_scheme_here", "_law_table_here", "_law_changes", "_law_many", "_law_text", "_law_amount"]
theorem sc__law_due : FnScope N__law_due ["_law_scheme_here", "_law_table_here", "_law_changes"] (defScope s__law_due) := ⟨rfl, rfl, rfl, by decide +kernel, rfl, by decide +kernel, by decide +kernel⟩
abbrev N__law_no_tables : List Str := ["_law_table_here", "_law_found"]
theorem sc__law_no_tables : FnScope N__law_no_tables ["_law_table_here"] (defScope s__law_no_tables) := ⟨rfl, rfl, rfl, by decide +kernel, rfl, by decide +kernel, by decide +kernel⟩
abbrev N_Cube : List Str := ["self", "scheme", "table"]
theorem sc_Cube : FnScope N_Cube ["self", "scheme", "table"] (defScope s_Cube) := ⟨rfl, rfl, rfl, by decide +kernel, rfl, by decide +kernel, by decide +kernel⟩
abbrev N_law : List Str := ["_law_script", "_law_k", "_law_cell_here", "_law_lap", "_law_scheme_here", "_law_table_here", "_law_none", "_law_kept", "_law_thing", "_law_words"]
theorem sc_law : FnScope N_law ["_law_script"] (defScope s_law) := ⟨rfl, rfl, rfl, by decide +kernel, rfl, by decide +kernel, by decide +kernel⟩
section
variable {P : Program} {w : World} {K : PySem.W.Frag} {mg : Str → Option Value} {base : Heap}
theorem pd__wall (D : Df K mg "_wall" s__wall) (Z : Zs mg) : C8.Cal P w K mg base 1 "_wall" (spF K 1 F__wall) [] :=
  mk_cal (W := fun _ _ => True) (N := N__wall) (ps := ["k"]) (n := 1) (p := 0) (q := 0) D sc__wall rfl (fun _ _ _ _ _ _ us hl => match us, hl with | [_], _ => rfl) fun f0 cdv A outer s H E hr => (pdss_one (pds_while 2000 PassesOwn.never (pdb_val pd_bl) (pdss_one pds_pass)))
theorem pd_is_integer (D : Df K mg "is_integer" s_is_integer) (Z : Zs mg) : C8.Cal P w K mg base 1 "is_integer" (spF K 1 F_is_integer) [] :=
  mk_cal (W := fun _ _ => True) (N := N_is_integer) (ps := ["thing"]) (n := 1) (p := 0) (q := 0) D sc_is_integer rfl (fun _ _ _ _ _ _ us hl => match us, hl with | [_], _ => rfl) fun f0 cdv A outer s H E hr => (pdss_one (pds_ret (pd_and (pd_isi (by rfl) Z.z_isinstance (by rfl) Z.z_int (by decide +kernel) (pdv 0)) (pd_and (pd_cmp op_isNotU od_isNot (pdv 0) pd_bl (nomark _)) (pd_one (pd_cmp op_isNotU od_isNot (pdv 0) pd_bl (nomark _)))))))
theorem pd_is_number_from (D : Df K mg "is_number_from" s_is_number_from) (Z : Zs mg) (C_is_integer : C8.Cal P w K mg base 1 "is_integer" (spF K 1 F_is_integer) []) : C8.Cal P w K mg base 2 "is_number_from" (spF K 3 F_is_number_from) [] :=
  mk_cal (W := fun _ _ => True) (N := N_is_number_from) (ps := ["thing", "least", "most"]) (n := 3) (p := 0) (q := 0) D sc_is_number_from rfl (fun _ _ _ _ _ _ us hl => match us, hl with | [_, _, _], _ => rfl) fun f0 cdv A outer s H E hr => (pdss_one (pds_ret (pd_and (pd_call0 C_is_integer hr (by decide) (by rfl) (pda_cons (pdv 0) pda_nil) (aCons_len (fun _ _ _ h => aNil_len h))) (pd_one (pd_chain op_le od_le op_le od_le (pdv 1) (pdv 0) (pdv 2))))))
theorem pd_are_integers (D : Df K mg "are_integers" s_are_integers) (Z : Zs mg) : C8.Cal P w K mg base 1 "are_integers" (spF K 2 F_are_integers) [] :=
  mk_cal (W := fun _ _ => True) (N := N_are_integers) (ps := ["thing", "many"]) (n := 2) (p := 0) (q := 0) D sc_are_integers rfl (fun _ _ _ _ _ _ us hl => match us, hl with | [_, _], _ => rfl) fun f0 cdv A outer s H E hr => (pdss_cons (pds_if (pdb_w (pdw_or (pdb_not (pdb_val (pd_isi (by rfl) Z.z_isinstance (by rfl) Z.z_tuple (by decide +kernel) (pdv 0)))) (pdw_or1 (pdb_cmp (op_neU hr.units) od_ne (pd_callB cr_lenU cd_len (by rfl) Z.z_len PySem.boot_len (pda_cons (pdv 0) pda_nil)) (pdv 1) (nomark _))))) (pdss_one (pds_ret pd_bl)) pdss_nil)
      (pdss_cons (pds_for PassesOwn.never rfl (pdi_seq (pdv 0)) (pdg_nm (i := 2) sc_are_integers.nd rfl (.inl rfl))
      (pdss_one (pds_if (pdb_w (pdw_or (pdb_not (pdb_val (pd_isi (by rfl) Z.z_isinstance (by rfl) Z.z_int (by decide +kernel) (pdv 2)))) (pdw_or (pdb_cmp op_isU od_is (pdv 2) pd_bl (nomark _)) (pdw_or1 (pdb_cmp op_isU od_is (pdv 2) pd_bl (nomark _)))))) (pdss_one (pds_ret pd_bl)) pdss_nil)))
      (pdss_one (pds_ret pd_bl))))
theorem pd_are_numbers_below (D : Df K mg "are_numbers_below" s_are_numbers_below) (Z : Zs mg) : C8.Cal P w K mg base 1 "are_numbers_below" (spF K 2 F_are_numbers_below) [] :=
  mk_cal (W := fun _ _ => True) (N := N_are_numbers_below) (ps := ["thing", "limits"]) (n := 2) (p := 0) (q := 0) D sc_are_numbers_below rfl (fun _ _ _ _ _ _ us hl => match us, hl with | [_, _], _ => rfl) fun f0 cdv A outer s H E hr => (pdss_cons (pds_if (pdb_w (pdw_or (pdb_not (pdb_val (pd_isi (by rfl) Z.z_isinstance (by rfl) Z.z_tuple (by decide +kernel) (pdv 0)))) (pdw_or1 (pdb_cmp (op_neU hr.units) od_ne (pd_callB cr_lenU cd_len (by rfl) Z.z_len PySem.boot_len (pda_cons (pdv 0) pda_nil)) (pd_callB cr_lenU cd_len (by rfl) Z.z_len PySem.boot_len (pda_cons (pdv 1) pda_nil)) (nomark _))))) (pdss_one (pds_ret pd_bl)) pdss_nil)
      (pdss_cons (pds_for PassesOwn.never rfl (pdi_zip2 (by rfl) Z.z_zip (pda_cons (pdv 0) (pda_cons (pdv 1) pda_nil))) (pdg_tp (n := 2) rfl (pdgs_cons (pdg_nm (i := 2) sc_are_numbers_below.nd rfl (.inl rfl)) (pdgs_cons (pdg_nm (i := 3) sc_are_numbers_below.nd rfl (.inl rfl)) pdgs_nil)))
      (pdss_one (pds_if (pdb_w (pdw_or (pdb_not (pdb_val (pd_isi (by rfl) Z.z_isinstance (by rfl) Z.z_int (by decide +kernel) (pdv 2)))) (pdw_or (pdb_cmp op_isU od_is (pdv 2) pd_bl (nomark _)) (pdw_or (pdb_cmp op_isU od_is (pdv 2) pd_bl (nomark _)) (pdw_or1 (pdb_not (pdb_chain op_le od_le op_lt od_lt pd_int (pdv 2) (pdv 3)))))))) (pdss_one (pds_ret pd_bl)) pdss_nil)))
      (pdss_one (pds_ret pd_bl))))
theorem pd_written (D : Df K mg "written" s_written) (Z : Zs mg) {t_PART_DIGITS : Tok} (m_PART_DIGITS : mg "PART_DIGITS" = some (.int 60 t_PART_DIGITS)) {t_PART : Tok} (m_PART : mg "PART" = some (.int 1000000000000000000000000000000000000000000000000000000000000 t_PART)) : C8.Cal P w K mg base 1 "written" (spF K 1 F_written) [] :=
  mk_cal (W := fun _ _ => True) (N := N_written) (ps := ["number"]) (n := 1) (p := 0) (q := 1) D sc_written rfl (fun _ _ _ _ _ _ us hl => match us, hl with | [_], _ => rfl) fun f0 cdv A outer s H E hr => (pdss_cons (pds_if (pdb_chain op_lt od_lt op_lt od_lt (pd_un un_neg ud_neg (pd_globI (by rfl) m_PART)) (pdv 0) (pd_globI (by rfl) m_PART)) (pdss_one (pds_ret (pd_callTy call_str_int cd_strI (by rfl) Z.z_str (by decide +kernel) (pda_cons (pdv 0) pda_nil)))) pdss_nil)
      pdss_never)
theorem pd_groups_of_step (D : Df K mg "groups_of_step" s_groups_of_step) (Z : Zs mg) : C8.Cal P w K mg base 1 "groups_of_step" (spF K 2 F_groups_of_step) [] :=
  mk_cal (W := fun _ _ => True) (N := N_groups_of_step) (ps := ["thing", "below"]) (n := 2) (p := 0) (q := 0) D sc_groups_of_step rfl (fun _ _ _ _ _ _ us hl => match us, hl with | [_, _], _ => rfl) fun f0 cdv A outer s H E hr => (pdss_cons (pds_if (pdb_w (pdw_or (pdb_not (pdb_val (pd_isi (by rfl) Z.z_isinstance (by rfl) Z.z_tuple (by decide +kernel) (pdv 0)))) (pdw_or1 (pdb_cmp (op_neU hr.units) od_ne (pd_callB cr_lenU cd_len (by rfl) Z.z_len PySem.boot_len (pda_cons (pdv 0) pda_nil)) (pdv 1) (nomark _))))) (pdss_one (pds_ret pd_int)) pdss_nil)
      (pdss_cons (pds_set (i := 2) sc_groups_of_step.nd rfl (.inl rfl) pd_int)
      (pdss_cons (pds_for PassesOwn.never rfl (pdi_seq (pdv 0)) (pdg_nm (i := 3) sc_groups_of_step.nd rfl (.inl rfl))
      (pdss_cons (pds_if (pdb_w (pdw_or (pdb_not (pdb_val (pd_isi (by rfl) Z.z_isinstance (by rfl) Z.z_int (by decide +kernel) (pdv 3)))) (pdw_or (pdb_cmp op_isU od_is (pdv 3) pd_bl (nomark _)) (pdw_or (pdb_cmp op_isU od_is (pdv 3) pd_bl (nomark _)) (pdw_or1 (pdb_not (pdb_chain op_le od_le op_lt od_lt pd_int (pdv 3) (pdv 1)))))))) (pdss_one (pds_ret pd_int)) pdss_nil)
      (pdss_one (pds_set (i := 2) sc_groups_of_step.nd rfl (.inl rfl) (pd_op op_or od_bor (pdv 2) (pd_op op_shl od_shl pd_int (pdv 3)))))))
      (pdss_cons (pds_set (i := 4) sc_groups_of_step.nd rfl (.inl rfl) (pd_bits (pdv 2)))
      (pdss_one (pds_ret (pd_if (pdb_w (pdw_and (pdb_cmp op_lt od_lt (pdv 4) (pdv 1) (nomark _)) (pdw_and1 (pdb_cmp (op_eqU hr.units) od_eq (pd_op op_addU od_add (pdv 2) pd_int) (pd_op op_shl od_shl pd_int (pdv 4)) (nomark _))))) (pdv 4) pd_int)))))))
theorem pd_is_attribute (D : Df K mg "is_attribute" s_is_attribute) (Z : Zs mg) {t_MOST_VALUES : Tok} (m_MOST_VALUES : mg "MOST_VALUES" = some (.int 6 t_MOST_VALUES)) {t_MOST_STEPS : Tok} (m_MOST_STEPS : mg "MOST_STEPS" = some (.int 3 t_MOST_STEPS)) (C_is_number_from : C8.Cal P w K mg base 2 "is_number_from" (spF K 3 F_is_number_from) []) (C_groups_of_step : C8.Cal P w K mg base 1 "groups_of_step" (spF K 2 F_groups_of_step) []) : C8.Cal P w K mg base 3 "is_attribute" (spF K 1 F_is_attribute) [] :=
  mk_cal (W := fun _ _ => True) (N := N_is_attribute) (ps := ["thing"]) (n := 1) (p := 0) (q := 0) D sc_is_attribute rfl (fun _ _ _ _ _ _ us hl => match us, hl with | [_], _ => rfl) fun f0 cdv A outer s H E hr => (pdss_cons (pds_if (pdb_w (pdw_or (pdb_not (pdb_val (pd_isi (by rfl) Z.z_isinstance (by rfl) Z.z_tuple (by decide +kernel) (pdv 0)))) (pdw_or1 (pdb_cmp (op_neU hr.units) od_ne (pd_callB cr_lenU cd_len (by rfl) Z.z_len PySem.boot_len (pda_cons (pdv 0) pda_nil)) pd_int (nomark _))))) (pdss_one (pds_ret pd_bl)) pdss_nil)
      (pdss_cons (pds_asg (pdv 0) (pdg_tp (n := 2) rfl (pdgs_cons (pdg_nm (i := 1) sc_is_attribute.nd rfl (.inl rfl)) (pdgs_cons (pdg_nm (i := 2) sc_is_attribute.nd rfl (.inl rfl)) pdgs_nil))))
      (pdss_cons (pds_if (pdb_w (pdw_or (pdb_not (pdb_val (pd_call0 C_is_number_from hr (by decide) (by rfl) (pda_cons (pdv 1) (pda_cons pd_int (pda_cons (pd_globI (by rfl) m_MOST_VALUES) pda_nil))) (aCons_len (aCons_len (aCons_len (fun _ _ _ h => aNil_len h))))))) (pdw_or (pdb_not (pdb_val (pd_isi (by rfl) Z.z_isinstance (by rfl) Z.z_tuple (by decide +kernel) (pdv 2)))) (pdw_or1 (pdb_cmp op_gt od_gt (pd_callB cr_lenU cd_len (by rfl) Z.z_len PySem.boot_len (pda_cons (pdv 2) pda_nil)) (pd_globI (by rfl) m_MOST_STEPS) (nomark _)))))) (pdss_one (pds_ret pd_bl)) pdss_nil)
      (pdss_cons (pds_set (i := 3) sc_is_attribute.nd rfl (.inl rfl) (pdv 1))
      (pdss_cons (pds_for PassesOwn.never rfl (pdi_seq (pdv 2)) (pdg_nm (i := 4) sc_is_attribute.nd rfl (.inl rfl))
      (pdss_cons (pds_set (i := 3) sc_is_attribute.nd rfl (.inl rfl) (pd_call0 C_groups_of_step hr (by decide) (by rfl) (pda_cons (pdv 4) (pda_cons (pdv 3) pda_nil)) (aCons_len (aCons_len (fun _ _ _ h => aNil_len h)))))
      (pdss_one (pds_if (pdb_cmp (op_eqU hr.units) od_eq (pdv 3) pd_int (nomark _)) (pdss_one (pds_ret pd_bl)) pdss_nil))))
      (pdss_one (pds_ret pd_bl)))))))
theorem pd_count_of_cells (D : Df K mg "count_of_cells" s_count_of_cells) (Z : Zs mg) : C8.Cal P w K mg base 1 "count_of_cells" (spF K 1 F_count_of_cells) [] :=
  mk_cal (W := fun _ _ => True) (N := N_count_of_cells) (ps := ["scheme"]) (n := 1) (p := 0) (q := 0) D sc_count_of_cells rfl (fun _ _ _ _ _ _ us hl => match us, hl with | [_], _ => rfl) fun f0 cdv A outer s H E hr => (pdss_cons (pds_set (i := 1) sc_count_of_cells.nd rfl (.inl rfl) pd_int)
      (pdss_cons (pds_for PassesOwn.never rfl (pdi_seq (pdv 0)) (pdg_tp (n := 2) rfl (pdgs_cons (pdg_nm (i := 2) sc_count_of_cells.nd rfl (.inl rfl)) (pdgs_cons (pdg_nm (i := 3) sc_count_of_cells.nd rfl (.inl rfl)) pdgs_nil)))
      (pdss_one (pds_set (i := 1) sc_count_of_cells.nd rfl (.inl rfl) (pd_op op_mulU od_mul (pdv 1) (pdv 2)))))
      (pdss_one (pds_ret (pdv 1)))))
theorem pd_group_count (D : Df K mg "group_count" s_group_count) (Z : Zs mg) : C8.Cal P w K mg base 1 "group_count" (spF K 2 F_group_count) [] :=
  mk_cal (W := fun _ _ => True) (N := N_group_count) (ps := ["attribute", "level"]) (n := 2) (p := 0) (q := 0) D sc_group_count rfl (fun _ _ _ _ _ _ us hl => match us, hl with | [_, _], _ => rfl) fun f0 cdv A outer s H E hr => (pdss_cons (pds_asg (pdv 0) (pdg_tp (n := 2) rfl (pdgs_cons (pdg_nm (i := 2) sc_group_count.nd rfl (.inl rfl)) (pdgs_cons (pdg_nm (i := 3) sc_group_count.nd rfl (.inl rfl)) pdgs_nil))))
      (pdss_one (pds_ret (pd_if (pdb_cmp (op_eqU hr.units) od_eq (pdv 1) pd_int (nomark _)) (pdv 2) (pd_op op_addU od_add (pd_callB (cr_maxU rfl hr.units) cd_max (by rfl) Z.z_max (by decide +kernel) (pda_cons (pd_ix (pdv 3) (pd_op op_sub od_sub (pdv 1) pd_int) (fun _ _ => rfl)) pda_nil)) pd_int)))))
theorem pd_group_counts (D : Df K mg "group_counts" s_group_counts) (Z : Zs mg) (C_group_count : C8.Cal P w K mg base 1 "group_count" (spF K 2 F_group_count) []) : C8.Cal P w K mg base 2 "group_counts" (spF K 2 F_group_counts) [] :=
  mk_cal (W := fun _ _ => True) (N := N_group_counts) (ps := ["scheme", "rollup"]) (n := 2) (p := 0) (q := 0) D sc_group_counts rfl (fun _ _ _ _ _ _ us hl => match us, hl with | [_, _], _ => rfl) fun f0 cdv A outer s H E hr => (pdss_one (pds_ret (pd_ofN (pdn_lc (own := [("attribute", 2), ("level", 3)]) (t := (.tp 2 (.cons (.nm 2) (.cons (.nm 3) .nil)))) rfl sc_group_counts.nd (pdi_zip2 (by rfl) Z.z_zip (pda_cons (pdv 0) (pda_cons (pdv 1) pda_nil))) (blkOk_by (own := [("attribute", 2), ("level", 3)]) (N := N_group_counts) (sc := defScope s_group_counts) (by decide +kernel)) (by decide) (fun _ _ _ _ _ => (pdg_tp (n := 2) rfl (pdgs_cons (pdg_nm (i := 2) sc_group_counts.nd rfl (by first | exact Or.inl rfl | exact Or.inr rfl)) (pdgs_cons (pdg_nm (i := 3) sc_group_counts.nd rfl (by first | exact Or.inl rfl | exact Or.inr rfl)) pdgs_nil)))) (fun _ _ _ _ _ => pdts_nil) (fun _ _ _ _ _ => (pd_call0 C_group_count hr (by decide) (by rfl) (pda_cons (pdv 2) (pda_cons (pdv 3) pda_nil)) (aCons_len (aCons_len (fun _ _ _ h => aNil_len h)))))))))
theorem pd_groups_above (D : Df K mg "groups_above" s_groups_above) (Z : Zs mg) (C_group_count : C8.Cal P w K mg base 1 "group_count" (spF K 2 F_group_count) []) : C8.Cal P w K mg base 2 "groups_above" (spF K 3 F_groups_above) [] :=
  mk_cal (W := fun _ _ => True) (N := N_groups_above) (ps := ["attribute", "level", "higher"]) (n := 3) (p := 0) (q := 0) D sc_groups_above rfl (fun _ _ _ _ _ _ us hl => match us, hl with | [_, _, _], _ => rfl) fun f0 cdv A outer s H E hr => (pdss_cons (pds_if (pdb_cmp (op_eqU hr.units) od_eq (pdv 1) (pdv 2) (nomark _)) (pdss_one (pds_ret (pd_ofN (pdn_listRange rfl (by rfl) Z.z_list (by rfl) Z.z_range (pd_call0 C_group_count hr (by decide) (by rfl) (pda_cons (pdv 0) (pda_cons (pdv 1) pda_nil)) (aCons_len (aCons_len (fun _ _ _ h => aNil_len h)))))))) pdss_nil)
      (pdss_cons (pds_head (i := 3) (j := 4) rfl sc_groups_above.nd rfl rfl (.inl rfl) (.inl rfl) (pd_sl (pd_ix (pdv 0) pd_int (fun _ _ => rfl)) (pdo_some (pdv 1)) (pdo_some (pdv 2))))
      (pdss_cons (pds_set (i := 5) sc_groups_above.nd rfl (.inl rfl) (pd_ofN (pdn_list (by rfl) Z.z_list (pdv 3))))
      (pdss_cons (pds_for PassesOwn.never rfl (pdi_seq (pdv 4)) (pdg_nm (i := 6) sc_groups_above.nd rfl (.inr rfl))
      (pdss_one (pds_setLc (i := 5) (own := [("group", 7)]) (t := (.nm 7)) rfl sc_groups_above.nd rfl rfl (sw_true rfl rfl rfl (by decide +kernel)) (pdi_seq (pdv 5)) (blkOk_by (own := [("group", 7)]) (N := N_groups_above) (sc := defScope s_groups_above) (by decide +kernel)) (by decide) (fun _ _ _ _ _ => (pdg_nm (i := 7) sc_groups_above.nd rfl (by first | exact Or.inl rfl | exact Or.inr rfl))) (fun _ _ _ _ _ => pdts_nil) (fun _ _ _ _ _ => (pd_ix (pdv 6) (pdv 7) (fun _ _ => rfl))))))
      (pdss_one (pds_ret (pdv 5)))))))
theorem pd_finest (D : Df K mg "finest" s_finest) (Z : Zs mg) : C8.Cal P w K mg base 1 "finest" (spF K 1 F_finest) [] :=
  mk_cal (W := fun _ _ => True) (N := N_finest) (ps := ["scheme"]) (n := 1) (p := 0) (q := 0) D sc_finest rfl (fun _ _ _ _ _ _ us hl => match us, hl with | [_], _ => rfl) fun f0 cdv A outer s H E hr => (pdss_one (pds_ret (pd_op op_mulU od_mul (pd_tup (pda_cons pd_int pda_nil)) (pd_callB cr_lenU cd_len (by rfl) Z.z_len PySem.boot_len (pda_cons (pdv 0) pda_nil)))))
theorem pd_size_of (D : Df K mg "size_of" s_size_of) (Z : Zs mg) (C_group_count : C8.Cal P w K mg base 1 "group_count" (spF K 2 F_group_count) []) : C8.Cal P w K mg base 2 "size_of" (spF K 2 F_size_of) [] :=
  mk_cal (W := fun _ _ => True) (N := N_size_of) (ps := ["scheme", "rollup"]) (n := 2) (p := 0) (q := 0) D sc_size_of rfl (fun _ _ _ _ _ _ us hl => match us, hl with | [_, _], _ => rfl) fun f0 cdv A outer s H E hr => (pdss_cons (pds_set (i := 2) sc_size_of.nd rfl (.inl rfl) pd_int)
      (pdss_cons (pds_for PassesOwn.never rfl (pdi_zip2 (by rfl) Z.z_zip (pda_cons (pdv 0) (pda_cons (pdv 1) pda_nil))) (pdg_tp (n := 2) rfl (pdgs_cons (pdg_nm (i := 3) sc_size_of.nd rfl (.inl rfl)) (pdgs_cons (pdg_nm (i := 4) sc_size_of.nd rfl (.inl rfl)) pdgs_nil)))
      (pdss_one (pds_set (i := 2) sc_size_of.nd rfl (.inl rfl) (pd_op op_mulU od_mul (pdv 2) (pd_call0 C_group_count hr (by decide) (by rfl) (pda_cons (pdv 3) (pda_cons (pdv 4) pda_nil)) (aCons_len (aCons_len (fun _ _ _ h => aNil_len h))))))))
      (pdss_one (pds_ret (pdv 2)))))
theorem pd_place_of (D : Df K mg "place_of" s_place_of) (Z : Zs mg) (C_group_counts : C8.Cal P w K mg base 2 "group_counts" (spF K 2 F_group_counts) []) : C8.Cal P w K mg base 3 "place_of" (spF K 3 F_place_of) [] :=
  mk_cal (W := fun _ _ => True) (N := N_place_of) (ps := ["scheme", "rollup", "cell"]) (n := 3) (p := 0) (q := 0) D sc_place_of rfl (fun _ _ _ _ _ _ us hl => match us, hl with | [_, _, _], _ => rfl) fun f0 cdv A outer s H E hr => (pdss_cons (pds_set (i := 3) sc_place_of.nd rfl (.inl rfl) pd_int)
      (pdss_cons (pds_for PassesOwn.never rfl (pdi_zip2 (by rfl) Z.z_zip (pda_cons (pd_call0 C_group_counts hr (by decide) (by rfl) (pda_cons (pdv 0) (pda_cons (pdv 1) pda_nil)) (aCons_len (aCons_len (fun _ _ _ h => aNil_len h)))) (pda_cons (pdv 2) pda_nil))) (pdg_tp (n := 2) rfl (pdgs_cons (pdg_nm (i := 4) sc_place_of.nd rfl (.inl rfl)) (pdgs_cons (pdg_nm (i := 5) sc_place_of.nd rfl (.inl rfl)) pdgs_nil)))
      (pdss_one (pds_set (i := 3) sc_place_of.nd rfl (.inl rfl) (pd_op op_addU od_add (pd_op op_mulU od_mul (pdv 3) (pdv 4)) (pdv 5)))))
      (pdss_one (pds_ret (pdv 3)))))
theorem pd_is_rollup (D : Df K mg "is_rollup" s_is_rollup) (Z : Zs mg) : C8.Cal P w K mg base 1 "is_rollup" (spF K 2 F_is_rollup) [] :=
  mk_cal (W := fun _ _ => True) (N := N_is_rollup) (ps := ["scheme", "thing"]) (n := 2) (p := 0) (q := 0) D sc_is_rollup rfl (fun _ _ _ _ _ _ us hl => match us, hl with | [_, _], _ => rfl) fun f0 cdv A outer s H E hr => (pdss_cons (pds_if (pdb_w (pdw_or (pdb_not (pdb_val (pd_isi (by rfl) Z.z_isinstance (by rfl) Z.z_tuple (by decide +kernel) (pdv 1)))) (pdw_or1 (pdb_cmp (op_neU hr.units) od_ne (pd_callB cr_lenU cd_len (by rfl) Z.z_len PySem.boot_len (pda_cons (pdv 1) pda_nil)) (pd_callB cr_lenU cd_len (by rfl) Z.z_len PySem.boot_len (pda_cons (pdv 0) pda_nil)) (nomark _))))) (pdss_one (pds_ret pd_bl)) pdss_nil)
      (pdss_cons (pds_for PassesOwn.never rfl (pdi_zip2 (by rfl) Z.z_zip (pda_cons (pdv 1) (pda_cons (pdv 0) pda_nil))) (pdg_tp (n := 2) rfl (pdgs_cons (pdg_nm (i := 2) sc_is_rollup.nd rfl (.inl rfl)) (pdgs_cons (pdg_tp (n := 2) rfl (pdgs_cons (pdg_nm (i := 3) sc_is_rollup.nd rfl (.inl rfl)) (pdgs_cons (pdg_nm (i := 4) sc_is_rollup.nd rfl (.inl rfl)) pdgs_nil))) pdgs_nil)))
      (pdss_one (pds_if (pdb_w (pdw_or (pdb_not (pdb_val (pd_isi (by rfl) Z.z_isinstance (by rfl) Z.z_int (by decide +kernel) (pdv 2)))) (pdw_or (pdb_cmp op_isU od_is (pdv 2) pd_bl (nomark _)) (pdw_or (pdb_cmp op_isU od_is (pdv 2) pd_bl (nomark _)) (pdw_or1 (pdb_not (pdb_chain op_le od_le op_le od_le pd_int (pdv 2) (pd_callB cr_lenU cd_len (by rfl) Z.z_len PySem.boot_len (pda_cons (pdv 4) pda_nil))))))))) (pdss_one (pds_ret pd_bl)) pdss_nil)))
      (pdss_one (pds_ret pd_bl))))
theorem pd_is_cell (D : Df K mg "is_cell" s_is_cell) (Z : Zs mg) (C_are_numbers_below : C8.Cal P w K mg base 1 "are_numbers_below" (spF K 2 F_are_numbers_below) []) (C_group_counts : C8.Cal P w K mg base 2 "group_counts" (spF K 2 F_group_counts) []) : C8.Cal P w K mg base 3 "is_cell" (spF K 3 F_is_cell) [] :=
  mk_cal (W := fun _ _ => True) (N := N_is_cell) (ps := ["scheme", "rollup", "thing"]) (n := 3) (p := 0) (q := 0) D sc_is_cell rfl (fun _ _ _ _ _ _ us hl => match us, hl with | [_, _, _], _ => rfl) fun f0 cdv A outer s H E hr => (pdss_one (pds_ret (pd_call0 C_are_numbers_below hr (by decide) (by rfl) (pda_cons (pdv 2) (pda_cons (pd_call0 C_group_counts hr (by decide) (by rfl) (pda_cons (pdv 0) (pda_cons (pdv 1) pda_nil)) (aCons_len (aCons_len (fun _ _ _ h => aNil_len h)))) pda_nil)) (aCons_len (aCons_len (fun _ _ _ h => aNil_len h))))))
theorem pd_is_scheme (D : Df K mg "is_scheme" s_is_scheme) (Z : Zs mg) {t_MOST_ATTRIBUTES : Tok} (m_MOST_ATTRIBUTES : mg "MOST_ATTRIBUTES" = some (.int 3 t_MOST_ATTRIBUTES)) {t_MOST_CELLS : Tok} (m_MOST_CELLS : mg "MOST_CELLS" = some (.int 60 t_MOST_CELLS)) (C_is_attribute : C8.Cal P w K mg base 3 "is_attribute" (spF K 1 F_is_attribute) []) (C_count_of_cells : C8.Cal P w K mg base 1 "count_of_cells" (spF K 1 F_count_of_cells) []) : C8.Cal P w K mg base 4 "is_scheme" (spF K 1 F_is_scheme) [] :=
  mk_cal (W := fun _ _ => True) (N := N_is_scheme) (ps := ["thing"]) (n := 1) (p := 0) (q := 0) D sc_is_scheme rfl (fun _ _ _ _ _ _ us hl => match us, hl with | [_], _ => rfl) fun f0 cdv A outer s H E hr => (pdss_cons (pds_if (pdb_w (pdw_or (pdb_not (pdb_val (pd_isi (by rfl) Z.z_isinstance (by rfl) Z.z_tuple (by decide +kernel) (pdv 0)))) (pdw_or1 (pdb_not (pdb_chain op_le od_le op_le od_le pd_int (pd_callB cr_lenU cd_len (by rfl) Z.z_len PySem.boot_len (pda_cons (pdv 0) pda_nil)) (pd_globI (by rfl) m_MOST_ATTRIBUTES)))))) (pdss_one (pds_ret pd_bl)) pdss_nil)
      (pdss_cons (pds_for PassesOwn.never rfl (pdi_seq (pdv 0)) (pdg_nm (i := 1) sc_is_scheme.nd rfl (.inl rfl))
      (pdss_one (pds_if (pdb_not (pdb_val (pd_call0 C_is_attribute hr (by decide) (by rfl) (pda_cons (pdv 1) pda_nil) (aCons_len (fun _ _ _ h => aNil_len h))))) (pdss_one (pds_ret pd_bl)) pdss_nil)))
      (pdss_one (pds_ret (pd_cmp op_le od_le (pd_call0 C_count_of_cells hr (by decide) (by rfl) (pda_cons (pdv 0) pda_nil) (aCons_len (fun _ _ _ h => aNil_len h))) (pd_globI (by rfl) m_MOST_CELLS) (nomark _))))))
theorem pd_check_scheme (D : Df K mg "check_scheme" s_check_scheme) (Z : Zs mg) (X_SchemeError : ExC K mg "SchemeError") (C_is_scheme : C8.Cal P w K mg base 4 "is_scheme" (spF K 1 F_is_scheme) []) : CalX P w K mg base 5 "check_scheme" (spX K mg 1 F_check_scheme) :=
  mk_calX (N := N_check_scheme) (ps := ["scheme"]) (n := 1) (p := 0) (q := 0) D sc_check_scheme rfl (fun _ _ _ _ _ _ us hl => match us, hl with | [_], _ => rfl) fun f0 cdv A outer s H E hr => (pdss_one (pds_if (pdb_not (pdb_val (pd_call0 C_is_scheme hr (by decide) (by rfl) (pda_cons (pdv 0) pda_nil) (aCons_len (fun _ _ _ h => aNil_len h))))) (pdss_one (pds_raise rfl (takes_of rfl rfl rfl rfl) X_SchemeError (by rfl))) pdss_nil))
theorem pd_check_rollup (D : Df K mg "check_rollup" s_check_rollup) (Z : Zs mg) (X_RollupError : ExC K mg "RollupError") (C_is_rollup : C8.Cal P w K mg base 1 "is_rollup" (spF K 2 F_is_rollup) []) : CalX P w K mg base 2 "check_rollup" (spX K mg 2 F_check_rollup) :=
  mk_calX (N := N_check_rollup) (ps := ["scheme", "rollup"]) (n := 2) (p := 0) (q := 0) D sc_check_rollup rfl (fun _ _ _ _ _ _ us hl => match us, hl with | [_, _], _ => rfl) fun f0 cdv A outer s H E hr => (pdss_one (pds_if (pdb_not (pdb_val (pd_call0 C_is_rollup hr (by decide) (by rfl) (pda_cons (pdv 0) (pda_cons (pdv 1) pda_nil)) (aCons_len (aCons_len (fun _ _ _ h => aNil_len h)))))) (pdss_one (pds_raise rfl (takes_of rfl rfl rfl rfl) X_RollupError (by rfl))) pdss_nil))
theorem pd_check_cell (D : Df K mg "check_cell" s_check_cell) (Z : Zs mg) (X_CellError : ExC K mg "CellError") (C_is_cell : C8.Cal P w K mg base 3 "is_cell" (spF K 3 F_is_cell) []) : CalX P w K mg base 4 "check_cell" (spX K mg 3 F_check_cell) :=
  mk_calX (N := N_check_cell) (ps := ["scheme", "rollup", "cell"]) (n := 3) (p := 0) (q := 0) D sc_check_cell rfl (fun _ _ _ _ _ _ us hl => match us, hl with | [_, _, _], _ => rfl) fun f0 cdv A outer s H E hr => (pdss_one (pds_if (pdb_not (pdb_val (pd_call0 C_is_cell hr (by decide) (by rfl) (pda_cons (pdv 0) (pda_cons (pdv 1) (pda_cons (pdv 2) pda_nil))) (aCons_len (aCons_len (aCons_len (fun _ _ _ h => aNil_len h))))))) (pdss_one (pds_raise rfl (takes_of rfl rfl rfl rfl) X_CellError (by rfl))) pdss_nil))
theorem pd_is_table_of (D : Df K mg "is_table_of" s_is_table_of) (Z : Zs mg) (C_are_integers : C8.Cal P w K mg base 1 "are_integers" (spF K 2 F_are_integers) []) (C_count_of_cells : C8.Cal P w K mg base 1 "count_of_cells" (spF K 1 F_count_of_cells) []) : C8.Cal P w K mg base 2 "is_table_of" (spF K 2 F_is_table_of) [] :=
  mk_cal (W := fun _ _ => True) (N := N_is_table_of) (ps := ["scheme", "thing"]) (n := 2) (p := 0) (q := 0) D sc_is_table_of rfl (fun _ _ _ _ _ _ us hl => match us, hl with | [_, _], _ => rfl) fun f0 cdv A outer s H E hr => (pdss_one (pds_ret (pd_call0 C_are_integers hr (by decide) (by rfl) (pda_cons (pdv 1) (pda_cons (pd_call0 C_count_of_cells hr (by decide) (by rfl) (pda_cons (pdv 0) pda_nil) (aCons_len (fun _ _ _ h => aNil_len h))) pda_nil)) (aCons_len (aCons_len (fun _ _ _ h => aNil_len h))))))
theorem pd_turned (D : Df K mg "turned" s_turned) (Z : Zs mg) (C_group_count : C8.Cal P w K mg base 1 "group_count" (spF K 2 F_group_count) []) (C_groups_above : C8.Cal P w K mg base 2 "groups_above" (spF K 3 F_groups_above) []) : C8.Cal P w K mg base 3 "turned" (spF K 4 F_turned) [] :=
  mk_cal (W := fun _ _ => True) (N := N_turned) (ps := ["amounts", "attribute", "level", "higher"]) (n := 4) (p := 0) (q := 0) D sc_turned rfl (fun _ _ _ _ _ _ us hl => match us, hl with | [_, _, _, _], _ => rfl) fun f0 cdv A outer s H E hr => (pdss_cons (pds_if (pdb_cmp (op_eqU hr.units) od_eq (pdv 2) (pdv 3) (nomark _)) (pdss_cons (pds_set (i := 4) sc_turned.nd rfl (.inr rfl) (pd_call0 C_group_count hr (by decide) (by rfl) (pda_cons (pdv 1) (pda_cons (pdv 2) pda_nil)) (aCons_len (aCons_len (fun _ _ _ h => aNil_len h)))))
      (pdss_cons (pds_if (pdb_w (pdw_or (pdb_cmp (op_eqU hr.units) od_eq (pdv 4) pd_int (nomark _)) (pdw_or1 (pdb_cmp (op_eqU hr.units) od_eq (pdv 4) (pd_callB cr_lenU cd_len (by rfl) Z.z_len PySem.boot_len (pda_cons (pdv 0) pda_nil)) (nomark _))))) (pdss_one (pds_ret (pdv 0))) pdss_nil)
      (pdss_one (pds_ret (pd_ofN (pdn_lc2 (own := [("at", 7), ("amount", 8)]) (t := (.nm 7)) (t1 := (.nm 8)) (vs1 := [8]) rfl sc_turned.nd (pdi_range1 (by rfl) Z.z_range (pda_cons (pdv 4) pda_nil)) (blkOk_by (own := [("at", 7), ("amount", 8)]) (N := N_turned) (sc := defScope s_turned) (by decide +kernel)) (by decide) (by decide) (by decide) (fun _ _ _ _ _ => (pdg_nm (i := 7) sc_turned.nd rfl (by first | exact Or.inl rfl | exact Or.inr rfl))) (fun _ _ _ _ _ => pdts_nil) (fun _ _ _ _ _ => (pdi_seq (pd_stp (pdv 0) (pdo_some (pdv 7)) pdo_none (pdo_some (pdv 4))))) (fun _ _ _ _ _ => (pdg_nm (i := 8) sc_turned.nd rfl (by first | exact Or.inl rfl | exact Or.inr rfl))) (fun _ _ _ _ _ => pdts_nil) (fun _ _ _ _ _ => (pdv 8)))))))) pdss_nil)
      (pdss_cons (pds_set (i := 5) sc_turned.nd rfl (.inr rfl) (pd_call0 C_groups_above hr (by decide) (by rfl) (pda_cons (pdv 1) (pda_cons (pdv 2) (pda_cons (pdv 3) pda_nil))) (aCons_len (aCons_len (aCons_len (fun _ _ _ h => aNil_len h))))))
      (pdss_cons (pds_set (i := 4) sc_turned.nd rfl (.inr rfl) (pd_callB cr_lenU cd_len (by rfl) Z.z_len PySem.boot_len (pda_cons (pdv 5) pda_nil)))
      (pdss_cons (pds_setLc (i := 6) (own := [("group", 9)]) (t := (.nm 9)) rfl sc_turned.nd rfl rfl (sw_true rfl rfl rfl (by decide +kernel)) (pdi_range1 (by rfl) Z.z_range (pda_cons (pd_op op_addU od_add (pd_callB (cr_maxU rfl hr.units) cd_max (by rfl) Z.z_max (by decide +kernel) (pda_cons (pdv 5) pda_nil)) pd_int) pda_nil)) (blkOk_by (own := [("group", 9)]) (N := N_turned) (sc := defScope s_turned) (by decide +kernel)) (by decide) (fun _ _ _ _ _ => (pdg_nm (i := 9) sc_turned.nd rfl (by first | exact Or.inl rfl | exact Or.inr rfl))) (fun _ _ _ _ _ => pdts_nil) (fun _ _ _ _ _ => (pd_ofN (pdn_lc (own := [("at", 7), ("found", 10)]) (t := (.tp 2 (.cons (.nm 7) (.cons (.nm 10) .nil)))) rfl sc_turned.nd (pdi_enumA (by rfl) Z.z_enumerate (pdv 5)) (by show BlkOk _ (relS _ (defScope s_turned)) _ _; exact blkOk_by (own := [("at", 7), ("found", 10)]) (N := N_turned) (by decide +kernel)) (by decide) (fun _ _ _ _ _ => (pdg_tp (n := 2) rfl (pdgs_cons (pdg_nm (i := 7) sc_turned.nd rfl (by first | exact Or.inl rfl | exact Or.inr rfl)) (pdgs_cons (pdg_nm (i := 10) sc_turned.nd rfl (by first | exact Or.inl rfl | exact Or.inr rfl)) pdgs_nil)))) (fun _ _ _ _ _ => (pdts_one (pdb_cmp (op_eqU hr.units) od_eq (pdv 10) (pdv 9) (nomark _)))) (fun _ _ _ _ _ => (pd_stp (pdv 0) (pdo_some (pdv 7)) pdo_none (pdo_some (pdv 4))))))))
      (pdss_one (pds_ret (pd_ofN (pdn_lc2 (own := [("columns", 11), ("parts", 12)]) (t := (.nm 11)) (t1 := (.nm 12)) (vs1 := [12]) rfl sc_turned.nd (pdi_seq (pdv 6)) (blkOk_by (own := [("columns", 11), ("parts", 12)]) (N := N_turned) (sc := defScope s_turned) (by decide +kernel)) (by decide) (by decide) (by decide) (fun _ _ _ _ _ => (pdg_nm (i := 11) sc_turned.nd rfl (by first | exact Or.inl rfl | exact Or.inr rfl))) (fun _ _ _ _ _ => pdts_nil) (fun _ _ _ _ _ => (pdi_zipS (by rfl) Z.z_zip (pdv 11))) (fun _ _ _ _ _ => (pdg_nm (i := 12) sc_turned.nd rfl (by first | exact Or.inl rfl | exact Or.inr rfl))) (fun _ _ _ _ _ => pdts_nil) (fun _ _ _ _ _ => (pd_callB (cr_sumU rfl) cd_sum (by rfl) Z.z_sum (by decide +kernel) (pda_cons (pdv 12) pda_nil)))))))))))
theorem pd_added_up (D : Df K mg "added_up" s_added_up) (Z : Zs mg) (C_turned : C8.Cal P w K mg base 3 "turned" (spF K 4 F_turned) []) : C8.Cal P w K mg base 4 "added_up" (spF K 4 F_added_up) [] :=
  mk_cal (W := fun _ _ => True) (N := N_added_up) (ps := ["scheme", "rollup", "amounts", "other"]) (n := 4) (p := 0) (q := 0) D sc_added_up rfl (fun _ _ _ _ _ _ us hl => match us, hl with | [_, _, _, _], _ => rfl) fun f0 cdv A outer s H E hr => (pdss_cons (pds_if (pdb_cmp (op_eqU hr.units) od_eq (pdv 1) (pdv 3) (nomark _)) (pdss_one (pds_ret (pdv 2))) pdss_nil)
      (pdss_cons (pds_set (i := 4) sc_added_up.nd rfl (.inl rfl) (pdv 2))
      (pdss_cons (pds_for PassesOwn.never rfl (pdi_range3 (by rfl) Z.z_range (pda_cons (pd_op op_sub od_sub (pd_callB cr_lenU cd_len (by rfl) Z.z_len PySem.boot_len (pda_cons (pdv 0) pda_nil)) pd_int) (pda_cons (pd_un un_neg ud_neg pd_int) (pda_cons (pd_un un_neg ud_neg pd_int) pda_nil)))) (pdg_nm (i := 5) sc_added_up.nd rfl (.inl rfl))
      (pdss_one (pds_set (i := 4) sc_added_up.nd rfl (.inl rfl) (pd_call0 C_turned hr (by decide) (by rfl) (pda_cons (pdv 4) (pda_cons (pd_ix (pdv 0) (pdv 5) (fun _ _ => rfl)) (pda_cons (pd_ix (pdv 1) (pdv 5) (fun _ _ => rfl)) (pda_cons (pd_ix (pdv 3) (pdv 5) (fun _ _ => rfl)) pda_nil)))) (aCons_len (aCons_len (aCons_len (aCons_len (fun _ _ _ h => aNil_len h)))))))))
      (pdss_one (pds_ret (pd_callTy call_tupleP cd_tuple (by rfl) Z.z_tuple (by decide +kernel) (pda_cons (pdv 4) pda_nil)))))))
theorem pd_sums_at (D : Df K mg "sums_at" s_sums_at) (Z : Zs mg) (C_finest : C8.Cal P w K mg base 1 "finest" (spF K 1 F_finest) []) (C_added_up : C8.Cal P w K mg base 4 "added_up" (spF K 4 F_added_up) []) : C8.Cal P w K mg base 5 "sums_at" (spF K 3 F_sums_at) [] :=
  mk_cal (W := fun _ _ => True) (N := N_sums_at) (ps := ["scheme", "table", "rollup"]) (n := 3) (p := 0) (q := 0) D sc_sums_at rfl (fun _ _ _ _ _ _ us hl => match us, hl with | [_, _, _], _ => rfl) fun f0 cdv A outer s H E hr => (pdss_one (pds_ret (pd_call0 C_added_up hr (by decide) (by rfl) (pda_cons (pdv 0) (pda_cons (pd_call0 C_finest hr (by decide) (by rfl) (pda_cons (pdv 0) pda_nil) (aCons_len (fun _ _ _ h => aNil_len h))) (pda_cons (pdv 1) (pda_cons (pdv 2) pda_nil)))) (aCons_len (aCons_len (aCons_len (aCons_len (fun _ _ _ h => aNil_len h))))))))
theorem pd_no_amounts (D : Df K mg "no_amounts" s_no_amounts) (Z : Zs mg) (C_size_of : C8.Cal P w K mg base 2 "size_of" (spF K 2 F_size_of) []) : C8.Cal P w K mg base 3 "no_amounts" (spF K 2 F_no_amounts) [] :=
  mk_cal (W := fun _ _ => True) (N := N_no_amounts) (ps := ["scheme", "rollup"]) (n := 2) (p := 0) (q := 0) D sc_no_amounts rfl (fun _ _ _ _ _ _ us hl => match us, hl with | [_, _], _ => rfl) fun f0 cdv A outer s H E hr => (pdss_one (pds_ret (pd_op op_mulU od_mul (pd_tup (pda_cons pd_int pda_nil)) (pd_call0 C_size_of hr (by decide) (by rfl) (pda_cons (pdv 0) (pda_cons (pdv 1) pda_nil)) (aCons_len (aCons_len (fun _ _ _ h => aNil_len h)))))))
theorem pd_with_more (D : Df K mg "with_more" s_with_more) (Z : Zs mg) (C_place_of : C8.Cal P w K mg base 3 "place_of" (spF K 3 F_place_of) []) : C8.Cal P w K mg base 4 "with_more" (spF K 5 F_with_more) [] :=
  mk_cal (W := fun _ _ => True) (N := N_with_more) (ps := ["scheme", "rollup", "amounts", "cell", "amount"]) (n := 5) (p := 0) (q := 0) D sc_with_more rfl (fun _ _ _ _ _ _ us hl => match us, hl with | [_, _, _, _, _], _ => rfl) fun f0 cdv A outer s H E hr => (pdss_cons (pds_set (i := 5) sc_with_more.nd rfl (.inl rfl) (pd_call0 C_place_of hr (by decide) (by rfl) (pda_cons (pdv 0) (pda_cons (pdv 1) (pda_cons (pdv 3) pda_nil))) (aCons_len (aCons_len (aCons_len (fun _ _ _ h => aNil_len h))))))
      (pdss_one (pds_ret (pd_tup (pda_star (pd_sl (pdv 2) pdo_none (pdo_some (pdv 5))) (pda_cons (pd_op op_addU od_add (pd_ix (pdv 2) (pdv 5) (fun _ _ => rfl)) (pdv 4)) (pda_star (pd_sl (pdv 2) (pdo_some (pd_op op_addU od_add (pdv 5) pd_int)) pdo_none) pda_nil)))))))
theorem pd_check_put (D : Df K mg "check_put" s_check_put) (Z : Zs mg) (X_AmountError : ExC K mg "AmountError") {t_MOST_PUT : Tok} (m_MOST_PUT : mg "MOST_PUT" = some (.int 1000000 t_MOST_PUT)) (C_is_number_from : C8.Cal P w K mg base 2 "is_number_from" (spF K 3 F_is_number_from) []) (C_finest : C8.Cal P w K mg base 1 "finest" (spF K 1 F_finest) []) (C_check_cell : CalX P w K mg base 4 "check_cell" (spX K mg 3 F_check_cell)) : CalX P w K mg base 5 "check_put" (spX K mg 3 F_check_put) :=
  mk_calX (N := N_check_put) (ps := ["scheme", "cell", "amount"]) (n := 3) (p := 0) (q := 0) D sc_check_put rfl (fun _ _ _ _ _ _ us hl => match us, hl with | [_, _, _], _ => rfl) fun f0 cdv A outer s H E hr => (pdss_cons (pds_dropX (takes_of rfl rfl rfl rfl) C_check_cell hr (by decide) (by rfl) (pda_cons (pdv 0) (pda_cons (pd_call0 C_finest hr (by decide) (by rfl) (pda_cons (pdv 0) pda_nil) (aCons_len (fun _ _ _ h => aNil_len h))) (pda_cons (pdv 1) pda_nil))) (aCons_len (aCons_len (aCons_len (fun _ _ _ h => aNil_len h)))))
      (pdss_one (pds_if (pdb_not (pdb_val (pd_call0 C_is_number_from hr (by decide) (by rfl) (pda_cons (pdv 2) (pda_cons (pd_un un_neg ud_neg (pd_globI (by rfl) m_MOST_PUT)) (pda_cons (pd_globI (by rfl) m_MOST_PUT) pda_nil))) (aCons_len (aCons_len (aCons_len (fun _ _ _ h => aNil_len h))))))) (pdss_one (pds_raise rfl (takes_of rfl rfl rfl rfl) X_AmountError (by rfl))) pdss_nil)))
theorem pd_check_table (D : Df K mg "check_table" s_check_table) (Z : Zs mg) (X_TableError : ExC K mg "TableError") (C_is_table_of : C8.Cal P w K mg base 2 "is_table_of" (spF K 2 F_is_table_of) []) : CalX P w K mg base 3 "check_table" (spX K mg 2 F_check_table) :=
  mk_calX (N := N_check_table) (ps := ["scheme", "table"]) (n := 2) (p := 0) (q := 0) D sc_check_table rfl (fun _ _ _ _ _ _ us hl => match us, hl with | [_, _], _ => rfl) fun f0 cdv A outer s H E hr => (pdss_one (pds_if (pdb_not (pdb_val (pd_call0 C_is_table_of hr (by decide) (by rfl) (pda_cons (pdv 0) (pda_cons (pdv 1) pda_nil)) (aCons_len (aCons_len (fun _ _ _ h => aNil_len h)))))) (pdss_one (pds_raise rfl (takes_of rfl rfl rfl rfl) X_TableError (by rfl))) pdss_nil))
theorem pd__law_cell (D : Df K mg "_law_cell" s__law_cell) (Z : Zs mg) : C8.Cal P w K mg base 1 "_law_cell" (spF K 2 F__law_cell) [] :=
  mk_cal (W := fun _ _ => True) (N := N__law_cell) (ps := ["_law_script", "_law_k"]) (n := 2) (p := 0) (q := 0) D sc__law_cell rfl (fun _ _ _ _ _ _ us hl => match us, hl with | [_, _], _ => rfl) fun f0 cdv A outer s H E hr => (pdss_cons (pds_if (pdb_cmp op_lt od_lt (pdv 1) (pd_scLen (i := 0) (by rfl) Z.z_len rfl (by first | exact Or.inl rfl | exact Or.inr (Or.inl rfl) | exact Or.inr (Or.inr rfl))) (nomark _)) (pdss_one (pds_ret (pd_scIx (i := 0) rfl (by first | exact Or.inl rfl | exact Or.inr (Or.inl rfl) | exact Or.inr (Or.inr rfl)) (pdv 1) (fun _ _ => rfl)))) pdss_nil)
      (pdss_one (pds_ret pd_int)))
theorem pd__law_draws (D : Df K mg "_law_draws" s__law_draws) (Z : Zs mg) : C8.Cal P w K mg base 1 "_law_draws" (spF K 2 F__law_draws) [] :=
  mk_cal (W := fun _ _ => True) (N := N__law_draws) (ps := ["_law_cell_here", "_law_bounds"]) (n := 2) (p := 0) (q := 1) D sc__law_draws rfl (fun _ _ _ _ _ _ us hl => match us, hl with | [_, _], _ => rfl) fun f0 cdv A outer s H E hr => (pdss_cons (pds_new (i := 2) (j := 0) (by decide) sc__law_draws.nd rfl (.inl rfl) (pdn_lst pda_nil))
      (pdss_cons (pds_if (pdb_cmp op_ge od_ge (pdv 0) (pd_op op_pow od_pow pd_int pd_int) (nomark _)) (pdss_cons (pds_set (i := 3) sc__law_draws.nd rfl (.inl rfl) (pd_op op_sub od_sub (pdv 0) (pd_op op_pow od_pow pd_int pd_int)))
      (pdss_cons (pds_for PassesOwn.never rfl (pdi_seq (pdv 1)) (pdg_nm (i := 4) sc__law_draws.nd rfl (.inl rfl))
      (pdss_cons (pds_expr (pd_oAppend (i := 2) rfl (by first | exact Or.inl rfl | exact Or.inr (Or.inl rfl) | exact Or.inr (Or.inr rfl)) (pd_op op_mod od_mod (pdv 3) (pdv 4))))
      (pdss_one (pds_set (i := 3) sc__law_draws.nd rfl (.inl rfl) (pd_op op_fdiv od_div (pdv 3) (pdv 4))))))
      (pdss_one (pds_ret (pdv 2))))) pdss_nil)
      (pdss_cons (pds_for PassesOwn.never rfl (pdi_range1 (by rfl) Z.z_range (pda_cons (pd_callB cr_lenU cd_len (by rfl) Z.z_len PySem.boot_len (pda_cons (pdv 1) pda_nil)) pda_nil)) (pdg_nm (i := 5) sc__law_draws.nd rfl (.inl rfl))
      (pdss_cons (pds_set (i := 6) sc__law_draws.nd rfl (.inl rfl) (pd_op op_mod od_mod (pd_op op_addU od_add (pd_op op_addU od_add (pd_op op_mulU od_mul (pdv 0) pd_int) (pd_op op_mulU od_mul (pdv 5) pd_int)) pd_int) pd_int))
      (pdss_cons (pds_set (i := 6) sc__law_draws.nd rfl (.inl rfl) (pd_op op_mod od_mod (pd_op op_addU od_add (pd_op op_mulU od_mul (pdv 6) pd_int) (pdv 5)) pd_int))
      (pdss_one (pds_expr (pd_oAppend (i := 2) rfl (by first | exact Or.inl rfl | exact Or.inr (Or.inl rfl) | exact Or.inr (Or.inr rfl)) (pd_op op_mod od_mod (pdv 6) (pd_ix (pdv 1) (pdv 5) (fun _ _ => rfl)))))))))
      (pdss_one (pds_ret (pdv 2))))))
theorem pd__law_is_same (D : Df K mg "_law_is_same" s__law_is_same) (Z : Zs mg) : ∀ nr : Nat, C8.Cal P w K mg base (1 + nr) "_law_is_same" (spF K 2 (F__law_is_same nr)) [] :=
  fun nr => nr.rec (mk_cal0 (k := 0) D sc__law_is_same rfl (fun _ _ _ _ _ _ us hl => match us, hl with | [_, _], _ => rfl)) fun nr C__law_is_same => mk_cal (W := fun _ _ => True) (N := N__law_is_same) (ps := ["_law_actual", "_law_expected"]) (n := 2) (p := 0) (q := 0) D sc__law_is_same rfl (fun _ _ _ _ _ _ us hl => match us, hl with | [_, _], _ => rfl) fun f0 cdv A outer s H E hr => (pdss_cons (pds_if (pdb_val (pd_isi (by rfl) Z.z_isinstance (by rfl) Z.z_tuple (by decide +kernel) (pdv 1))) (pdss_cons (pds_if (pdb_w (pdw_or (pdb_not (pdb_val (pd_isi (by rfl) Z.z_isinstance (by rfl) Z.z_tuple (by decide +kernel) (pdv 0)))) (pdw_or1 (pdb_cmp (op_neU hr.units) od_ne (pd_callB cr_lenU cd_len (by rfl) Z.z_len PySem.boot_len (pda_cons (pdv 0) pda_nil)) (pd_callB cr_lenU cd_len (by rfl) Z.z_len PySem.boot_len (pda_cons (pdv 1) pda_nil)) (nomark _))))) (pdss_one (pds_ret pd_bl)) pdss_nil)
      (pdss_one (pds_ret (pd_callB (cr_allD rfl) cd_all (by rfl) Z.z_all (by decide +kernel) (pda_cons (pd_ofN (pdn_lc (own := [("_law_k", 2)]) (t := (.nm 2)) rfl sc__law_is_same.nd (pdi_range1 (by rfl) Z.z_range (pda_cons (pd_callB cr_lenU cd_len (by rfl) Z.z_len PySem.boot_len (pda_cons (pdv 1) pda_nil)) pda_nil)) (blkOk_by (own := [("_law_k", 2)]) (N := N__law_is_same) (sc := defScope s__law_is_same) (by decide +kernel)) (by decide) (fun _ _ _ _ _ => (pdg_nm (i := 2) sc__law_is_same.nd rfl (by first | exact Or.inl rfl | exact Or.inr rfl))) (fun _ _ _ _ _ => pdts_nil) (fun _ _ _ _ _ => (pd_call0 C__law_is_same hr (Nat.le_refl _) (by rfl) (pda_cons (pd_ix (pdv 0) (pdv 2) (fun _ _ => rfl)) (pda_cons (pd_ix (pdv 1) (pdv 2) (fun _ _ => rfl)) pda_nil)) (aCons_len (aCons_len (fun _ _ _ h => aNil_len h))))))) pda_nil))))) pdss_nil)
      (pdss_cons (pds_if (pdb_cmp op_isU od_is (pdv 1) pd_non (nomark _)) (pdss_one (pds_ret (pd_cmp op_isU od_is (pdv 0) pd_non (nomark _)))) pdss_nil)
      (pdss_cons (pds_if (pdb_val (pd_isi (by rfl) Z.z_isinstance (by rfl) Z.z_str (by decide +kernel) (pdv 1))) (pdss_one (pds_ret (pd_and (pd_isi (by rfl) Z.z_isinstance (by rfl) Z.z_str (by decide +kernel) (pdv 0)) (pd_one (pd_cmp (op_eqU hr.units) od_eq (pdv 0) (pdv 1) (nomark _)))))) pdss_nil)
      (pdss_cons (pds_if (pdb_w (pdw_or (pdb_not (pdb_val (pd_isi (by rfl) Z.z_isinstance (by rfl) Z.z_int (by decide +kernel) (pdv 0)))) (pdw_or1 (pdb_cmp (op_neU hr.units) od_ne (pd_isi (by rfl) Z.z_isinstance (by rfl) Z.z_bool (by decide +kernel) (pdv 0)) (pd_isi (by rfl) Z.z_isinstance (by rfl) Z.z_bool (by decide +kernel) (pdv 1)) (nomark _))))) (pdss_one (pds_ret pd_bl)) pdss_nil)
      (pdss_one (pds_ret (pd_cmp (op_eqU hr.units) od_eq (pdv 0) (pdv 1) (nomark _))))))))
theorem pd__law_attribute (D : Df K mg "_law_attribute" s__law_attribute) (Z : Zs mg) : C8.Cal P w K mg base 1 "_law_attribute" (spF K 1 F__law_attribute) [] :=
  mk_cal (W := fun _ _ => True) (N := N__law_attribute) (ps := ["_law_numbers"]) (n := 1) (p := 0) (q := 1) D sc__law_attribute rfl (fun _ _ _ _ _ _ us hl => match us, hl with | [_], _ => rfl) fun f0 cdv A outer s H E hr => (pdss_cons (pds_parDN (i := 1) (j := 2) (k := 0) (by decide) rfl sc__law_attribute.nd rfl rfl (by decide) rfl rfl (pd_ix (pd_tup (pda_cons pd_int (pda_cons pd_int (pda_cons pd_int (pda_cons pd_int (pda_cons pd_int (pda_cons pd_int (pda_cons pd_int (pda_cons pd_int pda_nil))))))))) (pd_op op_mod od_mod (pd_ix (pdv 0) pd_int (fun _ _ => rfl)) pd_int) (fun _ _ => rfl)) (pdn_lst pda_nil) (by rfl))
      (pdss_cons (pds_set (i := 3) sc__law_attribute.nd rfl (.inl rfl) (pdv 1))
      (pdss_cons (pds_for PassesOwn.never rfl (pdi_range1 (by rfl) Z.z_range (pda_cons (pd_op op_mod od_mod (pd_ix (pdv 0) pd_int (fun _ _ => rfl)) pd_int) pda_nil)) (pdg_nm (i := 4) sc__law_attribute.nd rfl (.inr rfl))
      (pdss_one (pds_if (pdb_cmp op_gt od_gt (pdv 3) pd_int (nomark _)) (pdss_cons (pds_set (i := 5) sc__law_attribute.nd rfl (.inr rfl) (pd_op op_addU od_add pd_int (pd_op op_mod od_mod (pd_ix (pdv 0) (pd_op op_addU od_add pd_int (pdv 4)) (fun _ _ => rfl)) (pd_op op_sub od_sub (pdv 3) pd_int))))
      (pdss_cons (pds_set (i := 6) sc__law_attribute.nd rfl (.inl rfl) (pd_op op_mod od_mod (pd_ix (pdv 0) (pd_op op_addU od_add pd_int (pdv 4)) (fun _ _ => rfl)) (pdv 3)))
      (pdss_cons (pds_setLc (i := 7) (own := [("_law_at", 8)]) (t := (.nm 8)) rfl sc__law_attribute.nd rfl rfl (sw_true rfl rfl rfl (by decide +kernel)) (pdi_range1 (by rfl) Z.z_range (pda_cons (pdv 3) pda_nil)) (blkOk_by (own := [("_law_at", 8)]) (N := N__law_attribute) (sc := defScope s__law_attribute) (by decide +kernel)) (by decide) (fun _ _ _ _ _ => (pdg_nm (i := 8) sc__law_attribute.nd rfl (by first | exact Or.inl rfl | exact Or.inr rfl))) (fun _ _ _ _ _ => pdts_nil) (fun _ _ _ _ _ => (pd_if (pdb_cmp op_lt od_lt (pdv 8) (pdv 5) (nomark _)) (pdv 8) (pd_op op_mod od_mod (pd_op op_addU od_add (pd_op op_mulU od_mul (pdv 8) pd_int) (pd_ix (pdv 0) (pd_op op_addU od_add pd_int (pdv 4)) (fun _ _ => rfl))) (pdv 5)))))
      (pdss_cons (pds_expr (pd_oAppend (i := 2) rfl (by first | exact Or.inl rfl | exact Or.inr (Or.inl rfl) | exact Or.inr (Or.inr rfl)) (pd_callTy call_tupleP cd_tuple (by rfl) Z.z_tuple (by decide +kernel) (pda_cons (pd_op op_addU od_add (pd_sl (pdv 7) (pdo_some (pdv 6)) pdo_none) (pd_sl (pdv 7) pdo_none (pdo_some (pdv 6)))) pda_nil))))
      (pdss_one (pds_set (i := 3) sc__law_attribute.nd rfl (.inl rfl) (pdv 5))))))) pdss_nil)))
      (pdss_one (pds_ret (pd_tup (pda_cons (pdv 1) (pda_cons (pd_oTuple (i := 2) (by rfl) Z.z_tuple rfl (by first | exact Or.inl rfl | exact Or.inr (Or.inl rfl) | exact Or.inr (Or.inr rfl))) pda_nil))))))))
theorem pd__law_scheme (D : Df K mg "_law_scheme" s__law_scheme) (Z : Zs mg) (C__law_draws : C8.Cal P w K mg base 1 "_law_draws" (spF K 2 F__law_draws) []) (C__law_attribute : C8.Cal P w K mg base 1 "_law_attribute" (spF K 1 F__law_attribute) []) : C8.Cal P w K mg base 2 "_law_scheme" (spF K 1 F__law_scheme) [] :=
  mk_cal (W := fun _ _ => True) (N := N__law_scheme) (ps := ["_law_cell_here"]) (n := 1) (p := 0) (q := 1) D sc__law_scheme rfl (fun _ _ _ _ _ _ us hl => match us, hl with | [_], _ => rfl) fun f0 cdv A outer s H E hr => (pdss_cons (pds_parX3 (i := 1) (ka := 99) (j := 2) (kb := 0) (l := 3) (kc := 99) (by decide) rfl sc__law_scheme.nd rfl rfl rfl (by decide) (by decide) (by decide) rfl rfl rfl (pdx_d (pd_call0 C__law_draws hr (by decide) (by rfl) (pda_cons (pdv 0) (pda_cons (pd_op op_addU od_add (pd_ofN (pdn_lst (pda_cons pd_int pda_nil))) (pd_op op_mulU od_mul (pd_ofN (pdn_lst (pda_cons pd_int pda_nil))) pd_int)) pda_nil)) (aCons_len (aCons_len (fun _ _ _ h => aNil_len h)))) (pdx_n (pdn_lst pda_nil) (pdx_d pd_int pdx_nil))) (xD_len (xN_len (xD_len (fun _ _ _ h => xNil_len h)))) (by rfl))
      (pdss_cons (pds_for PassesOwn.never rfl (pdi_range1 (by rfl) Z.z_range (pda_cons (pd_op op_addU od_add pd_int (pd_ix (pdv 1) pd_int (fun _ _ => rfl))) pda_nil)) (pdg_nm (i := 4) sc__law_scheme.nd rfl (.inl rfl))
      (pdss_cons (pds_set (i := 5) sc__law_scheme.nd rfl (.inl rfl) (pd_call0 C__law_attribute hr (by decide) (by rfl) (pda_cons (pd_sl (pdv 1) (pdo_some (pd_op op_addU od_add pd_int (pd_op op_mulU od_mul pd_int (pdv 4)))) (pdo_some (pd_op op_addU od_add pd_int (pd_op op_mulU od_mul pd_int (pdv 4))))) pda_nil) (aCons_len (fun _ _ _ h => aNil_len h))))
      (pdss_one (pds_if (pdb_cmp op_le od_le (pd_op op_mulU od_mul (pdv 3) (pd_ix (pdv 5) pd_int (fun _ _ => rfl))) pd_int (nomark _)) (pdss_cons (pds_expr (pd_oAppend (i := 2) rfl (by first | exact Or.inl rfl | exact Or.inr (Or.inl rfl) | exact Or.inr (Or.inr rfl)) (pdv 5)))
      (pdss_one (pds_set (i := 3) sc__law_scheme.nd rfl (.inl rfl) (pd_op op_mulU od_mul (pdv 3) (pd_ix (pdv 5) pd_int (fun _ _ => rfl)))))) pdss_nil))))
      (pdss_one (pds_ret (pd_oTuple (i := 2) (by rfl) Z.z_tuple rfl (by first | exact Or.inl rfl | exact Or.inr (Or.inl rfl) | exact Or.inr (Or.inr rfl)))))))
theorem pd__law_below (D : Df K mg "_law_below" s__law_below) (Z : Zs mg) : C8.Cal P w K mg base 1 "_law_below" (spF K 1 F__law_below) [] :=
  mk_cal (W := fun _ _ => True) (N := N__law_below) (ps := ["_law_numbers"]) (n := 1) (p := 0) (q := 1) D sc__law_below rfl (fun _ _ _ _ _ _ us hl => match us, hl with | [_], _ => rfl) fun f0 cdv A outer s H E hr => (pdss_cons (pds_set (i := 1) sc__law_below.nd rfl (.inl rfl) (pd_ofN (pdn_lst (pda_cons (pd_tup pda_nil) pda_nil))))
      (pdss_cons (pds_for PassesOwn.never rfl (pdi_seq (pdv 0)) (pdg_nm (i := 2) sc__law_below.nd rfl (.inl rfl))
      (pdss_cons (pds_new (i := 3) (j := 0) (by decide) sc__law_below.nd rfl (.inl rfl) (pdn_lst pda_nil))
      (pdss_cons (pds_for PassesOwn.never rfl (pdi_seq (pdv 1)) (pdg_nm (i := 4) sc__law_below.nd rfl (.inr rfl))
      (pdss_one (pds_expr (pd_oExtend (i := 3) rfl (by first | exact Or.inl rfl | exact Or.inr (Or.inl rfl) | exact Or.inr (Or.inr rfl)) (pdn_lc (own := [("_law_one", 5)]) (t := (.nm 5)) rfl sc__law_below.nd (pdi_range1 (by rfl) Z.z_range (pda_cons (pdv 2) pda_nil)) (blkOk_by (own := [("_law_one", 5)]) (N := N__law_below) (sc := defScope s__law_below) (by decide +kernel)) (by decide) (fun _ _ _ _ _ => (pdg_nm (i := 5) sc__law_below.nd rfl (by first | exact Or.inl rfl | exact Or.inr rfl))) (fun _ _ _ _ _ => pdts_nil) (fun _ _ _ _ _ => (pd_op op_addU od_add (pdv 4) (pd_tup (pda_cons (pdv 5) pda_nil)))))))))
      (pdss_one (pds_set (i := 1) sc__law_below.nd rfl (.inl rfl) (pdv 3))))))
      (pdss_one (pds_ret (pdv 1)))))
theorem pd__law_fine_cells (D : Df K mg "_law_fine_cells" s__law_fine_cells) (Z : Zs mg) (C__law_below : C8.Cal P w K mg base 1 "_law_below" (spF K 1 F__law_below) []) : C8.Cal P w K mg base 2 "_law_fine_cells" (spF K 1 F__law_fine_cells) [] :=
  mk_cal (W := fun _ _ => True) (N := N__law_fine_cells) (ps := ["_law_scheme_here"]) (n := 1) (p := 0) (q := 0) D sc__law_fine_cells rfl (fun _ _ _ _ _ _ us hl => match us, hl with | [_], _ => rfl) fun f0 cdv A outer s H E hr => (pdss_one (pds_ret (pd_call0 C__law_below hr (by decide) (by rfl) (pda_cons (pd_ofN (pdn_lc (own := [("_law_attribute_here", 1)]) (t := (.nm 1)) rfl sc__law_fine_cells.nd (pdi_seq (pdv 0)) (blkOk_by (own := [("_law_attribute_here", 1)]) (N := N__law_fine_cells) (sc := defScope s__law_fine_cells) (by decide +kernel)) (by decide) (fun _ _ _ _ _ => (pdg_nm (i := 1) sc__law_fine_cells.nd rfl (by first | exact Or.inl rfl | exact Or.inr rfl))) (fun _ _ _ _ _ => pdts_nil) (fun _ _ _ _ _ => (pd_ix (pdv 1) pd_int (fun _ _ => rfl))))) pda_nil) (aCons_len (fun _ _ _ h => aNil_len h)))))
theorem pd__law_table (D : Df K mg "_law_table" s__law_table) (Z : Zs mg) (C__law_draws : C8.Cal P w K mg base 1 "_law_draws" (spF K 2 F__law_draws) []) (C__law_fine_cells : C8.Cal P w K mg base 2 "_law_fine_cells" (spF K 1 F__law_fine_cells) []) : C8.Cal P w K mg base 3 "_law_table" (spF K 3 F__law_table) [] :=
  mk_cal (W := fun _ _ => True) (N := N__law_table) (ps := ["_law_cell_here", "_law_scheme_here", "_law_most"]) (n := 3) (p := 0) (q := 0) D sc__law_table rfl (fun _ _ _ _ _ _ us hl => match us, hl with | [_, _, _], _ => rfl) fun f0 cdv A outer s H E hr => (pdss_cons (pds_set (i := 3) sc__law_table.nd rfl (.inl rfl) (pd_callB cr_lenU cd_len (by rfl) Z.z_len PySem.boot_len (pda_cons (pd_call0 C__law_fine_cells hr (by decide) (by rfl) (pda_cons (pdv 1) pda_nil) (aCons_len (fun _ _ _ h => aNil_len h))) pda_nil)))
      (pdss_one (pds_ret (pd_callTy call_tupleP cd_tuple (by rfl) Z.z_tuple (by decide +kernel) (pda_cons (pd_ofN (pdn_lc (own := [("_law_number", 4)]) (t := (.nm 4)) rfl sc__law_table.nd (pdi_seq (pd_call0 C__law_draws hr (by decide) (by rfl) (pda_cons (pdv 0) (pda_cons (pd_op op_mulU od_mul (pd_ofN (pdn_lst (pda_cons (pd_op op_addU od_add (pd_op op_mulU od_mul pd_int (pdv 2)) pd_int) pda_nil))) (pdv 3)) pda_nil)) (aCons_len (aCons_len (fun _ _ _ h => aNil_len h))))) (blkOk_by (own := [("_law_number", 4)]) (N := N__law_table) (sc := defScope s__law_table) (by decide +kernel)) (by decide) (fun _ _ _ _ _ => (pdg_nm (i := 4) sc__law_table.nd rfl (by first | exact Or.inl rfl | exact Or.inr rfl))) (fun _ _ _ _ _ => pdts_nil) (fun _ _ _ _ _ => (pd_op op_sub od_sub (pdv 4) (pdv 2))))) pda_nil)))))
theorem pd__law_no_schemes (D : Df K mg "_law_no_schemes" s__law_no_schemes) (Z : Zs mg) : C8.Cal P w K mg base 1 "_law_no_schemes" (spF K 1 F__law_no_schemes) [] :=
  mk_cal (W := fun _ _ => True) (N := N__law_no_schemes) (ps := ["_law_scheme_here"]) (n := 1) (p := 0) (q := 0) D sc__law_no_schemes rfl (fun _ _ _ _ _ _ us hl => match us, hl with | [_], _ => rfl) fun f0 cdv A outer s H E hr => (pdss_cons (pds_asg (pd_ix (pdv 0) pd_int (fun _ _ => rfl)) (pdg_tp (n := 2) rfl (pdgs_cons (pdg_nm (i := 1) sc__law_no_schemes.nd rfl (.inl rfl)) (pdgs_cons (pdg_nm (i := 2) sc__law_no_schemes.nd rfl (.inl rfl)) pdgs_nil))))
      (pdss_cons (pds_set (i := 3) sc__law_no_schemes.nd rfl (.inl rfl) (pd_ofN (pdn_lst (pda_cons pd_non (pda_cons pd_int (pda_cons pd_bl (pda_cons pd_str (pda_cons (pd_tup pda_nil) (pda_cons (pd_ofN (pdn_lst pda_nil)) (pda_cons pd_dict0 (pda_cons (pd_ofN (pdn_list (by rfl) Z.z_list (pdv 0))) (pda_cons (pd_ix (pdv 0) pd_int (fun _ _ => rfl)) (pda_cons (pd_ofN (pdn_lst (pda_cons (pdv 0) pda_nil))) pda_nil)))))))))))))
      (pdss_cons (pds_set (i := 3) sc__law_no_schemes.nd rfl (.inl rfl) (pd_op op_addU od_add (pdv 3) (pd_ofN (pdn_lst (pda_cons (pd_tup (pda_cons (pdv 0) pda_nil)) (pda_cons (pd_op op_repP od_mulT (pdv 0) pd_int) (pda_cons (pd_tup (pda_cons pd_non pda_nil)) (pda_cons (pd_tup (pda_cons (pd_tup pda_nil) pda_nil)) pda_nil))))))))
      (pdss_cons (pds_set (i := 3) sc__law_no_schemes.nd rfl (.inl rfl) (pd_op op_addU od_add (pdv 3) (pd_ofN (pdn_lst (pda_cons (pd_tup (pda_cons (pd_tup (pda_cons pd_int (pda_cons (pd_tup pda_nil) pda_nil))) pda_nil)) (pda_cons (pd_tup (pda_cons (pd_tup (pda_cons pd_int (pda_cons (pd_tup pda_nil) pda_nil))) pda_nil)) (pda_cons (pd_tup (pda_cons (pd_tup (pda_cons pd_bl (pda_cons (pd_tup pda_nil) pda_nil))) pda_nil)) (pda_cons (pd_tup (pda_cons (pd_tup (pda_cons pd_int pda_nil)) pda_nil)) (pda_cons (pd_tup (pda_cons (pd_tup (pda_cons pd_int (pda_cons (pd_tup pda_nil) (pda_cons (pd_tup pda_nil) pda_nil)))) pda_nil)) pda_nil)))))))))
      (pdss_cons (pds_set (i := 3) sc__law_no_schemes.nd rfl (.inl rfl) (pd_op op_addU od_add (pdv 3) (pd_ofN (pdn_lst (pda_cons (pd_tup (pda_cons (pd_tup (pda_cons pd_int (pda_cons (pd_ofN (pdn_lst pda_nil)) pda_nil))) pda_nil)) (pda_cons (pd_tup (pda_cons (pd_ofN (pdn_lst (pda_cons pd_int (pda_cons (pd_tup pda_nil) pda_nil)))) pda_nil)) (pda_cons (pd_tup (pda_cons (pd_tup (pda_cons pd_str (pda_cons (pd_tup pda_nil) pda_nil))) pda_nil)) pda_nil)))))))
      (pdss_cons (pds_set (i := 3) sc__law_no_schemes.nd rfl (.inl rfl) (pd_op op_addU od_add (pdv 3) (pd_ofN (pdn_lst (pda_cons (pd_tup (pda_cons (pd_tup (pda_cons pd_int (pda_cons (pd_tup (pda_cons (pd_tup (pda_cons pd_int (pda_cons pd_int pda_nil))) pda_nil)) pda_nil))) pda_nil)) (pda_cons (pd_tup (pda_cons (pd_tup (pda_cons pd_int (pda_cons (pd_tup (pda_cons (pd_tup (pda_cons pd_int (pda_cons pd_int (pda_cons pd_int pda_nil)))) pda_nil)) pda_nil))) pda_nil)) (pda_cons (pd_tup (pda_cons (pd_tup (pda_cons pd_int (pda_cons (pd_tup (pda_cons (pd_tup (pda_cons pd_int (pda_cons pd_int pda_nil))) pda_nil)) pda_nil))) pda_nil)) pda_nil)))))))
      (pdss_cons (pds_set (i := 3) sc__law_no_schemes.nd rfl (.inl rfl) (pd_op op_addU od_add (pdv 3) (pd_ofN (pdn_lst (pda_cons (pd_tup (pda_cons (pd_tup (pda_cons pd_int (pda_cons (pd_tup (pda_cons (pd_tup (pda_cons pd_int pda_nil)) pda_nil)) pda_nil))) pda_nil)) (pda_cons (pd_tup (pda_cons (pd_tup (pda_cons pd_int (pda_cons (pd_tup (pda_cons (pd_tup (pda_cons pd_int (pda_cons pd_int (pda_cons pd_int pda_nil)))) pda_nil)) pda_nil))) pda_nil)) pda_nil))))))
      (pdss_cons (pds_set (i := 3) sc__law_no_schemes.nd rfl (.inl rfl) (pd_op op_addU od_add (pdv 3) (pd_ofN (pdn_lst (pda_cons (pd_tup (pda_cons (pd_tup (pda_cons pd_int (pda_cons (pd_tup (pda_cons (pd_tup (pda_cons pd_int (pda_cons pd_int (pda_cons pd_int pda_nil)))) (pda_cons (pd_tup (pda_cons pd_int (pda_cons pd_int pda_nil))) pda_nil))) pda_nil))) pda_nil)) (pda_cons (pd_tup (pda_cons (pd_tup (pda_cons pd_int (pda_cons (pd_tup (pda_cons (pd_tup (pda_cons pd_int (pda_cons pd_int (pda_cons pd_bl pda_nil)))) pda_nil)) pda_nil))) pda_nil)) pda_nil))))))
      (pdss_cons (pds_set (i := 3) sc__law_no_schemes.nd rfl (.inl rfl) (pd_op op_addU od_add (pdv 3) (pd_ofN (pdn_lst (pda_cons (pd_tup (pda_cons (pd_tup (pda_cons pd_int (pda_cons (pd_tup (pda_cons (pd_ofN (pdn_lst (pda_cons pd_int (pda_cons pd_int (pda_cons pd_int pda_nil))))) pda_nil)) pda_nil))) pda_nil)) (pda_cons (pd_tup (pda_cons (pd_tup (pda_cons pd_int (pda_cons (pd_tup (pda_cons (pd_tup (pda_cons pd_int (pda_cons (pd_un un_neg ud_neg pd_int) (pda_cons pd_int pda_nil)))) pda_nil)) pda_nil))) pda_nil)) pda_nil))))))
      (pdss_cons (pds_set (i := 3) sc__law_no_schemes.nd rfl (.inl rfl) (pd_op op_addU od_add (pdv 3) (pd_ofN (pdn_lst (pda_cons (pd_tup (pda_cons (pd_tup (pda_cons pd_int (pda_cons (pd_tup (pda_cons (pd_tup (pda_cons pd_int (pda_cons pd_int (pda_cons pd_int (pda_cons pd_int (pda_cons pd_int (pda_cons pd_int pda_nil))))))) (pda_cons (pd_tup (pda_cons pd_int (pda_cons pd_int (pda_cons pd_int (pda_cons pd_int (pda_cons pd_int pda_nil)))))) (pda_cons (pd_tup (pda_cons pd_int (pda_cons pd_int (pda_cons pd_int (pda_cons pd_int pda_nil))))) (pda_cons (pd_tup (pda_cons pd_int (pda_cons pd_int (pda_cons pd_int pda_nil)))) pda_nil))))) pda_nil))) pda_nil)) pda_nil)))))
      (pdss_cons (pds_set (i := 3) sc__law_no_schemes.nd rfl (.inl rfl) (pd_op op_addU od_add (pdv 3) (pd_ofN (pdn_lst (pda_cons (pd_tup (pda_cons (pd_tup (pda_cons pd_int (pda_cons (pd_tup (pda_cons (pd_tup (pda_cons pd_int pda_nil)) pda_nil)) pda_nil))) pda_nil)) (pda_cons (pd_tup (pda_cons (pd_tup (pda_cons pd_int (pda_cons (pd_tup (pda_cons (pd_tup (pda_cons pd_int (pda_cons pd_int pda_nil))) (pda_cons (pd_tup pda_nil) pda_nil))) pda_nil))) pda_nil)) pda_nil))))))
      (pdss_cons (pds_set (i := 3) sc__law_no_schemes.nd rfl (.inl rfl) (pd_op op_addU od_add (pdv 3) (pd_ofN (pdn_lst (pda_cons (pd_tup (pda_cons (pd_tup (pda_cons pd_int (pda_cons (pd_tup pda_nil) pda_nil))) (pda_cons (pd_tup (pda_cons pd_int (pda_cons (pd_tup pda_nil) pda_nil))) (pda_cons (pd_tup (pda_cons pd_int (pda_cons (pd_tup pda_nil) pda_nil))) pda_nil)))) (pda_cons (pd_op op_mulU od_mul (pd_tup (pda_cons (pd_tup (pda_cons pd_int (pda_cons (pd_tup pda_nil) pda_nil))) pda_nil)) pd_int) (pda_cons (pd_tup (pda_cons (pd_ix (pdv 0) pd_int (fun _ _ => rfl)) (pda_cons pd_non pda_nil))) pda_nil)))))))
      (pdss_one (pds_ret (pd_op op_addU od_add (pdv 3) (pd_ofN (pdn_lst (pda_cons (pd_op op_addU od_add (pd_sl (pdv 0) pdo_none (pdo_some pd_int)) (pd_tup (pda_cons (pd_tup (pda_cons (pdv 1) (pda_cons (pd_ofN (pdn_list (by rfl) Z.z_list (pdv 2))) pda_nil))) pda_nil))) pda_nil))))))))))))))))))
theorem pd_Cube_total {C f0 : Addr} {fd : FuncData} (hK : InsK K "Cube" C) {p0 : Addr} (M : L2.PropOf K C "total" p0 f0) (F : Fun K "total" "Cube.total" s_Cube_total f0 fd) (Z : Zs mg) : CalP P w K mg base 1 "Cube" "total" F_Cube_total :=
  mk_calP (W := fun _ _ => True) (N := N_Cube_total) (ps := ["self"]) (n := 1) (p := 0) (q := 0) hK M F sc_Cube_total rfl rfl (fun _ _ _ _ _ _ us hl => match us, hl with | [_], _ => rfl) fun cdv A outer s H E hr => (pdss_one (pds_ret (pd_callB (cr_sumU rfl) cd_sum (by rfl) Z.z_sum (by decide +kernel) (pda_cons (pd_stI (i := 0) rfl (by first | exact Or.inl rfl | exact Or.inr (Or.inl rfl) | exact Or.inr (Or.inr rfl)) (pd_un un_neg ud_neg pd_int) (fun _ _ => rfl)) pda_nil))))
theorem pd_Cube_len {C f0 : Addr} {fd : FuncData} (hK : InsK K "Cube" C) (M : L2.Meth K C "__len__" f0) (F : Fun K "__len__" "Cube.__len__" s_Cube_len f0 fd) (Z : Zs mg) : CalM P w K mg base 1 "Cube" "__len__" 1 F_Cube_len :=
  mk_calM (W := fun _ _ => True) (N := N_Cube_len) (ps := ["self"]) (n := 1) (p := 0) (q := 0) hK M F sc_Cube_len rfl (fun _ _ _ _ _ _ us hl => match us, hl with | [_], _ => rfl) fun cdv A outer s H E hr => (pdss_one (pds_ret (pd_callB cr_lenU cd_len (by rfl) Z.z_len PySem.boot_len (pda_cons (pd_ofN (pdn_lc (own := [("amount", 1)]) (t := (.nm 1)) rfl sc_Cube_len.nd (pdi_seq (pd_stI (i := 0) rfl (by first | exact Or.inl rfl | exact Or.inr (Or.inl rfl) | exact Or.inr (Or.inr rfl)) (pd_un un_neg ud_neg pd_int) (fun _ _ => rfl))) (blkOk_by (own := [("amount", 1)]) (N := N_Cube_len) (sc := defScope s_Cube_len) (by decide +kernel)) (by decide) (fun _ _ _ _ _ => (pdg_nm (i := 1) sc_Cube_len.nd rfl (by first | exact Or.inl rfl | exact Or.inr rfl))) (fun _ _ _ _ _ => (pdts_one (pdb_cmp (op_neU hr.units) od_ne (pdv 1) pd_int (nomark _)))) (fun _ _ _ _ _ => (pdv 1)))) pda_nil))))
theorem pd_Cube_repr {C f0 : Addr} {fd : FuncData} (hK : InsK K "Cube" C) (M : L2.Meth K C "__repr__" f0) (F : Fun K "__repr__" "Cube.__repr__" s_Cube_repr f0 fd) (Z : Zs mg) (C_written : C8.Cal P w K mg base 1 "written" (spF K 1 F_written) []) (C_Cube_total : CalP P w K mg base 1 "Cube" "total" F_Cube_total) (C_Cube_len : CalM P w K mg base 1 "Cube" "__len__" 1 F_Cube_len) : CalM P w K mg base 4 "Cube" "__repr__" 1 F_Cube_repr :=
  mk_calM (W := fun _ _ => True) (N := N_Cube_repr) (ps := ["self"]) (n := 1) (p := 0) (q := 0) hK M F sc_Cube_repr rfl (fun _ _ _ _ _ _ us hl => match us, hl with | [_], _ => rfl) fun cdv A outer s H E hr => (pdss_one (pds_ret (pd_joined (.cons pd_str (.cons (pd_fmtU (pd_lenI (i := 0) C_Cube_len hr (by decide) (by rfl) Z.z_len rfl (by first | exact Or.inl rfl | exact Or.inr (Or.inl rfl) | exact Or.inr (Or.inr rfl)))) (.cons pd_str (.cons (pd_fmtU (pd_call0 C_written hr (by decide) (by rfl) (pda_cons (pd_prop (i := 0) C_Cube_total hr (by decide) rfl (by first | exact Or.inl rfl | exact Or.inr (Or.inl rfl) | exact Or.inr (Or.inr rfl))) pda_nil) (aCons_len (fun _ _ _ h => aNil_len h)))) (.cons pd_str .nil))))))))
theorem pd__law_said (D : Df K mg "_law_said" s__law_said) (Z : Zs mg) {CU CL CE : Addr} (mU : mg "Unknown" = some (.ref CU)) (mL : mg "LimitError" = some (.ref CL)) (mE : mg "LevelsError" = some (.ref CE))
    (sv : ∀ p ∈ saidL__law_said, ∃ D, ServE K mg p.1 D (saidB__law_said p.1) ∧ PySem.W.exmOne K (.ref D) (.ref CU) = some false ∧ PySem.W.exmOne K (.ref D) (.ref CL) = some false ∧ PySem.W.exmOne K (.ref D) (.ref CE) = some true)
    (hv : ∀ n y (a : Addr), saidT__law_said n = some y → fs__law_said n a ((List.replicate 4 none).set 1 (some (.x (.e a)))) [] = some (.rt (.str y), [])) : CalS P w K mg base "_law_said" saidT__law_said (Str.ofString "") :=
  cal_said D sc__law_said (fun _ _ _ _ _ _ us hl => match us, hl with | [_], _ => rfl) rfl (.inl rfl) fun X q g cdv e1 e2 e3 e4 e5 hr => by
    subst e1; subst e2; subst e3; subst e4; subst e5
    have sv := sv_of sv
    refine said_gives (i := 1) (CU := CU) (CL := CL) (CE := CE) (fs := fs__law_said) (fun _ => rfl) (by decide) rfl rfl rfl mU (by decide) rfl mL (by decide) rfl mE (by decide) (fun _ _ => rfl) (fun n y D ht hm => (sv n y D ht hm).2) (fun s H n y D a oe pn ht hm hz hf => ?_) hv
    have hr : Room 1 (sCx X N__law_said "_law_said" (defScope s__law_said) g cdv s H).A := hr.deeper _
    have hr : RoomS ((sCx X N__law_said "_law_said" (defScope s__law_said) g cdv s H).suite a ((a, oe) :: pn)).A := roomS_mark hr
    exact (pdss_cons (pds_set (i := 2) sc__law_said.nd rfl (.inl rfl) (pd_ofN (pdn_lst (pda_cons (pd_isE' (i := 1) (sv n y D ht hm).1 hz hf rfl (by first | exact Or.inl rfl | exact Or.inr (Or.inl rfl) | exact Or.inr (Or.inr rfl)) (by rfl) Z.z_isinstance (by rfl) (.head _)) (pda_cons (pd_isE' (i := 1) (sv n y D ht hm).1 hz hf rfl (by first | exact Or.inl rfl | exact Or.inr (Or.inl rfl) | exact Or.inr (Or.inr rfl)) (by rfl) Z.z_isinstance (by rfl) (.tail _ (.head _))) pda_nil)))))
      (pdss_cons (pds_set (i := 2) sc__law_said.nd rfl (.inl rfl) (pd_op op_addU od_add (pdv 2) (pd_ofN (pdn_lst (pda_cons (pd_isE' (i := 1) (sv n y D ht hm).1 hz hf rfl (by first | exact Or.inl rfl | exact Or.inr (Or.inl rfl) | exact Or.inr (Or.inr rfl)) (by rfl) Z.z_isinstance (by rfl) (.tail _ (.tail _ (.head _)))) (pda_cons (pd_isE' (i := 1) (sv n y D ht hm).1 hz hf rfl (by first | exact Or.inl rfl | exact Or.inr (Or.inl rfl) | exact Or.inr (Or.inr rfl)) (by rfl) Z.z_isinstance (by rfl) (.tail _ (.tail _ (.tail _ (.head _))))) pda_nil))))))
      (pdss_cons (pds_set (i := 2) sc__law_said.nd rfl (.inl rfl) (pd_op op_addU od_add (pdv 2) (pd_ofN (pdn_lst (pda_cons (pd_isE' (i := 1) (sv n y D ht hm).1 hz hf rfl (by first | exact Or.inl rfl | exact Or.inr (Or.inl rfl) | exact Or.inr (Or.inr rfl)) (by rfl) Z.z_isinstance (by rfl) (.tail _ (.tail _ (.tail _ (.tail _ (.head _)))))) (pda_cons (pd_isE' (i := 1) (sv n y D ht hm).1 hz hf rfl (by first | exact Or.inl rfl | exact Or.inr (Or.inl rfl) | exact Or.inr (Or.inr rfl)) (by rfl) Z.z_isinstance (by rfl) (.tail _ (.tail _ (.tail _ (.tail _ (.tail _ (.head _))))))) pda_nil))))))
      (pdss_cons (pds_set (i := 2) sc__law_said.nd rfl (.inl rfl) (pd_op op_addU od_add (pdv 2) (pd_ofN (pdn_lst (pda_cons (pd_isE' (i := 1) (sv n y D ht hm).1 hz hf rfl (by first | exact Or.inl rfl | exact Or.inr (Or.inl rfl) | exact Or.inr (Or.inr rfl)) (by rfl) Z.z_isinstance (by rfl) (.tail _ (.tail _ (.tail _ (.tail _ (.tail _ (.tail _ (.head _)))))))) pda_nil)))))
      (pdss_cons (pds_set (i := 2) sc__law_said.nd rfl (.inl rfl) (pd_op op_addU od_add (pdv 2) (pd_ofN (pdn_lst (pda_cons (pd_isE' (i := 1) (sv n y D ht hm).1 hz hf rfl (by first | exact Or.inl rfl | exact Or.inr (Or.inl rfl) | exact Or.inr (Or.inr rfl)) (by rfl) Z.z_isinstance (by rfl) (.tail _ (.tail _ (.tail _ (.tail _ (.tail _ (.tail _ (.tail _ (.head _))))))))) (pda_cons (pd_isE' (i := 1) (sv n y D ht hm).1 hz hf rfl (by first | exact Or.inl rfl | exact Or.inr (Or.inl rfl) | exact Or.inr (Or.inr rfl)) (by rfl) Z.z_isinstance (by rfl) (.tail _ (.tail _ (.tail _ (.tail _ (.tail _ (.tail _ (.tail _ (.tail _ (.head _)))))))))) pda_nil))))))
      (pdss_cons (pds_set (i := 2) sc__law_said.nd rfl (.inl rfl) (pd_op op_addU od_add (pdv 2) (pd_ofN (pdn_lst (pda_cons (pd_isE' (i := 1) (sv n y D ht hm).1 hz hf rfl (by first | exact Or.inl rfl | exact Or.inr (Or.inl rfl) | exact Or.inr (Or.inr rfl)) (by rfl) Z.z_isinstance (by rfl) (.tail _ (.tail _ (.tail _ (.tail _ (.tail _ (.tail _ (.tail _ (.tail _ (.tail _ (.head _))))))))))) pda_nil)))))
      (pdss_cons (pds_set (i := 2) sc__law_said.nd rfl (.inl rfl) (pd_op op_addU od_add (pdv 2) (pd_ofN (pdn_lst (pda_cons (pd_isE' (i := 1) (sv n y D ht hm).1 hz hf rfl (by first | exact Or.inl rfl | exact Or.inr (Or.inl rfl) | exact Or.inr (Or.inr rfl)) (by rfl) Z.z_isinstance (by rfl) (.tail _ (.tail _ (.tail _ (.tail _ (.tail _ (.tail _ (.tail _ (.tail _ (.tail _ (.tail _ (.head _)))))))))))) (pda_cons (pd_isE' (i := 1) (sv n y D ht hm).1 hz hf rfl (by first | exact Or.inl rfl | exact Or.inr (Or.inl rfl) | exact Or.inr (Or.inr rfl)) (by rfl) Z.z_isinstance (by rfl) (.tail _ (.tail _ (.tail _ (.tail _ (.tail _ (.tail _ (.tail _ (.tail _ (.tail _ (.tail _ (.tail _ (.head _))))))))))))) pda_nil))))))
      (pdss_cons (pds_set (i := 2) sc__law_said.nd rfl (.inl rfl) (pd_op op_addU od_add (pdv 2) (pd_ofN (pdn_lst (pda_cons (pd_isE' (i := 1) (sv n y D ht hm).1 hz hf rfl (by first | exact Or.inl rfl | exact Or.inr (Or.inl rfl) | exact Or.inr (Or.inr rfl)) (by rfl) Z.z_isinstance (by rfl) (.tail _ (.tail _ (.tail _ (.tail _ (.tail _ (.tail _ (.tail _ (.tail _ (.tail _ (.tail _ (.tail _ (.tail _ (.head _)))))))))))))) pda_nil)))))
      (pdss_cons (pds_set (i := 2) sc__law_said.nd rfl (.inl rfl) (pd_op op_addU od_add (pdv 2) (pd_ofN (pdn_lst (pda_cons (pd_isE' (i := 1) (sv n y D ht hm).1 hz hf rfl (by first | exact Or.inl rfl | exact Or.inr (Or.inl rfl) | exact Or.inr (Or.inr rfl)) (by rfl) Z.z_isinstance (by rfl) (.tail _ (.tail _ (.tail _ (.tail _ (.tail _ (.tail _ (.tail _ (.tail _ (.tail _ (.tail _ (.tail _ (.tail _ (.tail _ (.head _))))))))))))))) (pda_cons (pd_isE' (i := 1) (sv n y D ht hm).1 hz hf rfl (by first | exact Or.inl rfl | exact Or.inr (Or.inl rfl) | exact Or.inr (Or.inr rfl)) (by rfl) Z.z_isinstance (by rfl) (.tail _ (.tail _ (.tail _ (.tail _ (.tail _ (.tail _ (.tail _ (.tail _ (.tail _ (.tail _ (.tail _ (.tail _ (.tail _ (.tail _ (.head _)))))))))))))))) pda_nil))))))
      (pdss_cons (pds_set (i := 3) sc__law_said.nd rfl (.inl rfl) (pd_ofN (pdn_lst (pda_cons pd_str (pda_cons pd_str (pda_cons pd_str (pda_cons pd_str (pda_cons pd_str (pda_cons pd_str pda_nil)))))))))
      (pdss_cons (pds_set (i := 3) sc__law_said.nd rfl (.inl rfl) (pd_op op_addU od_add (pdv 3) (pd_ofN (pdn_lst (pda_cons pd_str (pda_cons pd_str (pda_cons pd_str (pda_cons pd_str (pda_cons pd_str pda_nil)))))))))
      (pdss_cons (pds_set (i := 3) sc__law_said.nd rfl (.inl rfl) (pd_op op_addU od_add (pdv 3) (pd_ofN (pdn_lst (pda_cons pd_str (pda_cons pd_str (pda_cons pd_str (pda_cons pd_str pda_nil))))))))
      (pdss_one (pds_ret (pd_if (pdb_cmp (op_eqU hr.units) od_eq (pd_countU (un65S hr) (pdv 2) pd_bl) pd_int (nomark _)) (pd_ix (pdv 3) (pd_index (un65S hr) (pdv 2) pd_bl) (fun _ _ => rfl)) pd_str)))))))))))))))
theorem pd_Cube_scheme {C f0 : Addr} {fd : FuncData} (hK : InsK K "Cube" C) {p0 : Addr} (M : L2.PropOf K C "scheme" p0 f0) (F : Fun K "scheme" "Cube.scheme" s_Cube_scheme f0 fd) (Z : Zs mg) : CalP P w K mg base 1 "Cube" "scheme" F_Cube_scheme :=
  mk_calP (W := fun _ _ => True) (N := N_Cube_scheme) (ps := ["self"]) (n := 1) (p := 0) (q := 0) hK M F sc_Cube_scheme rfl rfl (fun _ _ _ _ _ _ us hl => match us, hl with | [_], _ => rfl) fun cdv A outer s H E hr => (pdss_one (pds_ret (pd_fldI (i := 0) rfl (by first | exact Or.inl rfl | exact Or.inr (Or.inl rfl) | exact Or.inr (Or.inr rfl)))))
theorem pd_Cube_table {C f0 : Addr} {fd : FuncData} (hK : InsK K "Cube" C) {p0 : Addr} (M : L2.PropOf K C "table" p0 f0) (F : Fun K "table" "Cube.table" s_Cube_table f0 fd) (Z : Zs mg) : CalP P w K mg base 1 "Cube" "table" F_Cube_table :=
  mk_calP (W := fun _ _ => True) (N := N_Cube_table) (ps := ["self"]) (n := 1) (p := 0) (q := 0) hK M F sc_Cube_table rfl rfl (fun _ _ _ _ _ _ us hl => match us, hl with | [_], _ => rfl) fun cdv A outer s H E hr => (pdss_one (pds_ret (pd_stI (i := 0) rfl (by first | exact Or.inl rfl | exact Or.inr (Or.inl rfl) | exact Or.inr (Or.inr rfl)) (pd_un un_neg ud_neg pd_int) (fun _ _ => rfl))))
theorem pd_Cube_changes {C f0 : Addr} {fd : FuncData} (hK : InsK K "Cube" C) {p0 : Addr} (M : L2.PropOf K C "changes" p0 f0) (F : Fun K "changes" "Cube.changes" s_Cube_changes f0 fd) (Z : Zs mg) : CalP P w K mg base 1 "Cube" "changes" F_Cube_changes :=
  mk_calP (W := fun _ _ => True) (N := N_Cube_changes) (ps := ["self"]) (n := 1) (p := 0) (q := 0) hK M F sc_Cube_changes rfl rfl (fun _ _ _ _ _ _ us hl => match us, hl with | [_], _ => rfl) fun cdv A outer s H E hr => (pdss_one (pds_ret (pd_op op_sub od_sub (pd_lenSt (i := 0) (by rfl) Z.z_len rfl (by first | exact Or.inl rfl | exact Or.inr (Or.inl rfl) | exact Or.inr (Or.inr rfl))) pd_int)))
theorem pd__law_told (D : Df K mg "_law_told" s__law_told) (Z : Zs mg) (C_Cube_total : CalP P w K mg base 1 "Cube" "total" F_Cube_total) (C_Cube_len : CalM P w K mg base 1 "Cube" "__len__" 1 F_Cube_len) (C_Cube_repr : CalM P w K mg base 4 "Cube" "__repr__" 1 F_Cube_repr) (C_Cube_scheme : CalP P w K mg base 1 "Cube" "scheme" F_Cube_scheme) (C_Cube_table : CalP P w K mg base 1 "Cube" "table" F_Cube_table) (C_Cube_changes : CalP P w K mg base 1 "Cube" "changes" F_Cube_changes) : CalG P w K mg base 21 "_law_told" (spF K 1 F__law_told) :=
  mk_calG (W := fun _ _ => True) (N := N__law_told) (ps := ["_law_cube"]) (n := 1) (p := 0) (q := 0) D sc__law_told rfl (fun _ _ _ _ _ _ us hl => match us, hl with | [_], _ => rfl) fun f0 cdv A outer s H E gd hr => (pdss_one (pds_ret (pd_tup (pda_cons (pd_propE C_Cube_scheme hr (by decide) (pdv 0)) (pda_cons (pd_propE C_Cube_table hr (by decide) (pdv 0)) (pda_cons (pd_propE C_Cube_total hr (by decide) (pdv 0)) (pda_cons (pd_propE C_Cube_changes hr (by decide) (pdv 0)) (pda_cons (pd_lenE C_Cube_len hr (by decide) (by rfl) Z.z_len (pdv 0)) (pda_cons (pd_reprO (k := 4) (repOk_cons C_Cube_repr (by decide) repOk_nil) (guards_deeper gd) hr (by decide) (by rfl) Z.z_repr (pdv 0)) pda_nil)))))))))
theorem pd__law_due (D : Df K mg "_law_due" s__law_due) (Z : Zs mg) : C8.Cal P w K mg base 1 "_law_due" (spF K 3 F__law_due) [] :=
  mk_cal (W := fun _ _ => True) (N := N__law_due) (ps := ["_law_scheme_here", "_law_table_here", "_law_changes"]) (n := 3) (p := 0) (q := 0) D sc__law_due rfl (fun _ _ _ _ _ _ us hl => match us, hl with | [_, _, _], _ => rfl) fun f0 cdv A outer s H E hr => (pdss_cons (pds_set (i := 3) sc__law_due.nd rfl (.inl rfl) (pd_callB cr_lenU cd_len (by rfl) Z.z_len PySem.boot_len (pda_cons (pd_ofN (pdn_lc (own := [("_law_amount", 5)]) (t := (.nm 5)) rfl sc__law_due.nd (pdi_seq (pdv 1)) (blkOk_by (own := [("_law_amount", 5)]) (N := N__law_due) (sc := defScope s__law_due) (by decide +kernel)) (by decide) (fun _ _ _ _ _ => (pdg_nm (i := 5) sc__law_due.nd rfl (by first | exact Or.inl rfl | exact Or.inr rfl))) (fun _ _ _ _ _ => (pdts_one (pdb_cmp (op_neU hr.units) od_ne (pdv 5) pd_int (nomark _)))) (fun _ _ _ _ _ => (pdv 5)))) pda_nil)))
      (pdss_cons (pds_set (i := 4) sc__law_due.nd rfl (.inl rfl) (pd_op op_addU od_add (pd_op op_addU od_add (pd_op op_addU od_add (pd_op op_addU od_add pd_str (pd_callTy call_str_int cd_strI (by rfl) Z.z_str (by decide +kernel) (pda_cons (pdv 3) pda_nil))) pd_str) (pd_callTy call_str_int cd_strI (by rfl) Z.z_str (by decide +kernel) (pda_cons (pd_callB (cr_sumU rfl) cd_sum (by rfl) Z.z_sum (by decide +kernel) (pda_cons (pdv 1) pda_nil)) pda_nil))) pd_str))
      (pdss_one (pds_ret (pd_tup (pda_cons (pdv 0) (pda_cons (pdv 1) (pda_cons (pd_callB (cr_sumU rfl) cd_sum (by rfl) Z.z_sum (by decide +kernel) (pda_cons (pdv 1) pda_nil)) (pda_cons (pdv 2) (pda_cons (pdv 3) (pda_cons (pdv 4) pda_nil)))))))))))
theorem pd__law_no_tables (D : Df K mg "_law_no_tables" s__law_no_tables) (Z : Zs mg) : C8.Cal P w K mg base 1 "_law_no_tables" (spF K 1 F__law_no_tables) [] :=
  mk_cal (W := fun _ _ => True) (N := N__law_no_tables) (ps := ["_law_table_here"]) (n := 1) (p := 0) (q := 0) D sc__law_no_tables rfl (fun _ _ _ _ _ _ us hl => match us, hl with | [_], _ => rfl) fun f0 cdv A outer s H E hr => (pdss_cons (pds_set (i := 1) sc__law_no_tables.nd rfl (.inl rfl) (pd_ofN (pdn_lst (pda_cons pd_int (pda_cons pd_bl (pda_cons pd_str (pda_cons (pd_ofN (pdn_lst pda_nil)) (pda_cons pd_dict0 (pda_cons (pd_ofN (pdn_list (by rfl) Z.z_list (pdv 0))) (pda_cons (pd_op op_addU od_add (pdv 0) (pd_tup (pda_cons pd_int pda_nil))) (pda_cons (pd_sl (pdv 0) (pdo_some pd_int) pdo_none) pda_nil)))))))))))
      (pdss_cons (pds_set (i := 1) sc__law_no_tables.nd rfl (.inl rfl) (pd_op op_addU od_add (pdv 1) (pd_ofN (pdn_lst (pda_cons (pd_op op_addU od_add (pd_sl (pdv 0) (pdo_some pd_int) pdo_none) (pd_tup (pda_cons pd_bl pda_nil))) (pda_cons (pd_op op_addU od_add (pd_sl (pdv 0) (pdo_some pd_int) pdo_none) (pd_tup (pda_cons pd_non pda_nil))) (pda_cons (pd_tup (pda_cons (pdv 0) pda_nil)) pda_nil)))))))
      (pdss_cons (pds_set (i := 1) sc__law_no_tables.nd rfl (.inl rfl) (pd_op op_addU od_add (pdv 1) (pd_ofN (pdn_lst (pda_cons (pd_op op_addU od_add (pd_sl (pdv 0) (pdo_some pd_int) pdo_none) (pd_tup (pda_cons pd_str pda_nil))) (pda_cons (pd_op op_addU od_add (pd_sl (pdv 0) (pdo_some pd_int) pdo_none) (pd_tup (pda_cons (pd_tup (pda_cons pd_int pda_nil)) pda_nil))) (pda_cons (pd_op op_addU od_add (pd_sl (pdv 0) (pdo_some pd_int) pdo_none) (pd_tup (pda_cons (pd_ofN (pdn_lst (pda_cons pd_int pda_nil))) pda_nil))) pda_nil)))))))
      (pdss_one (pds_ret (pd_op op_addU od_add (pdv 1) (pd_ofN (pdn_lst (pda_cons (pd_op op_mulS od_mulS pd_str (pd_callB cr_lenU cd_len (by rfl) Z.z_len PySem.boot_len (pda_cons (pdv 0) pda_nil))) (pda_cons (pd_ofN (pdn_lst (pda_cons (pdv 0) pda_nil))) pda_nil))))))))))
theorem pd_Cube {f0 : Addr} {fd : FuncData} (D : ClsD K mg "Cube" f0) (F : FunD K "__init__" "Cube.__init__" (defArgs s_Cube) (defBody s_Cube) (defScope s_Cube) [V.non] [] f0 fd) (Z : Zs mg) (C_finest : C8.Cal P w K mg base 1 "finest" (spF K 1 F_finest) []) (C_check_scheme : CalX P w K mg base 5 "check_scheme" (spX K mg 1 F_check_scheme)) (C_no_amounts : C8.Cal P w K mg base 3 "no_amounts" (spF K 2 F_no_amounts) []) (C_check_table : CalX P w K mg base 3 "check_table" (spX K mg 2 F_check_table)) : CalI P w K mg base 6 "Cube" cvDef F_Cube :=
  mk_initD (q := 0) D F sc_Cube (fun T kV doc pm an cdv ct us its h1 h2 => match us, its, h1, h2 with | [_, _], [_], _, _ => ⟨_, rfl, rfl⟩) (fun T kV doc pm an cdv ct us its h1 h2 => match us, its, h1, h2 with | [_, _, _], [_], _, _ => ⟨_, rfl, rfl⟩) fun cdv A outer s H E hr => (pdsi_cons (pds_dropX (takes_of rfl rfl rfl rfl) C_check_scheme hr (by decide) (by rfl) (pda_cons (pdv 1) pda_nil) (aCons_len (fun _ _ _ h => aNil_len h)))
      (pdsi_cons (pds_if (pdb_cmp op_isNotU od_isNot (pdv 2) pd_non (nomark _)) (pdss_one (pds_dropX (takes_of rfl rfl rfl rfl) C_check_table hr (by decide) (by rfl) (pda_cons (pdv 1) (pda_cons (pdv 2) pda_nil)) (aCons_len (aCons_len (fun _ _ _ h => aNil_len h))))) pdss_nil)
      (pdsi_cons (pds_attr (i := 0) rfl (by first | exact Or.inl rfl | exact Or.inr (Or.inl rfl) | exact Or.inr (Or.inr rfl)) (pdv 1))
      (pdsi_last (i := 0) rfl (by first | exact Or.inl rfl | exact Or.inr (Or.inl rfl) | exact Or.inr (Or.inr rfl)) (pd_if (pdb_cmp op_isU od_is (pdv 2) pd_non (nomark _)) (pd_call0 C_no_amounts hr (by decide) (by rfl) (pda_cons (pdv 1) (pda_cons (pd_call0 C_finest hr (by decide) (by rfl) (pda_cons (pdv 1) pda_nil) (aCons_len (fun _ _ _ h => aNil_len h))) pda_nil)) (aCons_len (aCons_len (fun _ _ _ h => aNil_len h)))) (pdv 2))))))
theorem pd_law {fa : Addr} {fd : FuncData} (D : Fun K "law" "law" s_law fa fd) (Z : Zs mg) (C__law_cell : C8.Cal P w K mg base 1 "_law_cell" (spF K 2 F__law_cell) []) (C__law_is_same : C8.Cal P w K mg base 9 "_law_is_same" (spF K 2 (F__law_is_same 8)) []) (C__law_scheme : C8.Cal P w K mg base 2 "_law_scheme" (spF K 1 F__law_scheme) []) (C__law_fine_cells : C8.Cal P w K mg base 2 "_law_fine_cells" (spF K 1 F__law_fine_cells) []) (C__law_table : C8.Cal P w K mg base 3 "_law_table" (spF K 3 F__law_table) []) (C__law_no_schemes : C8.Cal P w K mg base 1 "_law_no_schemes" (spF K 1 F__law_no_schemes) []) (C_Cube_repr : CalM P w K mg base 4 "Cube" "__repr__" 1 F_Cube_repr) (C__law_said : CalS P w K mg base "_law_said" saidT__law_said (Str.ofString "")) (C__law_told : CalG P w K mg base 21 "_law_told" (spF K 1 F__law_told)) (C__law_due : C8.Cal P w K mg base 1 "_law_due" (spF K 3 F__law_due) []) (C__law_no_tables : C8.Cal P w K mg base 1 "_law_no_tables" (spF K 1 F__law_no_tables) []) (C_Cube : CalI P w K mg base 6 "Cube" cvDef F_Cube) {c_tb P_tb : Addr} (ht : PySem.W.tabIn K "law" = some (c_tb, P_tb)) (hc : fd.code = .ref c_tb) (TB : LamX.TabB base mg c_tb P_tb) : FnG P w K mg base 22 fa fd ["_law_script"] (spF K 1 F_law) :=
  mk_lawT (W := fun _ _ => True) (N := N_law) (ps := ["_law_script"]) (n := 1) (p := 1) (q := 1) D sc_law hc rfl fun f0 A outer s H E gd hr => (pdss_cons (pds_for PassesOwn.never rfl (pdi_range1 (by rfl) Z.z_range (pda_cons pd_int pda_nil)) (pdg_nm (i := 1) sc_law.nd rfl (.inl rfl))
      (pdss_cons (pds_set (i := 2) sc_law.nd rfl (.inl rfl) (pd_callS (i := 0) C__law_cell hr (by decide) (by rfl) rfl (by first | exact Or.inl rfl | exact Or.inr (Or.inl rfl) | exact Or.inr (Or.inr rfl)) (pda_cons (pdv 1) pda_nil) (fun ρ so p h => congrArg (· + 1) ((aCons_len (fun _ _ _ h => aNil_len h)) ρ so p h))))
      (pdss_cons (pds_for PassesOwn.never rfl (pdi_range1 (by rfl) Z.z_range (pda_cons pd_int pda_nil)) (pdg_nm (i := 3) sc_law.nd rfl (.inl rfl))
      (pdss_cons (pds_set (i := 4) sc_law.nd rfl (.inr rfl) (pd_call0 C__law_scheme hr (by decide) (by rfl) (pda_cons (pd_op op_addU od_add (pdv 2) (pd_op op_mulU od_mul pd_int (pdv 3))) pda_nil) (aCons_len (fun _ _ _ h => aNil_len h))))
      (pdss_cons (pds_parDD (i := 5) (j := 6) rfl sc_law.nd rfl rfl (by decide) rfl rfl (pd_call0 C__law_table hr (by decide) (by rfl) (pda_cons (pd_op op_addU od_add (pd_op op_fdiv od_div (pdv 2) pd_int) (pdv 3)) (pda_cons (pdv 4) (pda_cons pd_int pda_nil))) (aCons_len (aCons_len (aCons_len (fun _ _ _ h => aNil_len h))))) (pd_op op_mulU od_mul (pd_tup (pda_cons pd_int pda_nil)) (pd_callB cr_lenU cd_len (by rfl) Z.z_len PySem.boot_len (pda_cons (pd_call0 C__law_fine_cells hr (by decide) (by rfl) (pda_cons (pdv 4) pda_nil) (aCons_len (fun _ _ _ h => aNil_len h))) pda_nil))) (by rfl))
      (pdss_cons (pds_set (i := 7) sc_law.nd rfl (.inl rfl) (pd_reprO (k := 4) (repOk_cons C_Cube_repr (by decide) repOk_nil) (guards_deeper gd) hr (by decide) (by rfl) Z.z_repr (pd_tup (pda_cons (pdv 4) (pda_cons (pdv 5) pda_nil)))))
      (pdss_cons (pds_if (pdb_not (pdb_val (pd_call0 C__law_is_same hr (by decide) (by rfl) (pda_cons (pd_callG0 C__law_told (guards_deeper gd) hr (by decide) (by rfl) (pda_cons (pd_make LamX.takes0 C_Cube hr (by decide) (by rfl) (pda_cons (pdv 4) pda_nil)) pda_nil) (aCons_len (fun _ _ _ h => aNil_len h))) (pda_cons (pd_call0 C__law_due hr (by decide) (by rfl) (pda_cons (pdv 4) (pda_cons (pdv 6) (pda_cons pd_int pda_nil))) (aCons_len (aCons_len (aCons_len (fun _ _ _ h => aNil_len h))))) pda_nil)) (aCons_len (aCons_len (fun _ _ _ h => aNil_len h)))))) (pdss_one (pds_ret pd_bl)) pdss_nil)
      (pdss_cons (pds_if (pdb_not (pdb_val (pd_call0 C__law_is_same hr (by decide) (by rfl) (pda_cons (pd_callG0 C__law_told (guards_deeper gd) hr (by decide) (by rfl) (pda_cons (pd_make LamX.takes0 C_Cube hr (by decide) (by rfl) (pda_cons (pdv 4) (pda_cons (pdv 5) pda_nil))) pda_nil) (aCons_len (fun _ _ _ h => aNil_len h))) (pda_cons (pd_call0 C__law_due hr (by decide) (by rfl) (pda_cons (pdv 4) (pda_cons (pdv 5) (pda_cons pd_int pda_nil))) (aCons_len (aCons_len (aCons_len (fun _ _ _ h => aNil_len h))))) pda_nil)) (aCons_len (aCons_len (fun _ _ _ h => aNil_len h)))))) (pdss_one (pds_ret pd_bl)) pdss_nil)
      (pdss_cons (pds_if (pdb_not (pdb_val (pd_call0 C__law_is_same hr (by decide) (by rfl) (pda_cons (pd_callG0 C__law_told (guards_deeper gd) hr (by decide) (by rfl) (pda_cons (pd_make LamX.takes0 C_Cube hr (by decide) (by rfl) (pda_cons (pdv 4) (pda_cons pd_non pda_nil))) pda_nil) (aCons_len (fun _ _ _ h => aNil_len h))) (pda_cons (pd_call0 C__law_due hr (by decide) (by rfl) (pda_cons (pdv 4) (pda_cons (pdv 6) (pda_cons pd_int pda_nil))) (aCons_len (aCons_len (aCons_len (fun _ _ _ h => aNil_len h))))) pda_nil)) (aCons_len (aCons_len (fun _ _ _ h => aNil_len h)))))) (pdss_one (pds_ret pd_bl)) pdss_nil)
      (pdss_cons (pds_if (pdb_cmp (op_neU hr.units) od_ne (pd_reprO (k := 4) (repOk_cons C_Cube_repr (by decide) repOk_nil) (guards_deeper gd) hr (by decide) (by rfl) Z.z_repr (pd_tup (pda_cons (pdv 4) (pda_cons (pdv 5) pda_nil)))) (pdv 7) (nomark _)) (pdss_one (pds_ret pd_bl)) pdss_nil)
      (pdss_one (pds_for PassesOwn.never rfl (pdi_seq (pd_op op_addU od_add (pd_call0 C__law_no_tables hr (by decide) (by rfl) (pda_cons (pdv 5) pda_nil) (aCons_len (fun _ _ _ h => aNil_len h))) (pd_ofN (pdn_lst (pda_cons (pd_tup pda_nil) (pda_cons (pd_make LamX.takes0 C_Cube hr (by decide) (by rfl) (pda_cons (pdv 4) pda_nil)) (pda_cons (pd_tup (pda_cons (pd_make LamX.takes0 C_Cube hr (by decide) (by rfl) (pda_cons (pdv 4) pda_nil)) pda_nil)) pda_nil))))))) (pdg_nm (i := 8) sc_law.nd rfl (.inr rfl))
      (pdss_one (pds_if (pdb_cmp (op_neU hr.units) od_ne (pd_said (i := 0) C__law_said ht TB rfl (by rfl) (by rfl) hr (LamX.lamS_by (sc := defScope s_law) (by decide +kernel)) (by rfl) (fun _ _ _ _ _ => rfl) (by exact fun _ _ _ _ E _ _ hr => pe_lb (pd_make LamX.takes0 C_Cube hr (by decide) (by rfl) (pda_cons (pdv 4) (pda_cons (pdv 8) pda_nil))) (px_make (takes_of rfl rfl rfl rfl) C_Cube hr (by decide) (by rfl) (pda_cons (pdv 4) (pda_cons (pdv 8) pda_nil))))) pd_str (nomark _)) (pdss_one (pds_ret pd_bl)) pdss_nil))))))))))))
      (pdss_one (pds_for PassesOwn.never rfl (pdi_seq (pd_op op_addU od_add (pd_call0 C__law_no_schemes hr (by decide) (by rfl) (pda_cons (pdv 4) pda_nil) (aCons_len (fun _ _ _ h => aNil_len h))) (pd_ofN (pdn_lst (pda_cons (pd_make LamX.takes0 C_Cube hr (by decide) (by rfl) (pda_cons (pdv 4) pda_nil)) pda_nil))))) (pdg_nm (i := 8) sc_law.nd rfl (.inr rfl))
      (pdss_cons (pds_new (i := 9) (j := 1) (by decide) sc_law.nd rfl (.inl rfl) (pdn_lst (pda_cons (pd_said (i := 0) C__law_said ht TB rfl (by rfl) (by rfl) hr (LamX.lamS_by (sc := defScope s_law) (by decide +kernel)) (by rfl) (fun _ _ _ _ _ => rfl) (by exact fun _ _ _ _ E _ _ hr => pe_lb (pd_make LamX.takes0 C_Cube hr (by decide) (by rfl) (pda_cons (pdv 8) pda_nil)) (px_make (takes_of rfl rfl rfl rfl) C_Cube hr (by decide) (by rfl) (pda_cons (pdv 8) pda_nil)))) pda_nil)))
      (pdss_cons (pds_expr (pd_oAppend (i := 9) rfl (by first | exact Or.inl rfl | exact Or.inr (Or.inl rfl) | exact Or.inr (Or.inr rfl)) (pd_said (i := 0) C__law_said ht TB rfl (by rfl) (by rfl) hr (LamX.lamS_by (sc := defScope s_law) (by decide +kernel)) (by rfl) (fun _ _ _ _ _ => rfl) (by exact fun _ _ _ _ E _ _ hr => pe_lb (pd_make LamX.takes0 C_Cube hr (by decide) (by rfl) (pda_cons (pdv 8) (pda_cons pd_int pda_nil))) (px_make (takes_of rfl rfl rfl rfl) C_Cube hr (by decide) (by rfl) (pda_cons (pdv 8) (pda_cons pd_int pda_nil)))))))
      (pdss_one (pds_if (pdb_oNe (i := 9) hr.units rfl (by first | exact Or.inl rfl | exact Or.inr (Or.inl rfl) | exact Or.inr (Or.inr rfl)) (pd_ofN (pdn_lst (pda_cons pd_str (pda_cons pd_str pda_nil)))) (nomark _)) (pdss_one (pds_ret pd_bl)) pdss_nil)))))))))
      (pdss_one (pds_ret pd_bl)))
end
end MP
namespace MP
open PySem PySem.Spec PyProof.Rows L2 RL
theorem ev_xD {f : DE} {g : DX} {ρ : Slots} {so : Sto} {cq : CQ (List Pt × Sto)} : @EvI _ (xD f g ρ so) cq ↔ @EvI _ (f ρ so) ⟨fun p => @EvI _ ((g ρ p.2).bind fun q => some (Pt.d p.1 :: q.1, q.2)) cq⟩ := ev_bind
theorem ev_xN {f : DL} {g : DX} {ρ : Slots} {so : Sto} {cq : CQ (List Pt × Sto)} : @EvI _ (xN f g ρ so) cq ↔ @EvI _ (f ρ so) ⟨fun p => @EvI _ ((g ρ p.2).bind fun q => some (Pt.n p.1 :: q.1, q.2)) cq⟩ := ev_bind
theorem ev_sParX {ts : List (Nat × Nat)} {g : DX} {ρ : Slots} {so : Sto} {cq : CQ (Fl × Sto)} : @EvI _ (sParX ts g ρ so) cq ↔ @EvI _ (g ρ so) ⟨fun p => @EvI _ ((putXs ts p.1 ρ p.2).map fun r => (.nx r.1, r.2)) cq⟩ := ev_bind
end MP
namespace MP
open PySem PySem.Spec PyProof.Rows L2 RL
theorem ev_iEnA {f : DE} {ρ : Slots} {so : Sto} {cq : CQ (List PyData × Sto)} : @EvI _ (iEnA f ρ so) cq ↔ @EvI _ (f ρ so) ⟨fun p => @EvI _ ((seqOf p.1).map fun xs => (enumD xs, p.2)) cq⟩ := ev_bind
end MP
namespace MP
open PySem PySem.Spec PyProof.Rows L2 RL
theorem ev_sHead {i j : Nat} {f : DE} {ρ : Slots} {so : Sto} {cq : CQ (Fl × Sto)} : @EvI _ (sHead i j f ρ so) cq ↔ @EvI _ (f ρ so) ⟨fun p => @EvI _ (match p.1 with
  | .tuple (x :: r) => if r.length ≤ LIM then some (.nx ((ρ.set i (some (.d x))).set j (some (.d (.list r)))), p.2) else none
  | _ => none) cq⟩ := ev_bind
theorem ev_eStp {f : DE} {lo hi st : DO} {ρ : Slots} {so : Sto} {cq : CQ (PyData × Sto)} : @EvI _ (eStp f lo hi st ρ so) cq ↔ @EvI _ (f ρ so) ⟨fun p => @EvI _ ((lo ρ p.2).bind fun q => (hi ρ q.2).bind fun r => (st ρ r.2).bind fun t => (dStp p.1 q.1 r.1 t.1).map fun d => (d, t.2)) cq⟩ := ev_bind
theorem ev_iRg3 {g : DL} {ρ : Slots} {so : Sto} {cq : CQ (List PyData × Sto)} : @EvI _ (iRg3 g ρ so) cq ↔ @EvI _ (g ρ so) ⟨fun p => @EvI _ (match p.1 with
  | [.int a, .int b, .int (-1)] => if -5000 ≤ a ∧ a ≤ 5000 ∧ -5000 ≤ b ∧ b ≤ 5000 then some (downD a (a - b).toNat, p.2) else none
  | _ => none) cq⟩ := ev_bind
theorem ev_iZipS {f : DE} {ρ : Slots} {so : Sto} {cq : CQ (List PyData × Sto)} : @EvI _ (iZipS f ρ so) cq ↔ @EvI _ (f ρ so) ⟨fun p => @EvI _ (match p.1 with
  | .list ds => ((tupRows ds).orElse fun _ => lstRows ds).bind fun rows => if 1 ≤ rows.length ∧ rows.length ≤ 6 ∧ ∀ r ∈ rows, r.length = (rows.headD []).length then some (colsD rows, p.2) else none
  | _ => none) cq⟩ := ev_bind
end MP
namespace RL
open PySem PySem.Spec PyProof.Rows L2
/-! ### schemes, rollups, cells as texts -/
end RL
namespace MP
open PySem L2 RL
/-! ### draws -/
/-- the pen's three numbers -/
def PenD (n : Nat) (ds : List PyData) : Prop := ∃ p q c : Int, ds = [.int p, .int q, .int c] ∧ 0 ≤ p ∧ 0 ≤ q ∧ q < 2147483648 ∧ 0 ≤ c ∧ c ≤ n
theorem PenD.mono {n m : Nat} {ds : List PyData} (h : PenD n ds) (l : n ≤ m) : PenD m ds := by
  obtain ⟨p, q, c, e, h1, h2, h3, h4, h5⟩ := h
  exact ⟨p, q, c, e, h1, h2, h3, h4, by omega⟩
theorem rangeD_eN (n : Nat) : rangeD 0 n = (List.range n).map eN := rangeD_nat n
/-! ### the script, the pen -/
end MP
-- MPS<
open MP
local macro_rules
  | `(tactic| simp! [$xs,*]) => do
    let t ← `(tactic| simp [↓ev_start, ↓ev_bind, ↓ev_map, ↓ev_eOp, ↓ev_eUn, ↓ev_aCons, ↓ev_aStar, ↓ev_eTup, ↓ev_nLst, ↓ev_eOfN, ↓ev_iSeq, ↓ev_iRg1, ↓ev_iRg2, ↓ev_bVal, ↓ev_bNot, ↓ev_bAnd, ↓ev_bOr, ↓ev_eIf, ↓ev_eAnd, ↓ev_eOr, ↓ev_eChain, ↓ev_sRet, ↓ev_sDrop, ↓ev_sSet, ↓ev_sIf, ↓ev_sNew, ↓ev_nLc, ↓ev_nLc2, ↓ev_fCall0, ↓ev_fCall1, ↓ev_fCallS, ↓ev_oIx, ↓ev_oCall, ↓ev_oTuple, ↓ev_oAppend, ↓ev_oExtend, ↓ev_oPop, ↓ev_sOwn, ↓ev_oEq, ↓ev_eCall, ↓ev_nList, ↓ev_nRange, ↓ev_eIsi, ↓ev_oSome, ↓ev_eSl, ↓ev_scIx, ↓ev_sParDD, ↓ev_sParDN, ↓ev_sParNN, ↓ev_iZip2, ↓ev_fCallZ, ↓ev_iZip3, ↓ev_iZip4, ↓ev_iEnm, ↓ev_nAdd, ↓ev_eMinD, ↓ev_nSS, ↓ev_nCall, ev_fDef, ev_fDefN, ev_seq, ev_sFor, seq_nx, seq_ct, seq_bk, seq_rt, for_q, ret_rt, ret_nx, sIf, sRet, sRetN, sDrop, sSet, sNew, sNext, sBreak, sCont, sNone, sOwn, sParDD, sParDN, sParNN, putN, bVal, bNot, bAnd, bOr, bYes, eOp, eUn, eC, eVar, eIf, eAnd, eOr, eChain, eTup, eOfN, eCall, eSl, eMinD, nAdd, nSS, eIsi, aNil, aCons, aStar, nLst, nList, nRange, nCall, nLc, nLc2, fCall0, fCall1, fCallS, fCallZ, oIx, oCall, oTuple, oAppend, oExtend, oPop, oEq, ownAt, scLen, scIx, iSeq, iRg1, iRg2, iZip2, iZip3, iZip4, iEnm, putT, putTs, wipeS, noO_d, noO_s, noO_o, noO_n, oNo, oSome, dSl, dAdd_int, dAdd_tup, dAdd_lst, dSub_int, dMul_int, dMul_tup, dMod_int, dDiv_int, dPow_int, dShl_int, dBor_int, dLt_int, dLe_int, dGt_int, dGe_int, dEq_int, dNe_int, dNot_bool, dNeg_int, dBits_int, dIx_lst, dIx_tup, gLen_lst, gLen_tup, gTuple_lst, gTuple_tup, gMax_two, gMin_two, gInt_int, gInt_bool, seqOf_lst, seqOf_tup, dIs_none, dIs_bool, dIsNot_none, dIsNot_bool, same1_int, scV_int, scV_bool, isA_int, isA_tup, isA_str, isA_lst, atI_0, atI_1, atI_2, LIM, ev_guard, ev_some, ev_none, ev_bind, ev_map, turn_nx, turn_ct, turn_bk, turn_rt, ↓ev_xD, ↓ev_xN, ↓ev_sParX, xNil, xD, xN, sParX, putXs, ↓ev_iEnA, iEnA, ↓ev_sHead, ↓ev_eStp, ↓ev_iRg3, ↓ev_iZipS, sHead, eStp, iRg3, iZipS, ↓ev_ePropE, ↓ev_eLenE, ePropE, eLenE, ↓ev_eRepr, ↓ev_nAddO, eRepr, nAddO, eDictI, eDictT, ev_iSeq0, iq_nx, iq_ex, ev_fDefI, iLast_attr, ev_iLast, ev_sAttr, ev_fMk, mk_ok, cvStar_of, cvDef_one, cvDef_two, dMulG_one, dMulG_tup, putD, eMethU, insD, atD, ↓ev_eSaid, ↓ev_eFmt, said_no, said_yes, eFmt, eDict0, eIsE, hNo, ↓ev_sSetL, sSetL, dMulS_txt, ↓ev_nSplit, ↓ev_eSlS, ↓ev_iSgn, ↓ev_sHeadL, ↓ev_callX, ↓ev_sDropX, ↓ev_sRetX, ↓ev_sTryR, ↓ev_okF, ev_sOrX, or_no, or_yes, seq_ex, rex_rt, rex_nx, rex_ex, ev_fDefX, dStarts_txt, dIsdigit_txt, dIsascii_txt, dAdd_txt, gLen_txt, gAbs_int, callX, sDropX, sRetX, sTryR, okF, sRaise, nSplit, eSlS, dSlS, iSgn, sHeadL])
    match t with
    | `(tactic| simp [$ls,*]) =>
      let mut out := #[]
      for x in xs.getElems do
        if x.raw.reprint.getD "" |>.trimAscii |>.toString |> (· == "MPS") then
          out := out ++ ls.getElems
        else
          out := out.push x
      `(tactic| simp [$out,*])
    | _ => Lean.Macro.throwUnsupported
-- >MPS
namespace MP
open PySem L2 RL
theorem of_ev {α : Type} {o : Option α} {a : α} (h : Ev o fun r => r = a) : o = some a := by
  obtain ⟨b, e, rfl⟩ := h
  exact e
/-! ### bits -/
theorem bit_or : ∀ s, s < 64 → ∀ p, p < 6 → Builtin.bitOr ((s : Nat) : Int) ((2 : Int) ^ p) = ((s ||| 2 ^ p : Nat) : Int) ∧ s ||| 2 ^ p < 64 := by decide +kernel
def seenOf (ps : List Nat) : Nat := ps.foldl (fun s p => s ||| 2 ^ p) 0
theorem seen_snoc (ps : List Nat) (p : Nat) : seenOf (ps ++ [p]) = seenOf ps ||| 2 ^ p := by unfold seenOf; rw [List.foldl_append]; rfl
theorem seen_bit (ps : List Nat) (j : Nat) : (seenOf ps).testBit j = decide (j ∈ ps) := by
  induction ps using snocInd with
  | h0 => simp [seenOf]
  | h1 xs x ih =>
    rw [seen_snoc, Nat.testBit_or, ih, Nat.testBit_two_pow]
    simp [Bool.decide_or, eq_comm]
theorem seen_all {s : List Nat} {m : Nat} (h : ∀ g, g ∈ s ↔ g < m) : seenOf s = 2 ^ m - 1 := by
  refine Nat.eq_of_testBit_eq fun j => ?_
  rw [seen_bit, Nat.testBit_two_pow_sub_one]
  simp [h]
theorem bits_all : ∀ m, m < 7 → (Builtin.Int.intBits ((2 ^ m - 1 : Nat) : Int) : Nat) = m := by decide +kernel
/-! ### the package: steps, attributes, schemes -/
theorem isInt_int (i : Int) : (PyData.int i).isInt = true := rfl
theorem isTuple_tuple (xs : List PyData) : (PyData.tuple xs).isTuple = true := rfl
def GosI (b : Nat) (s : List Nat) (i : Nat) (ρ : Slots) (so : Sto) : Prop :=
  ∃ y3 : Option Sl, ρ = [some (.d (eT s)), some (.d (.int b)), some (.d (.int (seenOf (s.take i)))), y3, none] ∧ so = [] ∧ seenOf (s.take i) < 64
theorem ok_groups_of_step {b : Nat} {s : List Nat} (hs : StepOk b s) (hb : b ≤ 6) : F_groups_of_step [.d (eT s), .d (.int b)] [] = some (.int (top1 s), []) := by
  obtain ⟨hl, m, m0, mb, hm⟩ := hs
  refine of_ev ?_
  simp! [F_groups_of_step, MPS, eT, isTuple_tuple, hl]
  refine ev_for (GosI b s) ⟨none, rfl, rfl, by simp [seenOf]⟩ ?_ ?_
  · rintro i d ρ so hd ⟨y3, rfl, rfl, h64⟩
    obtain ⟨g, hg, rfl⟩ := get_map hd
    have hgm : g < m := (hm g).mp (List.mem_of_getElem? hg)
    have b1 : (g : Int) < (b : Int) := by omega
    have b2 : (g : Int) ≤ 1000000 := by omega
    obtain ⟨e1, e2⟩ := bit_or _ h64 g (by omega)
    simp! [B_groups_of_step_1, MPS, eN, isInt_int, b1, b2, e1]
    exact ⟨_, by rw [pre_take s hg, seen_snoc], rfl, by rw [pre_take s hg, seen_snoc]; exact e2⟩
  · rintro ρ so ⟨y3, rfl, rfl, h64⟩
    rw [List.length_map, List.take_length, seen_all hm]
    have e1 := bits_all m (by omega)
    have b1 : (m : Int) < (b : Int) := by omega
    have b2 : (m : Int) ≤ 1000000 := by omega
    have e2 : (((2 ^ m - 1 : Nat) : Int)) + 1 = 2 ^ m := by
      have : 0 < 2 ^ m := Nat.pow_pos (by decide)
      have h : ((2 ^ m - 1 : Nat) : Int) + 1 = ((2 ^ m : Nat) : Int) := by omega
      rw [h]
      simp
    simp! [MPS, e1, mb, b1, b2, e2, top1_of m0 hm]
theorem ok_is_integer (i : Int) : F_is_integer [.d (.int i)] [] = some (.bool true, []) := by
  refine of_ev ?_
  simp! [F_is_integer, MPS, isInt_int]
theorem ok_number_from {i lo hi : Int} (h : lo ≤ i) (h2 : i ≤ hi) : F_is_number_from [.d (.int i), .d (.int lo), .d (.int hi)] [] = some (.bool true, []) := by
  refine of_ev ?_
  simp! [F_is_number_from, MPS, ok_is_integer, h, h2]
theorem top1_pos (s : List Nat) : 0 < top1 s := by unfold top1; omega
def IsaI (a : Att) (i : Nat) (ρ : Slots) (so : Sto) : Prop :=
  ∃ y4 : Option Sl, ρ = [some (.d (eA a)), some (.d (.int a.1)), some (.d (eSt a.2)), some (.d (.int (gcount a i))), y4] ∧ so = []
theorem ok_is_attribute {a : Att} (ok : AttOk a) : F_is_attribute [.d (eA a)] [] = some (.bool true, []) := by
  have a1 := ok.1
  have a6 := ok.2.1
  have a3 := ok.2.2.1
  have e1 := ok_number_from (i := (a.1 : Nat)) (lo := 1) (hi := 6) (by omega) (by omega)
  have b3 : ¬ (3 : Int) < (a.2.length : Int) := by omega
  refine of_ev ?_
  simp! [F_is_attribute, MPS, eA, eSt, eN, isTuple_tuple, e1, b3]
  refine ev_for (IsaI a) ⟨none, rfl, rfl⟩ ?_ ?_
  · rintro i d ρ so hd ⟨y4, rfl, rfl⟩
    obtain ⟨st, hst, rfl⟩ := get_map hd
    have hi : i < a.2.length := (List.getElem?_eq_some_iff.mp hst).1
    obtain ⟨hok, hget⟩ := step_ok ok hi
    rw [hst] at hget
    have est : st = a.2.getD i [] := Option.some.inj hget
    have g6 := (gcount_pos ok (Nat.le_of_lt hi)).2
    rw [← est] at hok
    have e2 := ok_groups_of_step hok g6
    have hne : ¬ (top1 st = 0) := by have := top1_pos st; omega
    have eg : gcount a (i + 1) = top1 st := by rw [est]; rfl
    simp! [B_is_attribute_1, MPS, e2, hne]
    exact ⟨_, by rw [eg], rfl⟩
  · rintro ρ so ⟨y4, rfl, rfl⟩
    simp! [MPS]
def CocI (S : List Att) (i : Nat) (ρ : Slots) (so : Sto) : Prop :=
  ∃ y2 y3 : Option Sl, ρ = [some (.d (eS S)), some (.d (.int (prodN ((S.take i).map (·.1))))), y2, y3] ∧ so = []
theorem prod_le_of {S : List Att} (ok : SchOk S) (i : Nat) : prodN ((S.take i).map (·.1)) ≤ 60 := by
  have h := prod_take_le (ns := S.map (·.1)) (fun n hn => by
    obtain ⟨a, ha, rfl⟩ := List.mem_map.mp hn
    exact (ok.2.2.1 a ha).1) i
  rw [List.map_take]
  exact Nat.le_trans h ok.2.2.2
theorem ok_count_of_cells {S : List Att} (ok : SchOk S) : F_count_of_cells [.d (eS S)] [] = some (.int (prodN (S.map (·.1))), []) := by
  refine of_ev ?_
  simp! [F_count_of_cells, MPS, eS]
  refine ev_for (CocI S) ⟨none, none, rfl, rfl⟩ ?_ ?_
  · rintro i d ρ so hd ⟨y2, y3, rfl, rfl⟩
    obtain ⟨a, ha, rfl⟩ := get_map hd
    have b := prod_le_of ok i
    have b2 : prodN ((S.take i).map (·.1)) < 18446744073709551616 := by omega
    simp! [B_count_of_cells_1, MPS, eA, eN, ← List.map_take, b2]
    have e : prodN ((S.take (i + 1)).map (·.1)) = prodN ((S.take i).map (·.1)) * a.1 := by
      rw [pre_take S ha, List.map_append]
      exact prodN_snoc2
    refine ⟨some (.d (.int a.1)), some (.d (eSt a.2)), ?_, rfl⟩
    rw [e, Int.natCast_mul]
  · rintro ρ so ⟨y2, y3, rfl, rfl⟩
    simp! [MPS]
theorem ok_is_scheme {S : List Att} (ok : SchOk S) : F_is_scheme [.d (eS S)] [] = some (.bool true, []) := by
  have b1 : (1 : Int) ≤ (S.length : Int) := by have := ok.1; omega
  have b3 : (S.length : Int) ≤ 3 := by have := ok.2.1; omega
  have b60 : ((prodN (S.map (·.1)) : Nat) : Int) ≤ 60 := by have := ok.2.2.2; omega
  have ec := ok_count_of_cells ok
  refine of_ev ?_
  simp! [F_is_scheme, MPS, eS, isTuple_tuple, b1, b3]
  refine ev_for (fun _ ρ so => (∃ y1 : Option Sl, ρ = [some (.d (eS S)), y1]) ∧ so = []) ⟨⟨none, rfl⟩, rfl⟩ ?_ ?_
  · rintro i d ρ so hd ⟨⟨y1, rfl⟩, rfl⟩
    obtain ⟨a, ha, rfl⟩ := get_map hd
    have ea := ok_is_attribute (ok.2.2.1 a (List.mem_of_getElem? ha))
    simp! [B_is_scheme_1, MPS, ea]
  · rintro ρ so ⟨⟨y1, rfl⟩, rfl⟩
    simp! [MPS, ec, b60]
theorem roll_at {S : List Att} {r : List Nat} (h : RollOk S r) {i : Nat} {a : Att} {l : Nat} (ha : S[i]? = some a) (hl : r[i]? = some l) : l ≤ a.2.length := by have := h.2 i a l ha hl; omega
end MP
namespace MP
open PySem L2 RL
/-! ### levels, groups, cells -/
/-- a comprehension whose items are known one by one -/
theorem ev_lcAt {body : PyData → Sto → Option (List PyData × Sto)} {items res : List PyData} {so : Sto} {Q : List PyData × Sto → Prop} (hl : items.length = res.length)
    (hs : ∀ (i : Nat) (d y : PyData), items[i]? = some d → res[i]? = some y → Ev (body d so) fun r => r = ([y], so)) (q : Q (res, so)) : Ev (lcGo body items so) Q := by
  refine ev_lc (fun i acc so' => acc = res.take i ∧ so' = so) ⟨by simp, rfl⟩ ?_ ?_
  · rintro i d acc so' hd ⟨rfl, rfl⟩
    have hi : i < items.length := (List.getElem?_eq_some_iff.mp hd).1
    have hr : res[i]? = some res[i] := List.getElem?_eq_getElem (by omega)
    refine (hs i d _ hd hr).mono fun r e => ?_
    subst e
    exact ⟨(pre_take res hr).symm, rfl⟩
  · rintro acc so' ⟨rfl, rfl⟩
    rw [hl, List.take_length]
    exact q
theorem atI_nat {α : Type} {xs : List α} {i : Nat} {x : α} (h : xs[i]? = some x) : atI xs (i : Int) = some x := by
  unfold atI
  rw [ixN_nat (List.getElem?_eq_some_iff.mp h).1]
  exact h
theorem atI_mapE {α : Type} {f : α → PyData} {xs : List α} {i : Nat} {x : α} (h : xs[i]? = some x) : atI (xs.map f) (i : Int) = some (f x) := atI_nat (by rw [List.getElem?_map, h]; rfl)
theorem intsOf_eN (ns : List Nat) : intsOf (ns.map eN) = some (ns.map fun (n : Nat) => (n : Int)) := by
  rw [← intsOf_map (ns.map fun (n : Nat) => (n : Int)), List.map_map]
  rfl
theorem max_row {st : List Nat} {m : Nat} (m0 : 0 < m) (hm : ∀ g, g ∈ st ↔ g < m) : ∃ g gs, st = g :: gs ∧ ((gs.map fun (n : Nat) => (n : Int)).foldl max (g : Int)) + 1 = ((top1 st : Nat) : Int) := by
  cases st with
  | nil => exact absurd ((hm 0).mpr m0) (by simp)
  | cons g gs =>
    refine ⟨g, gs, rfl, ?_⟩
    rw [foldl_max_int]
    unfold top1
    rw [List.foldl_cons, Nat.zero_max]
    omega
/-- the greatest of a row of groups -/
theorem gMax_row {st : List Nat} {m : Nat} (m0 : 0 < m) (hm : ∀ g, g ∈ st ↔ g < m) : ∃ z : Int, gMax [.tuple (st.map eN)] = some (.int z) ∧ gMax [.list (st.map eN)] = some (.int z) ∧ z + 1 = (m : Nat) ∧ 1 + z = (m : Nat) := by
  obtain ⟨g, gs, rfl, e⟩ := max_row m0 hm
  rw [top1_of m0 hm] at e
  refine ⟨_, ?_, ?_, e, by omega⟩
  · show (intsOf ((g :: gs).map eN)).bind _ = _
    rw [intsOf_eN]
    rfl
  · show (intsOf ((g :: gs).map eN)).bind _ = _
    rw [intsOf_eN]
    rfl
theorem ok_group_count {a : Att} (ok : AttOk a) {l : Nat} (hl : l ≤ a.2.length) : F_group_count [.d (eA a), .d (.int l)] [] = some (.int (gcount a l), []) := by
  refine of_ev ?_
  cases l with
  | zero =>
    simp! [F_group_count, MPS, eA, eN]
    rfl
  | succ l =>
    obtain ⟨⟨h1, m, m0, mb, hm⟩, hget⟩ := step_ok ok (l := l) hl
    have e6 : gcount a (l + 1) = m := top1_of m0 hm
    generalize a.2.getD l [] = st at h1 hm hget
    obtain ⟨z, e1, _, e2, _⟩ := gMax_row m0 hm
    have e4 : ¬ ((l : Int) + 1 = 0) := by omega
    have e5 : atI (a.2.map eT) (l : Int) = some (eT st) := atI_mapE hget
    simp! [F_group_count, MPS, eA, eN, eSt, e4, e5]
    simp only [eT, e1, ↓ev_start, ↓ev_bind, ↓ev_map, ↓ev_eOp, ↓ev_eUn, ↓ev_aCons, ↓ev_aStar, ↓ev_eTup, ↓ev_nLst, ↓ev_eOfN, ↓ev_iSeq, ↓ev_iRg1, ↓ev_iRg2, ↓ev_bVal, ↓ev_bNot, ↓ev_bAnd, ↓ev_bOr, ↓ev_eIf, ↓ev_eAnd, ↓ev_eOr, ↓ev_eChain, ↓ev_sRet, ↓ev_sDrop, ↓ev_sSet, ↓ev_sIf, ↓ev_sNew, ↓ev_nLc, ↓ev_nLc2, ↓ev_fCall0, ↓ev_fCall1, ↓ev_fCallS, ↓ev_oIx, ↓ev_oCall, ↓ev_oTuple, ↓ev_oAppend, ↓ev_oExtend, ↓ev_oPop, ↓ev_sOwn, ↓ev_oEq, ↓ev_eCall, ↓ev_nList, ↓ev_nRange, ↓ev_eIsi, ↓ev_oSome, ↓ev_eSl, ↓ev_scIx, ↓ev_sParDD, ↓ev_sParDN, ↓ev_sParNN, ↓ev_iZip2, ↓ev_fCallZ, ↓ev_iZip3, ↓ev_iZip4, ↓ev_iEnm, ↓ev_nAdd, ↓ev_eMinD, ↓ev_nSS, ↓ev_nCall, ev_fDef, ev_fDefN, ev_seq, ev_sFor, seq_nx, seq_ct, seq_bk, seq_rt, for_q, ret_rt, ret_nx, sIf, sRet, sRetN, sDrop, sSet, sNew, sNext, sBreak, sCont, sNone, sOwn, sParDD, sParDN, sParNN, putN, bVal, bNot, bAnd, bOr, bYes, eOp, eUn, eC, eVar, eIf, eAnd, eOr, eChain, eTup, eOfN, eCall, eSl, eMinD, nAdd, nSS, eIsi, aNil, aCons, aStar, nLst, nList, nRange, nCall, nLc, nLc2, fCall0, fCall1, fCallS, fCallZ, oIx, oCall, oTuple, oAppend, oExtend, oPop, oEq, ownAt, scLen, scIx, iSeq, iRg1, iRg2, iZip2, iZip3, iZip4, iEnm, putT, putTs, wipeS, noO_d, noO_s, noO_o, noO_n, oNo, oSome, dSl, dAdd_int, dAdd_tup, dAdd_lst, dSub_int, dMul_int, dMul_tup, dMod_int, dDiv_int, dPow_int, dShl_int, dBor_int, dLt_int, dLe_int, dGt_int, dGe_int, dEq_int, dNe_int, dNot_bool, dNeg_int, dBits_int, dIx_lst, dIx_tup, gLen_lst, gLen_tup, gTuple_lst, gTuple_tup, gMax_two, gMin_two, gInt_int, gInt_bool, seqOf_lst, seqOf_tup, dIs_none, dIs_bool, dIsNot_none, dIsNot_bool, same1_int, scV_int, scV_bool, isA_int, isA_tup, isA_str, isA_lst, atI_0, atI_1, atI_2, LIM, ev_guard, ev_some, ev_none, ev_bind, ev_map, turn_nx, turn_ct, turn_bk, turn_rt, ↓ev_xD, ↓ev_xN, ↓ev_sParX, xNil, xD, xN, sParX, putXs, ↓ev_iEnA, iEnA, ↓ev_sHead, ↓ev_eStp, ↓ev_iRg3, ↓ev_iZipS, sHead, eStp, iRg3, iZipS, ↓ev_ePropE, ↓ev_eLenE, ePropE, eLenE, ↓ev_eRepr, ↓ev_nAddO, eRepr, nAddO, eDictI, eDictT, ev_iSeq0, iq_nx, iq_ex, ev_fDefI, iLast_attr, ev_iLast, ev_sAttr, ev_fMk, mk_ok, cvStar_of, cvDef_one, cvDef_two, dMulG_one, dMulG_tup, putD, eMethU, insD, atD, ↓ev_eSaid, ↓ev_eFmt, said_no, said_yes, eFmt, eDict0, eIsE, hNo, ↓ev_sSetL, sSetL, dMulS_txt, ↓ev_nSplit, ↓ev_eSlS, ↓ev_iSgn, ↓ev_sHeadL, ↓ev_callX, ↓ev_sDropX, ↓ev_sRetX, ↓ev_sTryR, ↓ev_okF, ev_sOrX, or_no, or_yes, seq_ex, rex_rt, rex_nx, rex_ex, ev_fDefX, dStarts_txt, dIsdigit_txt, dIsascii_txt, dAdd_txt, gLen_txt, gAbs_int, callX, sDropX, sRetX, sTryR, okF, sRaise, nSplit, eSlS, dSlS, iSgn, sHeadL]
    simp! [MPS, e2, e6]
end MP
namespace MP
open PySem L2 RL
/-! ### the other supply of draws -/
def SupD (n : Nat) (ds : List PyData) : Prop := ∃ p q c : Int, ds = [.int p, .int q, .int c] ∧ 0 ≤ p ∧ 0 ≤ q ∧ q < 2147483648 ∧ 0 ≤ c ∧ c ≤ n
theorem SupD.mono {n m : Nat} {ds : List PyData} (h : SupD n ds) (l : n ≤ m) : SupD m ds := by
  obtain ⟨p, q, c, e, h1, h2, h3, h4, h5⟩ := h
  exact ⟨p, q, c, e, h1, h2, h3, h4, by omega⟩
theorem ev_cell2 {ns : List Int} {k : Nat} {Q : PyData × Sto → Prop} (q : ∀ c : Int, Q (.int c, [])) : Ev (F__law_cell [.s ns, .d (.int k)] []) Q := by
  by_cases h : (k : Int) < (ns.length : Int)
  · have hk : k < ns.length := by omega
    have e : atI ns (k : Int) = some ns[k] := by unfold atI; rw [ixN_nat hk]; simp
    simp! [F__law_cell, MPS, h, e]
    exact q _
  · simp! [F__law_cell, MPS, h]
    exact q _
end MP
namespace MP
open PySem PySem.Spec PyProof.Rows L2 RL
/-! ### what is told and what is due are shown alike -/
/-- plain data of small depth and weight -/
def Fz (d : PyData) (n w : Nat) : Prop := plainD d = true ∧ d.depth ≤ n ∧ wt d ≤ w
def FzAll (ds : List PyData) (n w : Nat) : Prop := plainAll ds = true ∧ PyData.depthAll ds ≤ n ∧ wtAll ds ≤ w
theorem FzAll.nil {n w : Nat} : FzAll [] n w := ⟨rfl, Nat.zero_le _, Nat.zero_le _⟩
theorem FzAll.cons {d : PyData} {ds : List PyData} {n w v : Nat} (h : Fz d n w) (hs : FzAll ds n v) : FzAll (d :: ds) n (w + 2 + v) := by
  refine ⟨?_, ?_, ?_⟩
  · show (plainD d && plainAll ds) = true
    rw [h.1, hs.1]; rfl
  · show max d.depth (PyData.depthAll ds) ≤ n
    have := h.2.1; have := hs.2.1; omega
  · show wt d + 2 + wtAll ds ≤ _
    have := h.2.2; have := hs.2.2; omega
theorem FzAll.list {ds : List PyData} {n w : Nat} (h : FzAll ds n w) : Fz (.list ds) (n + 1) (w + 3) := ⟨h.1, Nat.succ_le_succ h.2.1, Nat.add_le_add_right h.2.2 3⟩
theorem FzAll.tuple {ds : List PyData} {n w : Nat} (h : FzAll ds n w) : Fz (.tuple ds) (n + 1) (w + 3) := ⟨h.1, Nat.succ_le_succ h.2.1, Nat.add_le_add_right h.2.2 3⟩
theorem FzAll.map {α : Type} {f : α → PyData} {n w : Nat} : ∀ {xs : List α}, (∀ x ∈ xs, Fz (f x) n w) → FzAll (xs.map f) n ((w + 2) * xs.length)
  | [], _ => ⟨rfl, Nat.zero_le _, Nat.zero_le _⟩
  | x :: xs, h => by
    have h1 := FzAll.cons (h x List.mem_cons_self) (FzAll.map (xs := xs) fun y hy => h y (List.mem_cons_of_mem _ hy))
    refine ⟨h1.1, h1.2.1, Nat.le_trans h1.2.2 ?_⟩
    rw [List.length_cons, Nat.mul_succ]
    omega
theorem Fz.mono {d : PyData} {n w m v : Nat} (h : Fz d n w) (h1 : n ≤ m) (h2 : w ≤ v) : Fz d m v := ⟨h.1, Nat.le_trans h.2.1 h1, Nat.le_trans h.2.2 h2⟩
theorem Fz.fits {d : PyData} {n w : Nat} (h : Fz d n w) (hd : isDisplay d = true) (h1 : n ≤ 50) (h2 : w ≤ 1000000) : fitsB d = true := fits_B hd h.1 (Nat.le_trans h.2.1 h1) (Nat.le_trans h.2.2 h2)
/-! ### the law's turns -/
/-! ### equal tuples, any of bools -/
theorem plain_all {α : Type} {f : α → PyData} {xs : List α} (h : ∀ x ∈ xs, (f x).plain = true) : PyData.plainAll (xs.map f) = true := by
  induction xs with
  | nil => rfl
  | cons x r ih =>
    show ((f x).plain && PyData.plainAll (r.map f)) = true
    rw [h x List.mem_cons_self, ih fun y hy => h y (List.mem_cons_of_mem _ hy)]
    rfl
/-! ### slots that hold no list of one's own -/
end MP
namespace MP
open PySem L2 RL
/-! ### the second family's groups, places, cells -/
theorem eN_i (n : Nat) : eN n = .int (n : Int) := rfl
/-! ### sorted(set(places)) is the cells in their order -/
theorem counts_get' {S : List Att} {r : List Nat} (h : RollOk S r) {i m : Nat} (hm : (counts S r)[i]? = some m) : ∃ a l, S[i]? = some a ∧ r[i]? = some l ∧ m = gcount a l := by
  have hi : i < S.length := by rw [← counts_len S r]; exact (List.getElem?_eq_some_iff.mp hm).1
  have gS : S[i]? = some S[i] := List.getElem?_eq_getElem hi
  have hr : i < r.length := by rw [h.1]; exact hi
  have gr : r[i]? = some r[i] := List.getElem?_eq_getElem hr
  rw [counts_get gS gr] at hm
  exact ⟨_, _, gS, gr, (Option.some.inj hm).symm⟩
theorem counts_small {S : List Att} {r : List Nat} (ok : SchOk S) (h : RollOk S r) : ∀ n ∈ counts S r, 1 ≤ n ∧ n ≤ 6 := by
  intro n hn
  obtain ⟨i, hi⟩ := List.mem_iff_getElem?.mp hn
  obtain ⟨a, l, ha, hl, rfl⟩ := counts_get' h hi
  exact gcount_pos (ok.2.2.1 a (List.mem_of_getElem? ha)) (roll_at h ha hl)
end MP
namespace MP
open PySem L2 RL
/-! ### the law's own rows, groups, cells -/
def eL (ns : List Nat) : PyData := .list (ns.map eN)
/-! ### the law's own groups above -/
end MP
namespace MP
open PySem L2 RL
/-! ### sizes, stored rollups, costs -/
def sizeN (S : List Att) (r : List Nat) : Nat := prodN (counts S r)
def SizI (S : List Att) (r : List Nat) (i : Nat) (ρ : Slots) (so : Sto) : Prop :=
  ∃ y3 y4 : Option Sl, ρ = [some (.d (eS S)), some (.d (eT r)), some (.d (.int (prodN ((counts S r).take i)))), y3, y4] ∧ so = []
theorem ok_size_of {S : List Att} {r : List Nat} (ok : SchOk S) (h : RollOk S r) : F_size_of [.d (eS S), .d (eT r)] [] = some (.int (sizeN S r), []) := by
  have s3 := ok.2.1
  have cs6 := counts_small ok h
  refine of_ev ?_
  simp! [F_size_of, MPS, eS, eT, h.1]
  refine ev_for (SizI S r) ⟨none, none, rfl, rfl⟩ ?_ ?_
  · rintro i d ρ so hd ⟨y3, y4, rfl, rfl⟩
    obtain ⟨x, u, hx, hu, rfl⟩ := pairsD_get hd
    obtain ⟨a, ha, rfl⟩ := get_map hx
    obtain ⟨l, hl, rfl⟩ := get_map hu
    have oka := ok.2.2.1 a (List.mem_of_getElem? ha)
    have e1 := ok_group_count oka (roll_at h ha hl)
    have e2 : prodN ((counts S r).take (i + 1)) = prodN ((counts S r).take i) * gcount a l := by rw [pre_take _ (counts_get ha hl), prodN_snoc2]
    have g6 := (gcount_pos oka (roll_at h ha hl)).2
    simp! [B_size_of_1, MPS, eN_i, e1]
    have b : gcount a l < 18446744073709551616 := by omega
    simp! [MPS, b]
    exact ⟨_, _, by rw [e2, Int.natCast_mul], rfl⟩
  · rintro ρ so ⟨y3, y4, rfl, rfl⟩
    rw [pairs_len (by simp [h.1]), List.length_map, ← counts_len S r, List.take_length]
    simp! [MPS, sizeN]
end MP
namespace RL
open PySem PySem.Spec PyProof.Rows L2
/-! ### tuples of numbers: by their first one, by parts -/
/-! ### every n-th of them -/
/-! ### sums over tuples -/
/-! ### numbers in the order of tuples -/
end RL
namespace MP
open PySem PySem.Spec PyProof.Rows L2 RL
/-! ### products, counts -/
end MP
namespace RL
open PySem PySem.Spec PyProof.Rows L2
/-! ### marks: 1 at the first value that is taken, -1 at the second -/
/-! ### two places that hold the same -/
end RL
namespace RL
open PySem PySem.Spec PyProof.Rows L2
/-! ### turned round -/
end RL
namespace RL
open PySem PySem.Spec PyProof.Rows L2
/-! ### sums over some tuples: parts, ways, one more -/
/-! ### all tuples: the first, the last -/
end RL
namespace MP
open PySem PySem.Spec PyProof.Rows L2 RL
/-! ### all rollups, all cells -/
end MP
namespace MP
open PySem PySem.Spec PyProof.Rows L2 RL
/-! ### the groups above all groups of a level -/
/-! ### one turn: the last attribute is added up -/
theorem gSum_ints (ns : List Int) : gSum [.tuple (ns.map .int)] = some (.int ns.sum) := by
  show (intsOf (ns.map .int)).map _ = _
  rw [intsOf_map]
  rfl
/-! ### all turns -/
end MP
namespace MP
open PySem PySem.Spec PyProof.Rows L2 RL
/-! ### the finest rollup -/
def fin0 (S : List Att) : List Nat := List.replicate S.length 0
theorem fin0_get {S : List Att} {i l : Nat} (h : (fin0 S)[i]? = some l) : l = 0 := by
  unfold fin0 at h
  rw [List.getElem?_replicate] at h
  split at h
  · exact (Option.some.inj h).symm
  · cases h
theorem fin0_at {S : List Att} {i : Nat} {a : Att} (h : S[i]? = some a) : (fin0 S)[i]? = some 0 := by
  have hi : i < S.length := (List.getElem?_eq_some_iff.mp h).1
  unfold fin0
  rw [List.getElem?_replicate, if_pos hi]
theorem fin0_ok (S : List Att) : RollOk S (fin0 S) := ⟨by unfold fin0; rw [List.length_replicate], fun i a l _ hl => by rw [fin0_get hl]; omega⟩
theorem counts_fin0 (S : List Att) : counts S (fin0 S) = S.map (·.1) := by
  refine List.ext_getElem? fun i => ?_
  by_cases hi : i < S.length
  · have g := List.getElem?_eq_getElem hi
    rw [counts_get g (fin0_at g), List.getElem?_map, g]
    rfl
  · rw [List.getElem?_eq_none (by rw [counts_len]; omega), List.getElem?_eq_none (by rw [List.length_map]; omega)]
theorem eS_len (S : List Att) : gLen [eS S] = some (.int S.length) := by
  show some (PyData.int ((S.map eA).length)) = _
  rw [List.length_map]
theorem eT_zeros (n : Nat) : eT (List.replicate n 0) = .tuple (List.replicate n (.int 0)) := by
  show PyData.tuple ((List.replicate n 0).map eN) = _
  rw [List.map_replicate]
  rfl
theorem ok_finest {S : List Att} (ok : SchOk S) : F_finest [.d (eS S)] [] = some (eT (fin0 S), []) := by
  have s1 := ok.1
  have s3 := ok.2.1
  have e1 := eS_len S
  have e2 : dMul (.tuple [.int 0]) (.int (S.length : Int)) = some (eT (fin0 S)) := by
    show (if 1 ≤ (S.length : Int) ∧ (S.length : Int) ≤ 1000 then some (PyData.tuple (List.replicate (S.length : Int).toNat (.int 0))) else none) = _
    rw [if_pos (by omega), Int.toNat_natCast]
    unfold fin0
    rw [eT_zeros]
  refine of_ev ?_
  simp! [F_finest, MPS, e1]
  rw [e2]
  simp! [MPS]
/-! ### tables -/
/-- needs F_are_integers -/
theorem ok_are_integers {xs : List Int} {n : Int} (h : (xs.length : Int) = n) : F_are_integers [.d (eI xs), .d (.int n)] [] = some (.bool true, []) := by
  refine of_ev ?_
  simp! [F_are_integers, MPS, eI, isTuple_tuple, h]
  refine ev_for (fun _ ρ so => (∃ y2 : Option Sl, ρ = [some (.d (.tuple (xs.map .int))), some (.d (.int n)), y2]) ∧ so = []) ⟨⟨none, rfl⟩, rfl⟩ ?_ ?_
  · rintro i d ρ so hd ⟨⟨y2, rfl⟩, rfl⟩
    obtain ⟨x, hx, rfl⟩ := get_map hd
    simp! [B_are_integers_1, MPS, isInt_int]
  · rintro ρ so ⟨⟨y2, rfl⟩, rfl⟩
    simp! [MPS]
theorem ok_is_table_of {S : List Att} {xs : List Int} (ok : SchOk S) (h : xs.length = prodN (S.map (·.1))) : F_is_table_of [.d (eS S), .d (eI xs)] [] = some (.bool true, []) := by
  have e := ok_are_integers (xs := xs) (n := ((prodN (S.map (·.1)) : Nat) : Int)) (by omega)
  refine of_ev ?_
  simp! [F_is_table_of, MPS, ok_count_of_cells ok, e]
/-! ### values that are taken -/
end MP
namespace MP
open PySem PySem.Spec PyProof.Rows L2 RL
/-! ### tables, sums, rolled sums -/
theorem ok_check_table {S : List Att} {xs : List Int} (ok : SchOk S) (h : xs.length = prodN (S.map (·.1))) : F_check_table [.d (eS S), .d (eI xs)] [] = some (.ok (.none), []) := by
  refine of_ev ?_
  simp! [F_check_table, MPS, ok_is_table_of ok h]
/-! ### equal amounts -/
/-! ### sums of sums -/
end MP
namespace MP
open PySem PySem.Spec PyProof.Rows L2 RL
/-! ### the law's tables -/
/-! ### the finest and the coarsest among all rollups -/
/-! ### one amount more -/
end MP
namespace MP
open PySem L2 RL TL NumText
/-! ### texts: small laws -/
/-! ### numbers in words -/
def isDig (c : Nat) : Bool := decide (48 ≤ c) && decide (c ≤ 57)
def figs : List Nat → List Nat
  | 45 :: r => r
  | w => w
def okWord (w : List Nat) : Bool := decide (figs w ≠ []) && decide ((figs w).length ≤ 13) && (figs w).all isDig && !(decide ((figs w).head? = some 48) && decide (w ≠ [48]))
def valW (w : List Nat) : Int := if w.head? = some 45 then -((digitsVal (figs w) : Nat) : Int) else ((digitsVal (figs w) : Nat) : Int)
/-- the number that a word tells, or none -/
def numW (x : Str) : PyData := if okWord (tl x) then .int (valW (tl x)) else .none
/-! the law's own reading of a number -/
end MP
namespace MP
open PySem L2 RL
/-! ### is it a scheme: asked of any numbers -/
theorem number_any (i lo hi : Int) : F_is_number_from [.d (.int i), .d (.int lo), .d (.int hi)] [] = some (.bool (decide (lo ≤ i) && decide (i ≤ hi)), []) := by
  refine of_ev ?_
  by_cases h : lo ≤ i
  · simp! [F_is_number_from, MPS, ok_is_integer, h]
  · simp! [F_is_number_from, MPS, ok_is_integer, h]
theorem prod_six0 (ns : List Nat) : (∀ n ∈ ns, 1 ≤ n ∧ n ≤ 6) → 1 ≤ prodN ns ∧ prodN ns ≤ 6 ^ ns.length := by
  induction ns using snocInd with
  | h0 => intro _; exact ⟨by decide, by decide⟩
  | h1 xs x ih =>
    intro h
    obtain ⟨i1, i2⟩ := ih fun a ha => h a (List.mem_append_left _ ha)
    have hx := h x (List.mem_append_right _ (List.mem_singleton.mpr rfl))
    rw [List.length_append, prodN_snoc2]
    exact ⟨Nat.mul_pos i1 hx.1, Nat.mul_le_mul i2 hx.2⟩
theorem prod_six (S : List Att) (h : ∀ a ∈ S, AttOk a) : 1 ≤ prodN (S.map (·.1)) ∧ prodN (S.map (·.1)) ≤ 6 ^ S.length := by
  have z := prod_six0 (S.map (·.1)) fun n hn => by
    obtain ⟨a, ha, rfl⟩ := List.mem_map.mp hn
    exact ⟨(h a ha).1, (h a ha).2.1⟩
  rwa [List.length_map] at z
end MP
namespace MP
open PySem L2 RL
/-! ### asked of any value at all -/
theorem kinds (d : PyData) : (∃ i : Int, d = .int i) ∨ d.isInt = false ∨ ∃ b : Bool, d = .bool b := by
  cases d with
  | int i => exact .inl ⟨i, rfl⟩
  | bool b => exact .inr (.inr ⟨b, rfl⟩)
  | _ => exact .inr (.inl rfl)
theorem tuples (d : PyData) : (∃ ds, d = .tuple ds) ∨ d.isTuple = false := by
  cases d with
  | tuple ds => exact .inl ⟨ds, rfl⟩
  | _ => exact .inr rfl
theorem isInt_bool (b : Bool) : (PyData.bool b).isInt = true := rfl
def AroI (ds : List PyData) (n : Int) (i : Nat) (ρ : Slots) (so : Sto) : Prop :=
  ∃ (zs : List Int) (y2 : Option Sl), ds.take i = zs.map .int ∧ ρ = [some (.d (.tuple ds)), some (.d (.int n)), y2] ∧ so = []
/-- needs F_are_integers -/
theorem ints_anyD (d : PyData) (n : Nat) : ∃ b : Bool, F_are_integers [.d d, .d (.int (n : Nat))] [] = some (.bool b, []) ∧ (b = true ↔ ∃ zs : List Int, d = .tuple (zs.map .int) ∧ zs.length = n) := by
  by_cases hok : ∃ zs : List Int, d = .tuple (zs.map .int) ∧ zs.length = n
  · obtain ⟨zs, rfl, hl⟩ := hok
    refine ⟨true, of_ev ?_, fun _ => ⟨zs, rfl, hl⟩, fun _ => rfl⟩
    simp! [F_are_integers, MPS, isTuple_tuple, hl]
    refine ev_for (fun _ ρ so => (∃ y2 : Option Sl, ρ = [some (.d (.tuple (zs.map .int))), some (.d (.int (n : Nat))), y2]) ∧ so = []) ⟨⟨none, rfl⟩, rfl⟩ ?_ ?_
    · rintro i d ρ so hd ⟨⟨y2, rfl⟩, rfl⟩
      obtain ⟨x, hx, rfl⟩ := get_map hd
      simp! [B_are_integers_1, MPS, isInt_int]
    · rintro ρ so ⟨⟨y2, rfl⟩, rfl⟩
      simp! [MPS]
  refine ⟨false, of_ev ?_, by simp only [Bool.false_eq_true, false_iff]; exact hok⟩
  rcases tuples d with ⟨ds, rfl⟩ | ht
  case inr => simp! [F_are_integers, MPS, ht]
  by_cases hl : ds.length = n
  · simp! [F_are_integers, MPS, isTuple_tuple, hl]
    refine ev_for (AroI ds n) ⟨[], none, by simp, rfl, rfl⟩ ?_ ?_
    · rintro i d ρ so hi ⟨zs, y2, hz, rfl, rfl⟩
      rcases kinds d with ⟨v, rfl⟩ | hk | ⟨c, rfl⟩
      · simp! [B_are_integers_1, MPS, isInt_int]
        exact ⟨zs ++ [v], _, by rw [pre_take ds hi, hz, List.map_append]; rfl, rfl, rfl⟩
      · simp! [B_are_integers_1, MPS, hk]
      · cases c <;> simp! [B_are_integers_1, MPS, isInt_bool, same1]
    · rintro ρ so ⟨zs, y2, hz, rfl, rfl⟩
      rw [List.take_length] at hz
      exact absurd ⟨zs, by rw [hz], by have := congrArg List.length hz; rw [List.length_map] at this; omega⟩ hok
  · have hl2 : ¬ ((ds.length : Int) = (n : Int)) := by omega
    simp! [F_are_integers, MPS, isTuple_tuple, hl2]
end MP
namespace MP
open PySem PySem.Spec PyProof.Rows L2 RL TL
/-! ### what can be shown, odd data with it -/
def Sm (R : Rep) (m n : Nat) (d : PyData) : Prop := dpt d ≤ m ∧ ∃ t, shw R d = some t ∧ t.length ≤ n
theorem Sm.mono {R : Rep} {m n m' n' : Nat} {d : PyData} (h : Sm R m n d) (h1 : m ≤ m') (h2 : n ≤ n') : Sm R m' n' d := by
  obtain ⟨a, t, b, c⟩ := h
  exact ⟨by omega, t, b, by omega⟩
theorem log_small {i : Int} (h : i.natAbs < 2 ^ 64) : i.natAbs.log2 < 64 := by
  by_cases z : i.natAbs = 0
  · rw [z]; decide
  · exact (Nat.log2_lt z).mpr h
theorem sm_int {R : Rep} {i : Int} (h : i.natAbs < 2 ^ 64) : Sm R 0 66 (.int i) := by
  have hl := log_small h
  refine ⟨Nat.le_refl _, _, ?_, Nat.le_trans (RL.int_len i) (by omega)⟩
  show (if i.natAbs.log2 < 1920 then some (Str.ofString (toString i)) else none) = _
  rw [if_pos (by omega)]
theorem sm_all {R : Rep} {m n : Nat} : ∀ {ds : List PyData}, (∀ d ∈ ds, Sm R m n d) → dptAll ds ≤ m ∧ ∃ ts, shwAll R ds = some ts ∧ piled ts ≤ (n + 2) * ds.length
  | [], _ => ⟨Nat.zero_le _, [], rfl, Nat.zero_le _⟩
  | d :: ds, h => by
    obtain ⟨a1, t, b1, c1⟩ := h d List.mem_cons_self
    obtain ⟨a2, ts, b2, c2⟩ := sm_all fun x hx => h x (List.mem_cons_of_mem _ hx)
    refine ⟨Nat.max_le.mpr ⟨a1, a2⟩, t :: ts, ?_, ?_⟩
    · show ((shw R d).bind fun t => (shwAll R ds).map fun ts => t :: ts) = _
      rw [b1, b2]
      rfl
    · rw [piled_cons, List.length_cons, Nat.mul_succ]
      omega
theorem piled_eq (ts : List Str) : (ts.map (·.length)).sum + 2 * ts.length = piled ts := by
  induction ts with
  | nil => rfl
  | cons t r ih =>
    rw [piled_cons, List.map_cons, List.sum_cons, List.length_cons]
    omega
theorem sm_tup {R : Rep} {m n : Nat} {ds : List PyData} (h : ∀ d ∈ ds, Sm R m n d) : Sm R (m + 1) ((n + 2) * ds.length + 3) (.tuple ds) := by
  obtain ⟨a, ts, b, c⟩ := sm_all h
  refine ⟨Nat.succ_le_succ a, tupleText ts, ?_, ?_⟩
  · show (shwAll R ds).map tupleText = _
    rw [b]
    rfl
  · have := tupleText_len_le ts
    rw [piled_eq] at this
    omega
theorem Sm.fits {R : Rep} {m n : Nat} {d : PyData} (h : Sm R m n d) (hm : m ≤ 40) (hn : n ≤ 16000000) : ∃ t, fitsR R d = some t := by
  obtain ⟨a, t, b, c⟩ := h
  refine ⟨t, ?_⟩
  unfold fitsR
  rw [if_pos (by omega), b]
  show (if t.length ≤ 16000000 then some t else none) = _
  rw [if_pos (by omega)]
theorem str_len (i : Int) : (Str.ofString (toString i)).length ≤ i.natAbs.log2 + 2 := RL.int_len i
/-! ### the odd values of stage 1 -/
end MP
namespace MP
open PySem PySem.Spec PyProof.Rows L2 RL
/-! ### words and numbers, asked of any value -/
theorem dEq_strs (y x : Str) : dEq (.str y) (.str x) = some (.bool (decide (y = x))) := by
  unfold dEq
  have h : PyData.eqv (.str y) (.str x) = decide (y = x) := by rw [Bool.eq_iff_iff]; simp [PyData.eqv]
  rw [h]
  rfl
theorem dNe_strs (y x : Str) : dNe (.str y) (.str x) = some (.bool (!decide (y = x))) := by
  unfold dNe
  have h : PyData.eqv (.str y) (.str x) = decide (y = x) := by rw [Bool.eq_iff_iff]; simp [PyData.eqv]
  rw [h]
  rfl
/-- needs F_is_table_of -/
theorem table_of_any {S : List Att} (ok : SchOk S) (d : PyData) : ∃ b : Bool, F_is_table_of [.d (eS S), .d d] [] = some (.bool b, []) ∧ (b = true ↔ ∃ zs : List Int, d = eI zs ∧ zs.length = prodN (S.map (·.1))) := by
  obtain ⟨b, e, h⟩ := ints_anyD d (prodN (S.map (·.1)))
  refine ⟨b, of_ev ?_, h⟩
  simp! [F_is_table_of, MPS, ok_count_of_cells ok, e]
/-! ### what is no number, among any values -/
end MP
namespace MP
open PySem PySem.Spec PyProof.Rows L2 RL
/-! ### what is said of a call: what it gives, shown, or the word of what it raises -/
/-! ### what begins with no mark -/
/-! ### plain data is shown -/
/-! ### refused arguments -/
/-- needs F_is_scheme -/
def NotSch (d : PyData) : Prop := F_is_scheme [.d d] [] = some (.bool false, [])
def noB (o : Option (PyData × Sto)) : Bool := match o with
  | some (.bool false, []) => true
  | _ => false
theorem no_of {o : Option (PyData × Sto)} (h : noB o = true) : o = some (.bool false, []) := by
  unfold noB at h
  split at h
  · rfl
  · cases h
theorem rz_scheme {S : List Att} (ok : SchOk S) : F_check_scheme [.d (eS S)] [] = some (.ok .none, []) := by
  refine of_ev ?_
  simp! [F_check_scheme, MPS, ok_is_scheme ok]
theorem rz_scheme_no {d : PyData} (h : NotSch d) : F_check_scheme [.d d] [] = some (.ex (Str.ofString "SchemeError"), []) := by
  refine of_ev ?_
  unfold NotSch at h
  simp! [F_check_scheme, MPS, h]
end MP
namespace MP
open PySem PySem.Spec PyProof.Rows L2 RL
/-! ### lists of words -/
theorem dNe_strsL (a b : List Str) : dNe (.list (a.map .str)) (.list (b.map .str)) = some (.bool (!decide (a = b))) := by
  have h1 : ∀ a b : List Str, PyData.eqvAll (a.map .str) (b.map .str) = decide (a = b) := by
    intro a
    induction a with
    | nil => intro b; cases b <;> simp [PyData.eqvAll]
    | cons x a ih =>
      intro b
      cases b with
      | nil => simp [PyData.eqvAll]
      | cons y b =>
        show (PyData.eqv (.str x) (.str y) && PyData.eqvAll (a.map .str) (b.map .str)) = _
        rw [ih b, show PyData.eqv (.str x) (.str y) = decide (x = y) from by rw [Bool.eq_iff_iff]; simp [PyData.eqv]]
        by_cases h : x = y <;> by_cases h2 : a = b <;> simp [h, h2]
  have p : ∀ a : List Str, (PyData.list (a.map .str)).plain = true := fun a => plain_all fun _ _ => rfl
  have dp : ∀ a : List Str, (PyData.list (a.map .str)).depth ≤ 60 := fun a => by
    have : PyData.depthAll (a.map .str) = 0 := by
      induction a with
      | nil => rfl
      | cons x a ih =>
        show max 0 (PyData.depthAll (a.map .str)) = 0
        rw [ih]
        rfl
    show PyData.depthAll (a.map .str) + 1 ≤ 60
    omega
  unfold dNe
  rw [p, p, show PyData.eqv (.list (a.map .str)) (.list (b.map .str)) = decide (a = b) from h1 a b, decide_eq_true (Nat.le_trans (Nat.min_le_left _ _) (dp a))]
  rfl
theorem ne2 (a b : Str) : dNe (.list [.str a, .str b]) (.list [.str a, .str b]) = some (.bool false) := (dNe_strsL [a, b] [a, b]).trans (by simp)
/-! ### what is no tuple of rollups -/
end MP
namespace MP
open PySem PySem.Spec PyProof.Rows L2 RL
/-! ### a cube and a store with nothing in them -/
/-- needs F_no_amounts -/
theorem no_amounts0 {S : List Att} {r : List Nat} (ok : SchOk S) (hr : RollOk S r) : F_no_amounts [.d (eS S), .d (eT r)] [] = some (.tuple (List.replicate (sizeN S r) (.int 0)), []) := by
  have es := ok_size_of ok hr
  have z := prod_six0 (counts S r) (counts_small ok hr)
  have z2 : 6 ^ (counts S r).length ≤ 6 ^ 3 := Nat.pow_le_pow_right (by omega) (by rw [counts_len]; exact ok.2.1)
  have hs : sizeN S r = prodN (counts S r) := rfl
  have em : dMul (.tuple [.int 0]) (.int (sizeN S r : Nat)) = some (.tuple (List.replicate (sizeN S r) (.int 0))) := by
    rw [dMul_tup ⟨by omega, by omega⟩]
    rfl
  refine of_ev ?_
  simp! [F_no_amounts, MPS, es, em]
def zsD (n : Nat) : PyData := .tuple (List.replicate n (.int 0))
/-- needs F_Cube F_no_amounts -/
theorem cube0 {S : List Att} (ok : SchOk S) : F_Cube [.d (eS S), .d .none] = some (.ok [(Str.ofString "attributes", eS S)] (zsD (sizeN S (fin0 S)))) := by
  have e1 := rz_scheme ok
  have e2 := ok_finest ok
  have e3 := no_amounts0 ok (fin0_ok S)
  refine of_ev ?_
  have sn : same1 .none .none = true := rfl
  simp! [F_Cube, MPS, e1, e2, e3, sn]
  rfl
/-! ### what is no rollup -/
end MP
namespace MP
open PySem PySem.Spec PyProof.Rows L2 RL
/-! ### refused: tables, amounts, orders, cells -/
/-- no tuple of n numbers -/
def NoInts (n : Nat) (d : PyData) : Prop := ¬ ∃ zs : List Int, d = eI zs ∧ zs.length = n
theorem ni_kind {n : Nat} {d : PyData} (h : d.isTuple = false) : NoInts n d := fun ⟨r, e, _⟩ => by rw [e] at h; cases h
theorem ni_len {n : Nat} {ds : List PyData} (h : ds.length ≠ n) : NoInts n (.tuple ds) := fun ⟨r, e, hr⟩ => by
  rw [PyData.tuple.inj e, List.length_map] at h
  exact h hr
theorem ni_mem {n : Nat} {ds : List PyData} {x : PyData} (hx : x ∈ ds) (h : ∀ i : Int, x ≠ .int i) : NoInts n (.tuple ds) := fun ⟨r, e, _⟩ => by
  rw [PyData.tuple.inj e] at hx
  obtain ⟨i, _, rfl⟩ := List.mem_map.mp hx
  exact h i rfl
/-- needs F_is_table_of -/
theorem table_of_no {S : List Att} {d : PyData} (ok : SchOk S) (h : NoInts (prodN (S.map (·.1))) d) : F_is_table_of [.d (eS S), .d d] [] = some (.bool false, []) := by
  obtain ⟨b, e, hb⟩ := table_of_any ok d
  cases b with
  | true => exact absurd (hb.mp rfl) h
  | false => exact e
/-- needs F_check_table -/
theorem rz_table_no {S : List Att} {d : PyData} (ok : SchOk S) (h : NoInts (prodN (S.map (·.1))) d) : F_check_table [.d (eS S), .d d] [] = some (.ex (Str.ofString "TableError"), []) := by
  refine of_ev ?_
  simp! [F_check_table, MPS, table_of_no ok h]
/-! ### the tables' and amounts' odd values -/
end MP
namespace MP
open PySem L2 RL TL
/-! ### cutting texts -/
/-! ### the program's reading -/
def numsW (part : Str) : List PyData := (Txt.split part ⟨#[32]⟩).map numW
def stepW (part : Str) : PyData := .tuple (numsW part)
def attW (line : Str) : PyData := match Txt.split line ⟨#[32, 58, 32]⟩ with
  | f :: r => .tuple [numW f, .tuple (r.map stepW)]
  | [] => .none
/-- the lines make a scheme -/
def Reads (A : List Str) (z : Str) (d : PyData) : Prop := z = ⟨#[]⟩ ∧ d = .tuple (A.map attW) ∧ ∃ S, SchOk S ∧ d = eS S
end MP
namespace MP
open PySem L2 RL TL
/-! ### small laws of data that was read -/
theorem depth_ints (zs : List Int) : PyData.depthAll (zs.map PyData.int) = 0 := by
  induction zs with
  | nil => rfl
  | cons z r ih =>
    show max 0 (PyData.depthAll (r.map PyData.int)) = 0
    rw [ih]
    rfl
end MP
namespace MP
open PySem L2 RL
/-! ### the third stage's draws and schemes -/
def Below (bs ds : List Nat) : Prop := ds.length = bs.length ∧ ∀ (i b d : Nat), bs[i]? = some b → ds[i]? = some d → d < b
theorem Below.snoc {bs ds : List Nat} {i b d : Nat} (h : Below (bs.take i) ds) (hb : bs[i]? = some b) (hd : d < b) : Below (bs.take (i + 1)) (ds ++ [d]) := by
  have hi : i < bs.length := (List.getElem?_eq_some_iff.mp hb).1
  have l := h.1
  rw [List.length_take, Nat.min_eq_left (Nat.le_of_lt hi)] at l
  rw [pre_take bs hb]
  refine ⟨by rw [List.length_append, List.length_append, h.1]; rfl, fun j b' d' e1 e2 => ?_⟩
  by_cases hj : j < i
  · rw [List.getElem?_append_left (by rw [← h.1]; omega)] at e1
    rw [List.getElem?_append_left (by omega)] at e2
    exact h.2 j b' d' e1 e2
  · have lt : (bs.take i).length = i := by rw [List.length_take]; omega
    rw [List.getElem?_append_right (by omega), lt] at e1
    rw [List.getElem?_append_right (by omega), l] at e2
    cases hz : j - i with
    | zero =>
      rw [hz] at e1 e2
      cases e1
      cases e2
      exact hd
    | succ n =>
      rw [hz] at e1
      cases e1
def DrI (c : Int) (bs : List Nat) (i : Nat) (ρ : Slots) (so : Sto) : Prop :=
  ∃ (ds : List Nat) (y3 y4 y5 y6 : Option Sl), (∃ z : Int, y3 = some (.d (.int z))) ∧ ρ = [some (.d (.int c)), some (.d (.list (bs.map eN))), some (.o 0), y3, y4, y5, y6] ∧ so = [.lst (ds.map eN)] ∧ Below (bs.take i) ds
def DrJ (c : Int) (bs : List Nat) (i : Nat) (ρ : Slots) (so : Sto) : Prop :=
  ∃ (ds : List Nat) (y3 y4 y5 y6 : Option Sl), ρ = [some (.d (.int c)), some (.d (.list (bs.map eN))), some (.o 0), y3, y4, y5, y6] ∧ so = [.lst (ds.map eN)] ∧ Below (bs.take i) ds
/-- needs F__law_draws -/
theorem ev_draws3 {c : Int} {bs : List Nat} {Q : PyData × Sto → Prop} (hb : ∀ b ∈ bs, 0 < b ∧ b < 1000000) (hl : bs.length ≤ 1000) (k : ∀ ds : List Nat, Below bs ds → Q (.list (ds.map eN), [])) :
    Ev (F__law_draws [.d (.int c), .d (.list (bs.map eN))] []) Q := by
  have fin : ∀ z b : Int, 0 < b → 0 ≤ z % b ∧ z % b < b := fun z b h => ⟨Int.emod_nonneg _ (by omega), Int.emod_lt_of_pos _ h⟩
  have b0 : Below (bs.take 0) [] := ⟨by simp, by simp⟩
  by_cases hc : (1000000000000000000 : Int) ≤ c
  · simp! [F__law_draws, MPS, hc]
    refine ev_for (DrI c bs) ⟨[], _, none, none, none, ⟨_, rfl⟩, rfl, rfl, b0⟩ ?_ ?_
    · rintro i d ρ so hi ⟨ds, y3, y4, y5, y6, ⟨z, rfl⟩, rfl, rfl, hB⟩
      obtain ⟨b, hbi, rfl⟩ := get_map hi
      obtain ⟨p1, p2⟩ := hb b (List.mem_of_getElem? hbi)
      have p3 : (b : Int) < 1073741824 := by omega
      have hi' : i < bs.length := (List.getElem?_eq_some_iff.mp hbi).1
      have l1 := hB.1
      rw [List.length_take] at l1
      have l2 : ds.length < 5000 := by omega
      simp! [B__law_draws_1, MPS, eN, p1, p3, l2]
      obtain ⟨f1, f2⟩ := fin z b (by omega)
      obtain ⟨d, hd⟩ := Int.eq_ofNat_of_zero_le f1
      rw [hd] at f2 ⊢
      exact ⟨ds ++ [d], _, _, _, _, ⟨_, rfl⟩, rfl, by rw [List.map_append]; rfl, hB.snoc hbi (by omega)⟩
    · rintro ρ so ⟨ds, y3, y4, y5, y6, ⟨z, rfl⟩, rfl, rfl, hB⟩
      rw [List.length_map, List.take_length] at hB
      simp! [MPS]
      exact k ds hB
  · have hl5 : bs.length ≤ 5000 := by omega
    simp! [F__law_draws, MPS, hc, hl5]
    repeat' (refine And.intro (by omega) ?_)
    refine ev_forN (DrJ c bs) ⟨[], _, _, _, _, rfl, rfl, b0⟩ ?_ ?_
    · rintro i ρ so hi ⟨ds, y3, y4, y5, y6, rfl, rfl, hB⟩
      have hi : i < bs.length := hi
      have hbi : bs[i]? = some bs[i] := List.getElem?_eq_getElem hi
      obtain ⟨p1, p2⟩ := hb bs[i] (List.getElem_mem _)
      have l1 := hB.1
      rw [List.length_take] at l1
      have l2 : ds.length < 5000 := by omega
      have at1 : atI (bs.map eN) (i : Int) = some (eN bs[i]) := by
        unfold atI
        rw [List.length_map, ixN_nat hi]
        show (bs.map eN)[i]? = _
        rw [List.getElem?_map, hbi]
        rfl
      simp! [B__law_draws_2, MPS, at1, eN, p1, l2]
      generalize hz : ((((c * 48271 + (i : Int) * 69621 + 11) % 2147483647) * 16807 + (i : Int)) % 998244353) = z
      obtain ⟨f1, f2⟩ := fin z bs[i] (by omega)
      obtain ⟨d, hd⟩ := Int.eq_ofNat_of_zero_le f1
      rw [hd] at f2 ⊢
      exact ⟨ds ++ [d], _, _, _, _, rfl, by rw [List.map_append]; rfl, hB.snoc hbi (by omega)⟩
    · rintro ρ so ⟨ds, y3, y4, y5, y6, rfl, rfl, hB⟩
      rw [List.take_length] at hB
      simp! [MPS]
      exact k ds hB
/-! #### attributes -/
def rowL (g f q : Nat) : List Nat := (List.range g).map fun a => if a < f then a else (a * 7 + q) % f
def rotL (b : Nat) (xs : List Nat) : List Nat := xs.drop b ++ xs.take b
theorem rot_mem {g f q b : Nat} (f0 : 0 < f) (fg : f < g) (x : Nat) : x ∈ rotL b (rowL g f q) ↔ x < f := by
  have ml : x ∈ rotL b (rowL g f q) ↔ x ∈ rowL g f q := by
    unfold rotL
    rw [List.mem_append, Or.comm, ← List.mem_append, List.take_append_drop]
  rw [ml]
  unfold rowL
  rw [List.mem_map]
  constructor
  · rintro ⟨a, _, rfl⟩
    split
    · assumption
    · exact Nat.mod_lt _ f0
  · intro hx
    exact ⟨x, List.mem_range.mpr (by omega), if_pos hx⟩
theorem rot_ok {g f q b : Nat} (f0 : 0 < f) (fg : f < g) : StepOk g (rotL b (rowL g f q)) := by
  refine ⟨?_, f, f0, fg, rot_mem f0 fg⟩
  unfold rotL rowL
  simp
  omega
def Low (m : Nat) (ns : List Nat) : Prop := ∀ n ∈ ns, n < m
def At3I (ns : List Nat) (m : Nat) (i : Nat) (ρ : Slots) (so : Sto) : Prop :=
  ∃ (g : Nat) (ss : List (List Nat)) (y4 y5 y6 y7 y8 : Option Sl), ρ = [some (.d (.list (ns.map eN))), some (.d (.int m)), some (.o 0), some (.d (.int g)), y4, y5, y6, y7, y8] ∧ so = [.lst (ss.map eT)] ∧ StepsTo m ss g ∧ 1 ≤ g ∧ g ≤ 6 ∧ ss.length ≤ i
theorem at_nat {ns : List Nat} {i : Nat} (h : i < ns.length) : atI (ns.map eN) (i : Int) = some (.int (ns[i] : Nat)) := by
  unfold atI
  rw [List.length_map, ixN_nat h]
  show (ns.map eN)[i]? = _
  rw [List.getElem?_map, List.getElem?_eq_getElem h]
  rfl
theorem cut_to3 (xs : List PyData) (h : Nat) : cutD xs none (some (h : Int)) = xs.take h := by
  unfold cutD
  have i1 : HT.sIx xs.length 0 none = 0 := rfl
  rw [i1, HT.sIx_nat, List.drop_zero, Nat.sub_zero]
  by_cases hh : h ≤ xs.length
  · rw [Nat.min_eq_left hh]
  · rw [Nat.min_eq_right (by omega), List.take_of_length_le (Nat.le_refl _), List.take_of_length_le (by omega)]
theorem cut_from3 (xs : List PyData) (h : Nat) : cutD xs (some (h : Int)) none = xs.drop h := by
  unfold cutD
  have i1 : HT.sIx xs.length xs.length none = xs.length := rfl
  rw [i1, HT.sIx_nat]
  by_cases hh : h ≤ xs.length
  · rw [Nat.min_eq_left hh, List.take_of_length_le (by rw [List.length_drop]; exact Nat.le_refl _)]
  · rw [Nat.min_eq_right (by omega), List.drop_of_length_le (Nat.le_refl _), List.drop_of_length_le (by omega)]
    simp
/-- needs F__law_attribute -/
theorem ev_attribute3 {ns : List Nat} {Q : PyData × Sto → Prop} (hl : ns.length = 8) (h60 : Low 60 ns) (k : ∀ a : Att, AttOk a → Q (eA a, [])) : Ev (F__law_attribute [.d (.list (ns.map eN))] []) Q := by
  have a0 : atI (ns.map eN) 0 = some (.int (ns[0]'(by omega) : Nat)) := at_nat (ns := ns) (i := 0) (by omega)
  have a1 : atI (ns.map eN) 1 = some (.int (ns[1]'(by omega) : Nat)) := at_nat (ns := ns) (i := 1) (by omega)
  obtain ⟨m, hm, m1, m6⟩ : ∃ m : Nat, atI [PyData.int 2, .int 3, .int 4, .int 4, .int 5, .int 6, .int 1, .int 3] (((ns[0]'(by omega) : Nat) : Int) % 8) = some (.int (m : Nat)) ∧ 1 ≤ m ∧ m ≤ 6 := by
    generalize ns[0]'(by omega) = n0
    have e : ((n0 : Nat) : Int) % (8 : Int) = ((n0 % 8 : Nat) : Int) := by omega
    rw [e]
    have lt : n0 % 8 < 8 := Nat.mod_lt _ (by decide)
    generalize n0 % 8 = j at lt
    have all : ∀ j : Fin 8, ∃ m : Nat, atI [PyData.int 2, .int 3, .int 4, .int 4, .int 5, .int 6, .int 1, .int 3] ((j.val : Nat) : Int) = some (.int (m : Nat)) ∧ 1 ≤ m ∧ m ≤ 6 := by
      intro j
      match j with
      | ⟨0, _⟩ => exact ⟨2, rfl, by decide, by decide⟩
      | ⟨1, _⟩ => exact ⟨3, rfl, by decide, by decide⟩
      | ⟨2, _⟩ => exact ⟨4, rfl, by decide, by decide⟩
      | ⟨3, _⟩ => exact ⟨4, rfl, by decide, by decide⟩
      | ⟨4, _⟩ => exact ⟨5, rfl, by decide, by decide⟩
      | ⟨5, _⟩ => exact ⟨6, rfl, by decide, by decide⟩
      | ⟨6, _⟩ => exact ⟨1, rfl, by decide, by decide⟩
      | ⟨7, _⟩ => exact ⟨3, rfl, by decide, by decide⟩
    exact all ⟨j, lt⟩
  obtain ⟨t, ht, t4⟩ : ∃ t : Nat, ((ns[1]'(by omega) : Nat) : Int) % 4 = (t : Nat) ∧ t < 4 := ⟨ns[1]'(by omega) % 4, by omega, Nat.mod_lt _ (by decide)⟩
  have t5 : (t : Int) ≤ 5000 := by omega
  simp! [F__law_attribute, MPS, a0, a1, hm, ht, t5]
  repeat' (refine And.intro (by omega) ?_)
  refine ev_forN (At3I ns m) ⟨m, [], none, none, none, none, none, rfl, rfl, rfl, m1, m6, Nat.le_refl _⟩ ?_ ?_
  · rintro i ρ so hi ⟨g, ss, y4, y5, y6, y7, y8, rfl, rfl, hst, g1, g6, hss⟩
    have hi : i < t := hi
    by_cases hg : (1 : Int) < (g : Int)
    · have a2 : atI (ns.map eN) (2 + (i : Int)) = some (.int (ns[2 + i]'(by omega) : Nat)) := by
        have e : (2 : Int) + (i : Int) = ((2 + i : Nat) : Int) := by omega
        rw [e]
        exact at_nat (by omega)
      have a5 : atI (ns.map eN) (5 + (i : Int)) = some (.int (ns[5 + i]'(by omega) : Nat)) := by
        have e : (5 : Int) + (i : Int) = ((5 + i : Nat) : Int) := by omega
        rw [e]
        exact at_nat (by omega)
      obtain ⟨q, hq⟩ : ∃ q : Nat, q = ns[5 + i]'(by omega) := ⟨_, rfl⟩
      rw [← hq] at a5
      obtain ⟨f, hf, f0, fg⟩ : ∃ f : Nat, (1 : Int) + ((ns[2 + i]'(by omega) : Nat) : Int) % ((g : Int) - 1) = (f : Nat) ∧ 0 < f ∧ f < g := by
        refine ⟨1 + ns[2 + i]'(by omega) % (g - 1), ?_, by omega, ?_⟩
        · have e : (g : Int) - 1 = ((g - 1 : Nat) : Int) := by omega
          rw [e]
          omega
        · have := Nat.mod_lt (ns[2 + i]'(by omega)) (show 0 < g - 1 by omega)
          omega
      obtain ⟨b, hb, bg⟩ : ∃ b : Nat, ((q : Nat) : Int) % (g : Int) = (b : Nat) ∧ b < g := ⟨q % g, by omega, Nat.mod_lt _ (by omega)⟩
      have g0 : (0 : Int) < (g : Int) - 1 := by omega
      have g0' : 0 < g := by omega
      have g5 : (g : Int) ≤ 5000 := by omega
      have e := fun (y7 : Option Sl) => lc_mapE (body := lcBody (.nm 8) bYes (eIf (bVal (eOp dLt (eVar 8) (eVar 5))) (eVar 8) (eOp dMod (eOp dAdd (eOp dMul (eVar 8) (eC (.int 7))) (eOp dIx (eVar 0) (eOp dAdd (eC (.int 5)) (eVar 4)))) (eVar 5)))
        [some (.d (.list (ns.map eN))), some (.d (.int m)), some (.o 0), some (.d (.int g)), some (.d (.int i)), some (.d (.int f)), some (.d (.int b)), y7, none]) (so := [.lst (ss.map eT)]) (xs := List.range g) eN (fun a => eN (if a < f then a else (a * 7 + q) % f)) fun a ha => by
        refine of_ev ?_
        have f0' : (0 : Int) < (f : Int) := by omega
        by_cases haf : a < f
        · simp! [MPS, lcBody, wipeS, eN, haf]
        · simp! [MPS, lcBody, wipeS, eN, haf, a5, f0]
      have er : (List.range g).map (fun a => eN (if a < f then a else (a * 7 + q) % f)) = (rowL g f q).map eN := by
        unfold rowL
        rw [List.map_map]
        rfl
      have lr : (rowL g f q).length = g := by unfold rowL; simp
      have l5 : (rowL g f q).length ≤ 5000 := by omega
      have c1 : cutD ((rowL g f q).map eN) (some (b : Int)) none = ((rowL g f q).drop b).map eN := by
        rw [cut_from3 _ b, List.map_drop]
      have c2 : cutD ((rowL g f q).map eN) none (some (b : Int)) = ((rowL g f q).take b).map eN := by
        rw [cut_to3 _ b, List.map_take]
      have c3 : g - b + min b g ≤ 5000 := by omega
      simp! [B__law_attribute_1, MPS, hg, a2, a5, hb, g0', g0, hf]
      refine ⟨by omega, ?_⟩
      rw [rangeD_eN]
      simp! [MPS, e, er, lr, c1, c2, -List.map_drop, -List.map_take, c3]
      have hok := rot_ok (q := q) (b := b) f0 fg
      have st2 := hst.snoc hok
      have tf : top1 (rotL b (rowL g f q)) = f := by
        obtain ⟨_, mm, m0, mg, hmm⟩ := hok
        have e1 : ∀ x, x ∈ rotL b (rowL g f q) ↔ x < f := (rot_mem f0 fg)
        exact top1_of f0 e1
      rw [tf] at st2
      refine ⟨by omega, by omega, f, ss ++ [rotL b (rowL g f q)], some (.d (.int i)), some (.d (.int f)), some (.d (.int b)), some (.d (.list ((rowL g f q).map eN))), y8, rfl, ?_, st2, by omega, by omega, by rw [List.length_append]; simp; omega⟩
      rw [List.map_append]
      unfold rotL
      rw [← List.map_append]
      rfl
    · simp! [B__law_attribute_1, MPS, hg]
      exact ⟨g, ss, _, _, _, _, _, rfl, rfl, hst, g1, g6, by omega⟩
  · rintro ρ so ⟨g, ss, y4, y5, y6, y7, y8, rfl, rfl, hst, g1, g6, hss⟩
    simp! [MPS]
    exact k (m, ss) ⟨m1, m6, by show ss.length ≤ 3; omega, hst.ok⟩
theorem cut_nat3 {xs : List PyData} {l h : Nat} (hl : l ≤ h) (h2 : h ≤ xs.length) : cutD xs (some (l : Int)) (some (h : Int)) = (xs.drop l).take (h - l) := by
  unfold cutD
  rw [HT.sIx_nat, HT.sIx_nat, Nat.min_eq_left h2, Nat.min_eq_left (show l ≤ xs.length by omega)]
def Sc3I (c : Int) (ds : List Nat) (i : Nat) (ρ : Slots) (so : Sto) : Prop :=
  ∃ (S : List Att) (y4 y5 : Option Sl), ρ = [some (.d (.int c)), some (.d (.list (ds.map eN))), some (.o 0), some (.d (.int (prodN (S.map (·.1)) : Nat))), y4, y5] ∧ so = [.lst (S.map eA)] ∧ (∀ a ∈ S, AttOk a) ∧ prodN (S.map (·.1)) ≤ 60 ∧ S.length ≤ i ∧ (1 ≤ i → 1 ≤ S.length)
/-- needs F__law_scheme -/
theorem ev_scheme3 {c : Int} {Q : PyData × Sto → Prop} (k : ∀ S : List Att, SchOk S → Q (eS S, [])) : Ev (F__law_scheme [.d (.int c)] []) Q := by
  obtain ⟨bs, hbs⟩ : ∃ bs : List Nat, bs = 3 :: List.replicate 24 60 := ⟨_, rfl⟩
  have eb : PyData.int 3 :: List.replicate 24 (PyData.int 60) = bs.map eN := by rw [hbs]; rfl
  have lb : bs.length = 25 := by rw [hbs]; rfl
  have bb : ∀ b ∈ bs, 0 < b ∧ b < 1000000 := by rw [hbs]; decide
  have e0 : dMul (.list [.int 60]) (.int 24) = some (.list (List.replicate 24 (.int 60))) := by rfl
  simp! [F__law_scheme, MPS, e0, -List.reduceReplicate]
  rw [eb]
  refine ev_draws3 bb (by omega) fun ds hB => ?_
  have l25 : ds.length = 25 := by rw [hB.1, lb]
  have at0 : atI (ds.map eN) 0 = some (.int (ds[0]'(by omega) : Nat)) := at_nat (ns := ds) (i := 0) (by omega)
  obtain ⟨n, hn, n3⟩ : ∃ n : Nat, n = ds[0]'(by omega) ∧ n < 3 := ⟨_, rfl, hB.2 0 3 _ (by rw [hbs]; rfl) (List.getElem?_eq_getElem (by omega))⟩
  rw [← hn] at at0
  have low : ∀ i d : Nat, 1 ≤ i → ds[i]? = some d → d < 60 := fun i d hi hd => by
    have hlt : i < 25 := by rw [← l25]; exact (List.getElem?_eq_some_iff.mp hd).1
    refine hB.2 i 60 d ?_ hd
    rw [hbs]
    obtain ⟨j, rfl⟩ : ∃ j, i = j + 1 := ⟨i - 1, by omega⟩
    rw [List.getElem?_cons_succ, List.getElem?_replicate, if_pos (by omega)]
  have e1 : ((1 : Int) + (n : Int)).toNat = 1 + n := by omega
  have b5 : (1 : Int) + (n : Int) ≤ 5000 := by omega
  have b4 : (-5000 : Int) ≤ 1 + (n : Int) := by omega
  simp! [MPS, at0, e1, b5, b4]
  refine ev_forN (Sc3I c ds) ⟨[], _, _, rfl, rfl, by simp, by decide, by simp, by omega⟩ ?_ ?_
  · rintro i ρ so hi ⟨S, y4, y5, rfl, rfl, hS, hp, hl, h1⟩
    have hi : i < 1 + n := hi
    have a1 : (1 : Int) + 8 * (i : Int) = ((1 + 8 * i : Nat) : Int) := by omega
    have a9 : (9 : Int) + 8 * (i : Int) = ((9 + 8 * i : Nat) : Int) := by omega
    have ec : cutD (ds.map eN) (some ((1 : Int) + 8 * (i : Int))) (some ((9 : Int) + 8 * (i : Int))) = ((ds.drop (1 + 8 * i)).take 8).map eN := by
      rw [a1, a9, cut_nat3 (by omega) (by rw [List.length_map]; omega), List.map_take, List.map_drop, show 9 + 8 * i - (1 + 8 * i) = 8 by omega]
    simp! [B__law_scheme_1, MPS, ec, -List.map_take, -List.map_drop]
    refine ev_attribute3 (by rw [List.length_take, List.length_drop]; omega) ?_ fun a ha => ?_
    · intro x hx
      have hx := List.mem_of_mem_take hx
      obtain ⟨j, hj⟩ := List.mem_iff_getElem?.mp hx
      rw [List.getElem?_drop] at hj
      exact low _ x (by omega) hj
    · have b2 : prodN (S.map (·.1)) < 18446744073709551616 := by omega
      have ea : (PyData.tuple [.int (a.1 : Nat), eSt a.2]) = eA a := rfl
      by_cases hm : ((prodN (S.map (·.1)) : Nat) : Int) * (a.1 : Int) ≤ 60
      · have ls : S.length < 5000 := by omega
        simp! [MPS, eA, eN, b2, hm, ls]
        refine ⟨S ++ [a], some (.d (.int i)), some (.d (.tuple [.int (a.1 : Nat), eSt a.2])), ?_, by rw [List.map_append]; rfl, ?_, ?_, by rw [List.length_append]; simp; omega, fun _ => by rw [List.length_append]; simp⟩
        · rw [List.map_append]
          show _ = [_, _, _, some (Sl.d (.int ((prodN (S.map (·.1) ++ [a.1]) : Nat) : Int))), _, _]
          rw [prodN_snoc2, Int.natCast_mul]
        · intro b hb
          rcases List.mem_append.mp hb with h | h
          · exact hS b h
          · rw [List.mem_singleton.mp h]; exact ha
        · rw [List.map_append]
          show prodN (S.map (·.1) ++ [a.1]) ≤ 60
          rw [prodN_snoc2]
          exact Int.ofNat_le.mp (by rw [Int.natCast_mul]; exact hm)
      · simp! [MPS, eA, eN, b2, hm]
        refine ⟨S, _, _, rfl, rfl, hS, hp, by omega, fun _ => ?_⟩
        cases S with
        | nil =>
          exfalso
          have : prodN (([] : List Att).map (·.1)) = 1 := rfl
          rw [this] at hm
          have := ha.2.1
          omega
        | cons => simp
  · rintro ρ so ⟨S, y4, y5, rfl, rfl, hS, hp, hl, h1⟩
    simp! [MPS]
    exact k S ⟨h1 (by omega), by omega, hS, hp⟩
end MP
namespace MP
open PySem L2 RL
/-! ### the third stage's own tuples, cells, rollups -/
def flatB (rs : List (List Nat)) (m : Nat) : List (List Nat) := rs.flatMap fun r => (List.range m).map fun x => r ++ [x]
def BelI (ns : List Nat) (i : Nat) (ρ : Slots) (so : Sto) : Prop :=
  ∃ (y2 y3 y4 y5 : Option Sl) (w : Own), ρ = [some (.d (.list (ns.map eN))), some (.d (.list ((tuplesN (ns.take i)).map eT))), y2, y3, y4, y5] ∧ so = [w] ∧ noO 0 y2 = true ∧ noO 0 y4 = true ∧ noO 0 y5 = true
def BwiI (ns : List Nat) (rs : List (List Nat)) (m : Nat) (j : Nat) (ρ : Slots) (so : Sto) : Prop :=
  ∃ (y4 y5 : Option Sl), ρ = [some (.d (.list (ns.map eN))), some (.d (.list (rs.map eT))), some (.d (.int m)), some (.o 0), y4, y5] ∧ so = [.lst ((flatB (rs.take j) m).map eT)] ∧ noO 0 y4 = true ∧ noO 0 y5 = true
theorem ok__law_below {ns : List Nat} (hns : ∀ n ∈ ns, 1 ≤ n ∧ n ≤ 100) (hpr : prodN ns ≤ 1000) (l100 : ns.length ≤ 100) : F__law_below [.d (.list (ns.map eN))] [] = some (.list ((tuplesN ns).map eT), []) := by
  have hpt : ∀ i, prodN (ns.take i) ≤ 1000 := fun i => Nat.le_trans (prod_take_le (fun n hn => (hns n hn).1) i) hpr
  refine of_ev ?_
  simp! [F__law_below, MPS]
  refine ev_for (BelI ns) ⟨none, none, none, none, .no, rfl, rfl, rfl, rfl, rfl⟩ ?_ ?_
  · rintro i d ρ so hd ⟨y2, y3, y4, y5, w, rfl, rfl, n2, n4, n5⟩
    obtain ⟨m, hm, rfl⟩ := get_map hd
    have hm1 := hns m (List.mem_of_getElem? hm)
    have pr1 : prodN (ns.take i) * m ≤ 1000 := by
      have := hpt (i + 1)
      rw [pre_take ns hm, prodN_snoc2] at this
      exact this
    have lt0 : (tuplesN (ns.take i)).length ≤ 1000 := by rw [tuplesN_len]; exact hpt i
    have esn : tuplesN (ns.take (i + 1)) = flatB (tuplesN (ns.take i)) m := by rw [pre_take ns hm, tuplesN_snoc]; rfl
    have len_c : ∀ c ∈ tuplesN (ns.take i), c.length ≤ 100 := fun c hc => by
      have := ((mem_tuplesN _ c).mp hc).1
      rw [this, List.length_take]
      omega
    have fl : (flatB (tuplesN (ns.take i)) m).length ≤ 1000 := by
      unfold flatB
      rw [flat_len, tuplesN_len]
      exact pr1
    have hG : BelI ns (i + 1) = fun ρ so => ∃ (y2 y3 y4 y5 : Option Sl) (w : Own), ρ = [some (.d (.list (ns.map eN))), some (.d (.list ((flatB (tuplesN (ns.take i)) m).map eT))), y2, y3, y4, y5] ∧ so = [w] ∧ noO 0 y2 = true ∧ noO 0 y4 = true ∧ noO 0 y5 = true := by
      funext ρ so
      unfold BelI
      rw [esn]
    have prs : (tuplesN (ns.take i)).length * m ≤ 1000 := by rw [tuplesN_len]; exact pr1
    generalize tuplesN (ns.take i) = rs at lt0 hG len_c fl prs
    simp! [B__law_below_2, MPS, n2, n4, n5, eN]
    refine ev_for (BwiI ns rs m) ⟨y4, y5, rfl, rfl, n4, n5⟩ ?_ ?_
    · rintro j d ρ so hd ⟨z4, z5, rfl, rfl, m4, m5⟩
      obtain ⟨row, hrow, rfl⟩ := get_map hd
      have lrow := len_c row (List.mem_of_getElem? hrow)
      have ef : (flatB (rs.take (j + 1)) m).map eT = (flatB (rs.take j) m).map eT ++ ((List.range m).map fun x => row ++ [x]).map eT := by
        unfold flatB
        rw [plain_flat j m hrow, List.map_append]
      have lf : ((flatB (rs.take j) m).map eT).length ≤ 1000 := by
        rw [List.length_map]
        unfold flatB
        rw [flat_len, List.length_take]
        exact Nat.le_trans (Nat.mul_le_mul_right m (Nat.min_le_right _ _)) prs
      generalize (flatB (rs.take j) m).map eT = acc at ef lf
      simp! [B__law_below_1, MPS, eT, wipeS]
      repeat' (refine And.intro (by omega) ?_)
      refine ev_lcAt (res := ((List.range m).map fun x => row ++ [x]).map eT) ?_ ?_ ?_
      · simp [rangeD]
      · intro q d y hd hy
        obtain ⟨hq, rfl⟩ := rangeD_get hd
        obtain ⟨c, hc, rfl⟩ := get_map hy
        rw [List.getElem?_map, List.getElem?_range hq] at hc
        have ec : row ++ [q] = c := Option.some.inj hc
        subst ec
        have b : row.length + 1 ≤ 5000 := by omega
        simp! [MPS, lcBody, b, eT, eN]
      · simp! [MPS]
        repeat' (refine And.intro (by omega) ?_)
        exact ⟨_, _, rfl, by rw [ef, List.map_map], rfl, m5⟩
    · rintro ρ so ⟨z4, z5, rfl, rfl, m4, m5⟩
      rw [List.length_map, List.take_length]
      simp! [MPS]
      rw [hG]
      exact ⟨_, _, _, _, _, rfl, rfl, rfl, m4, m5⟩
  · rintro ρ so ⟨y2, y3, y4, y5, w, rfl, rfl, n2, n4, n5⟩
    rw [List.length_map, List.take_length]
    simp! [MPS]
end MP
namespace MP
open PySem L2 RL
/-! ### all cells of the finest rollup -/
/-- needs F__law_fine_cells -/
theorem ok__law_fine_cells {S : List Att} (ok : SchOk S) : F__law_fine_cells [.d (eS S)] [] = some (.list ((tuplesN (S.map (·.1))).map eT), []) := by
  have s3 := ok.2.1
  have e := lc_mapE (body := lcBody (.nm 1) bYes (eOp dIx (eVar 1) (eC (.int 0))) [some (.d (eS S)), none]) (so := []) (xs := S) eA (fun a => eN a.1) fun a ha => by
    refine of_ev ?_
    simp! [MPS, lcBody, eA, eN, eSt]
  have e2 : S.map (fun a => eN a.1) = (S.map (·.1)).map eN := by rw [List.map_map]; rfl
  rw [e2] at e
  have l5 : S.length ≤ 5000 := by omega
  have h6 : ∀ n ∈ S.map (·.1), 1 ≤ n ∧ n ≤ 6 := fun n hn => by
    obtain ⟨a, ha, rfl⟩ := List.mem_map.mp hn
    exact ⟨(ok.2.2.1 a ha).1, (ok.2.2.1 a ha).2.1⟩
  have hp : prodN (S.map (·.1)) ≤ 1000 := by have := ok.2.2.2; omega
  have eb := ok__law_below (ns := S.map (·.1)) (fun n hn => by have := h6 n hn; omega) hp (by rw [List.length_map]; omega)
  refine of_ev ?_
  unfold eS at e
  simp! [F__law_fine_cells, MPS, eS, e, l5]
  simp only [List.map_map] at eb
  simp! [MPS, eb]
end MP
namespace MP
open PySem L2 RL
/-! ### what is said; texts that are the same -/
/-- needs saidL__law_said -/
theorem said_all {Q : Str → Str → Prop} (h : ∀ p ∈ saidL__law_said, Q p.1 p.2) : ∀ n y, saidT__law_said n = some y → Q n y := fun n y e => h (n, y) (PySem.mem_of_lookup e)
theorem said_val : ∀ (n y : Str) (a : Addr), saidT__law_said n = some y → fs__law_said n a ((List.replicate 4 none).set 1 (some (.x (.e a)))) [] = some (.rt (.str y), []) := by
  intro n y a h
  revert a
  refine said_all (Q := fun n y => ∀ a : Addr, fs__law_said n a ((List.replicate 4 none).set 1 (some (.x (.e a)))) [] = some (.rt (.str y), [])) ?_ n y h
  intro p hp a
  refine of_ev ?_
  simp only [saidL__law_said, List.mem_cons, List.not_mem_nil, or_false] at hp
  repeat' (rcases hp with rfl | hp)
  all_goals (try subst hp)
  all_goals (
    simp! [fs__law_said, MPS, eIsE]
    refine ev_of rfl ?_
    simp! [MPS]
    refine ev_of rfl ?_
    simp! [MPS])
end MP
namespace MP
open PySem PySem.Spec PyProof.Rows L2 RL
/-! ### cubes as data, what they tell -/
def cubA (S : List Att) (st : List (List Int)) : PyData := insD "Cube" [(Str.ofString "attributes", eS S)] (st.map eI)
theorem isIns_cub {S : List Att} {st : List (List Int)} : isIns (Str.ofString "Cube") (cubA S st) = true := by unfold cubA insD isIns; exact decide_eq_true rfl
theorem insOf_cub {S : List Att} {st : List (List Int)} {r : Slots} : insOf 0 (some (.d (cubA S st)) :: r) = some (Str.ofString "Cube", [(.str (Str.ofString "attributes"), eS S)], .fz (st.map eI)) := rfl
theorem statesOf_fz {so : Sto} {ds : List PyData} : statesOf so (.fz ds) = some ds := rfl
theorem atD1_int {ds : List PyData} {n : Int} : atD1 ds (.int n) = atI ds n := rfl
theorem atI_last (xs : List PyData) (x : PyData) : atI (xs ++ [x]) (-1) = some x := by
  have e : ixN (xs ++ [x]).length (-1) = some xs.length := by
    rw [List.length_append]
    unfold ixN
    simp
    constructor <;> omega
  unfold atI
  rw [e]
  simp
theorem atGet_attr {x : PyData} : atGet (Str.ofString "attributes") [(.str (Str.ofString "attributes"), x)] = some x := if_pos rfl
theorem isAtr_attr : isAtr (Str.ofString "attributes") = true := by decide
theorem cub_last {init : List (List Int)} {xs : List Int} : atI ((init ++ [xs]).map eI) (-1) = some (eI xs) := by rw [List.map_append]; exact atI_last _ _
section
variable {S : List Att} {init : List (List Int)} {xs : List Int}
/-- needs F_Cube_scheme -/
theorem cu_scheme {st : List (List Int)} : F_Cube_scheme [.d (cubA S st)] [] = some (eS S, []) := by
  refine of_ev ?_
  simp! [F_Cube_scheme, MPS, eFldI, insOf_cub, atGet_attr, isAtr_attr]
/-- needs F_Cube_table -/
theorem cu_table : F_Cube_table [.d (cubA S (init ++ [xs]))] [] = some (eI xs, []) := by
  have l := cub_last (init := init) (xs := xs)
  refine of_ev ?_
  simp! [F_Cube_table, MPS, eStI, insOf_cub, statesOf_fz, atD1_int, l, -List.map_append]
/-- needs F_Cube_total -/
theorem cu_total : F_Cube_total [.d (cubA S (init ++ [xs]))] [] = some (.int xs.sum, []) := by
  have l := cub_last (init := init) (xs := xs)
  have g := gSum_ints xs
  have e : PyData.tuple (xs.map .int) = eI xs := rfl
  rw [e] at g
  refine of_ev ?_
  simp! [F_Cube_total, MPS, eStI, insOf_cub, statesOf_fz, atD1_int, l, g, -List.map_append]
/-- needs F_Cube_changes -/
theorem cu_changes : F_Cube_changes [.d (cubA S (init ++ [xs]))] [] = some (.int (init.length : Nat), []) := by
  refine of_ev ?_
  have e : ((init.length : Nat) : Int) + 1 - 1 = (init.length : Nat) := by omega
  simp! [F_Cube_changes, MPS, eLenSt, insOf_cub, statesOf_fz, e]
def nzN (xs : List Int) : Nat := (xs.filter fun x => decide (x ≠ 0)).length
theorem nz_le (xs : List Int) : nzN xs ≤ xs.length := List.length_filter_le _ _
theorem nz_lc {i : Nat} {ρ0 : Slots} (hr : i < ρ0.length) (hl : xs.length ≤ 5000) : lcGo (lcBody (.nm i) (bVal (eOp dNe (eVar i) (eC (.int 0)))) (eVar i) ρ0) (xs.map .int) [] = some ((xs.filter fun x => decide (x ≠ 0)).map .int, []) := by
  have step : ∀ x : Int, lcBody (.nm i) (bVal (eOp dNe (eVar i) (eC (.int 0)))) (eVar i) ρ0 (.int x) [] = some (if x ≠ 0 then [.int x] else [], []) := by
    intro x
    refine of_ev ?_
    have g : (ρ0.set i (some (.d (.int x))))[i]? = some (some (.d (.int x))) := List.getElem?_set_self hr
    by_cases h : x = 0
    · subst h
      simp! [lcBody, MPS, g]
    · simp! [lcBody, MPS, g, h]
  induction xs with
  | nil => rfl
  | cons x xs ih =>
    have ih := ih (by rw [List.length_cons] at hl; omega)
    rw [List.map_cons]
    show (lcBody (.nm i) (bVal (eOp dNe (eVar i) (eC (.int 0)))) (eVar i) ρ0 (.int x) []).bind _ = _
    rw [step]
    show (lcGo _ (xs.map .int) []).bind _ = _
    rw [ih, List.filter_cons]
    by_cases h : x = 0
    · simp [h]
    · simp [h]
/-- needs F_Cube_len -/
theorem cu_len (h : xs.length ≤ 5000) : F_Cube_len [.d (cubA S (init ++ [xs]))] [] = some (.int (nzN xs : Nat), []) := by
  have l := cub_last (init := init) (xs := xs)
  have e := nz_lc (xs := xs) (i := 1) (ρ0 := [some (.d (cubA S (init ++ [xs]))), none]) (by show 1 < 2; decide) h
  have ex : eI xs = .tuple (xs.map .int) := rfl
  have hn := nz_le xs
  have h5 : (xs.filter fun x => decide (x ≠ 0)).length ≤ 5000 := by have : (xs.filter fun x => decide (x ≠ 0)).length = nzN xs := rfl; omega
  refine of_ev ?_
  rw [ex] at l
  simp only [decide_not] at e h5
  simp! [F_Cube_len, MPS, eStI, insOf_cub, statesOf_fz, atD1_int, l, e, h5, -List.map_append]
  unfold nzN
  simp
/-- needs F_written -/
theorem written_any {i : Int} (h : i.natAbs < 18446744073709551616) : F_written [.d (.int i)] [] = some (.str (Str.ofString (toString i)), []) := by
  have g : gStrI [.int i] = some (.str (Str.ofString (toString i))) := if_pos (by have := log_small (i := i) h; omega)
  have key : ∀ P : Int, -P < i → i < P → fDef 1 5 0 1 (sSeq (sIf (bVal (eChain dLt dLt (eUn dNeg (eC (.int P))) (eVar 0) (eC (.int P)))) (sRet (eCall gStrI (aCons (eVar 0) aNil))) sNext) sNone) [.d (.int i)] [] = some (.str (Str.ofString (toString i)), []) := fun P h1 h2 => by
    refine of_ev ?_
    simp! [MPS, h1, h2, g]
  have h1 : -18446744073709551616 < i := by omega
  have h2 : i < 18446744073709551616 := by omega
  exact key _ (Int.lt_of_le_of_lt (by decide +kernel) h1) (Int.lt_trans h2 (by decide +kernel))
theorem callI_cub {G : FD} {st : List (List Int)} {r : Slots} {so : Sto} : callI G 0 [] (some (.d (cubA S st)) :: r) so = (G [.d (cubA S st)] []).map fun q => (q.1, so) := rfl
/-- what is shown of a cube -/
def cubT (n tot : Int) : Str := (((Str.ofString "Cube(" ++ Str.ofString (toString n)) ++ Str.ofString " cells, total ") ++ Str.ofString (toString tot)) ++ Str.ofString ")"
theorem cat_len (x y : Str) : (x ++ y).length = x.length + y.length := by rw [TL.len_tl, TL.tl_append, List.length_append, ← TL.len_tl, ← TL.len_tl]
theorem empty_app (x : Str) : Str.empty ++ x = x := TL.ext_tl (by rw [TL.tl_append]; rfl)
theorem joins_step {f : DE} {fs : List DE} {acc y : Str} {ρ : Slots} {so : Sto} (h : f ρ so = some (.str y, so)) (hl : (acc ++ y).length ≤ LIMS) : eJoins (f :: fs) acc ρ so = eJoins fs (acc ++ y) ρ so := by
  show (f ρ so).bind _ = _
  rw [h]
  exact if_pos hl
theorem fmtU_int {f : DE} {ρ : Slots} {so : Sto} {i : Int} (h : f ρ so = some (.int i, so)) (hi : i.natAbs < 18446744073709551616) : eFmtU f ρ so = some (.str (Str.ofString (toString i)), so) := by
  show (f ρ so).bind _ = _
  rw [h]
  show ((if i.natAbs.log2 < 1920 then some (PyData.str (Str.ofString (toString i))) else none).map fun d => (d, so)) = _
  rw [if_pos (by have := log_small (i := i) hi; omega)]
  rfl
theorem fmtU_str {f : DE} {ρ : Slots} {so : Sto} {y : Str} (h : f ρ so = some (.str y, so)) (hl : y.length ≤ 1000) : eFmtU f ρ so = some (.str y, so) := by
  show (f ρ so).bind _ = _
  rw [h]
  show ((if y.length ≤ LIMS then some (PyData.str y) else none).map fun d => (d, so)) = _
  rw [if_pos (Nat.le_trans hl (by decide))]
  rfl
theorem num_len {i : Int} (h : i.natAbs < 18446744073709551616) : (Str.ofString (toString i)).length ≤ 66 := by
  have := log_small (i := i) h
  have := str_len i
  omega
theorem cubT_len {n tot : Int} (h1 : n.natAbs < 18446744073709551616) (h2 : tot.natAbs < 18446744073709551616) : (cubT n tot).length ≤ 200 := by
  have l1 := num_len h1
  have l2 := num_len h2
  unfold cubT
  have a1 : (Str.ofString "Cube(").length = 5 := by decide
  have a2 : (Str.ofString " cells, total ").length = 14 := by decide
  have a3 : (Str.ofString ")").length = 1 := by decide
  rw [cat_len, cat_len, cat_len, cat_len, a1, a2, a3]
  omega
def goI (r : Option (PyData × Sto)) : Option (PyData × Sto) := r.bind fun r => match r.1 with
  | .int n => if 0 ≤ n ∧ n < 2 ^ 63 then some (.int n, r.2) else none
  | _ => none
theorem goI_int {so : Sto} {n : Int} (c : 0 ≤ n ∧ n < 2 ^ 63) : goI (some (.int n, so)) = some (.int n, so) := if_pos c
theorem len_cub {G : FD} {n : Int} {st : List (List Int)} (c : 0 ≤ n ∧ n < 2 ^ 63) (e : G [.d (cubA S st)] [] = some (.int n, [])) : eLenI "Cube" G 0 [some (.d (cubA S st))] [] = some (.int n, []) := by
  have e1 : eLenI "Cube" G 0 [some (.d (cubA S st))] [] = goI ((G [.d (cubA S st)] []).map fun q => (q.1, [])) := rfl
  rw [e1, e]
  exact goI_int c
theorem nz63 (h : xs.length ≤ 5000) : (0 : Int) ≤ ((nzN xs : Nat) : Int) ∧ ((nzN xs : Nat) : Int) < 2 ^ 63 := by
  have hn := nz_le xs
  have e63 : (2 : Int) ^ 63 = 9223372036854775808 := by decide
  rw [e63]
  exact ⟨by omega, by omega⟩
/-- needs F_Cube_len -/
theorem cu_gl (h : xs.length ≤ 5000) : eLenI "Cube" F_Cube_len 0 [some (.d (cubA S (init ++ [xs])))] [] = some (.int (nzN xs : Nat), []) := len_cub (nz63 h) (cu_len h)
/-- needs F_written F_Cube_total -/
theorem cu_gt (hs : xs.sum.natAbs < 18446744073709551616) : fCall0 F_written (aCons (eProp "Cube" "total" F_Cube_total 0) aNil) [some (.d (cubA S (init ++ [xs])))] [] = some (.str (Str.ofString (toString xs.sum)), []) := by
  have e2 := cu_total (S := S) (init := init) (xs := xs)
  have e3 := written_any hs
  have ep : eProp "Cube" "total" F_Cube_total 0 [some (.d (cubA S (init ++ [xs])))] [] = some (.int xs.sum, []) := by
    unfold eProp
    simp only [insOf_cub, callI_cub, e2, Option.bind_some, Option.map_some, if_true]
  unfold fCall0 aCons aNil
  simp only [ep, e3, Option.bind_some, Option.map_some, List.map_cons, List.map_nil]
theorem joins5 {f1 f2 : DE} {ρ : Slots} {so : Sto} {a b c y1 y2 : Str} (e1 : eFmtU f1 ρ so = some (.str y1, so)) (e2 : eFmtU f2 ρ so = some (.str y2, so)) (hl : ((((a ++ y1) ++ b) ++ y2) ++ c).length ≤ LIMS) :
    eJoins [eC (.str a), eFmtU f1, eC (.str b), eFmtU f2, eC (.str c)] Str.empty ρ so = some (.str ((((a ++ y1) ++ b) ++ y2) ++ c), so) := by
  rw [cat_len, cat_len, cat_len, cat_len] at hl
  rw [joins_step (y := a) rfl (by rw [empty_app]; omega), empty_app, joins_step e1 (by rw [cat_len]; omega), joins_step (y := b) rfl (by rw [cat_len, cat_len]; omega), joins_step e2 (by rw [cat_len, cat_len, cat_len]; omega), joins_step (y := c) rfl (by rw [cat_len, cat_len, cat_len, cat_len]; omega)]
  rfl
/-- needs F_Cube_repr -/
theorem cu_repr (h : xs.length ≤ 5000) (hs : xs.sum.natAbs < 18446744073709551616) : F_Cube_repr [.d (cubA S (init ++ [xs]))] [] = some (.str (cubT (nzN xs : Nat) xs.sum), []) := by
  have hn := nz_le xs
  have n64 : ((nzN xs : Nat) : Int).natAbs < 18446744073709551616 := by omega
  have tl := cubT_len n64 hs
  have l2 := num_len hs
  have lL : (200 : Nat) ≤ LIMS := by decide
  have full := joins5 (a := Str.ofString "Cube(") (b := Str.ofString " cells, total ") (c := Str.ofString ")") (fmtU_int (cu_gl (S := S) (init := init) h) n64) (fmtU_str (cu_gt (S := S) (init := init) hs) (by omega)) (Nat.le_trans tl lL)
  have ed : F_Cube_repr = fDef 1 1 0 0 (sRet (eJoins [eC (.str (Str.ofString "Cube(")), eFmtU (eLenI "Cube" F_Cube_len 0), eC (.str (Str.ofString " cells, total ")), eFmtU (fCall0 F_written (aCons (eProp "Cube" "total" F_Cube_total 0) aNil)), eC (.str (Str.ofString ")"))] Str.empty)) := rfl
  have go : ∀ (f : DE) (d : PyData) (x : Sl), f [some x] [] = some (d, []) → fDef 1 1 0 0 (sRet f) [x] [] = some (d, []) := fun f d x e => by
    refine of_ev ?_
    simp! [MPS]
    refine ev_of e ?_
    rfl
  rw [ed]
  exact go _ _ _ full
/-- needs RepT F_Cube_repr -/
theorem cu_fits (h : xs.length ≤ 5000) (hs : xs.sum.natAbs < 18446744073709551616) : fitsR RepT (cubA S (init ++ [xs])) = some (cubT (nzN xs : Nat) xs.sum) := by
  have hn := nz_le xs
  have n64 : ((nzN xs : Nat) : Int).natAbs < 18446744073709551616 := by omega
  have e := cu_repr (S := S) (init := init) h hs
  have tl := cubT_len n64 hs
  have es : shw RepT (cubA S (init ++ [xs])) = some (cubT (nzN xs : Nat) xs.sum) := by
    show shwI RepT (Str.ofString "Cube") (cubA S (init ++ [xs])) = _
    unfold shwI
    have er : RepT (Str.ofString "Cube") = some F_Cube_repr := by rfl
    rw [er]
    show (match F_Cube_repr [.d (cubA S (init ++ [xs]))] [] with | some (.str t, _) => some t | _ => none) = _
    rw [e]
  have ed : dpt (cubA S (init ++ [xs])) = 1 := dpt_insD _ _ _
  unfold fitsR
  rw [if_pos (by omega), es]
  show (if _ then _ else _) = _
  rw [if_pos (by omega)]
/-! #### the same, told twice -/
def toldD (S : List Att) (xs : List Int) (n : Nat) : PyData := .tuple [eS S, eI xs, .int xs.sum, .int (n : Nat), .int (nzN xs : Nat), .str (cubT (nzN xs : Nat) xs.sum)]
theorem told_gen {G1 G2 G3 G4 G5 : FD} {R : Rep} {cb d1 d2 d3 d4 : PyData} {n : Int} {T : Str} (hc : isIns (Str.ofString "Cube") cb = true) (e1 : G1 [.d cb] [] = some (d1, [])) (e2 : G2 [.d cb] [] = some (d2, [])) (e3 : G3 [.d cb] [] = some (d3, [])) (e4 : G4 [.d cb] [] = some (d4, []))
    (hn : 0 ≤ n ∧ n < 2 ^ 63) (e5 : G5 [.d cb] [] = some (.int n, [])) (e6 : fitsR R cb = some T) :
    fDef 1 1 0 0 (sRet (eTup (aCons (ePropE "Cube" G1 (eVar 0)) (aCons (ePropE "Cube" G2 (eVar 0)) (aCons (ePropE "Cube" G3 (eVar 0)) (aCons (ePropE "Cube" G4 (eVar 0)) (aCons (eLenE "Cube" G5 (eVar 0)) (aCons (eRepr R (eVar 0)) aNil)))))))) [.d cb] [] = some (.tuple [d1, d2, d3, d4, .int n, .str T], []) := by
  have lg : lenGo [] (.int n) = some (.int n, []) := if_pos hn
  refine of_ev ?_
  simp! [MPS, hc, e1, e2, e3, e4, e5, e6, lg]
/-- needs F__law_told -/
theorem cu_told (h : xs.length ≤ 5000) (hs : xs.sum.natAbs < 18446744073709551616) : F__law_told [.d (cubA S (init ++ [xs]))] [] = some (toldD S xs init.length, []) :=
  told_gen isIns_cub cu_scheme cu_table cu_total cu_changes (nz63 h) (cu_len h) (cu_fits h hs)
/-- needs F__law_due -/
theorem cu_due {n : Nat} (h : xs.length ≤ 5000) (hs : xs.sum.natAbs < 18446744073709551616) : F__law_due [.d (eS S), .d (eI xs), .d (.int (n : Nat))] [] = some (toldD S xs n, []) := by
  have hn := nz_le xs
  have n64 : ((nzN xs : Nat) : Int).natAbs < 18446744073709551616 := by omega
  have e := nz_lc (xs := xs) (i := 5) (ρ0 := [some (.d (eS S)), some (.d (eI xs)), some (.d (.int (n : Nat))), none, none, none]) (by show 5 < 6; decide) h
  have ex : eI xs = .tuple (xs.map .int) := rfl
  have h5 : (xs.filter fun x => decide (x ≠ 0)).length ≤ 5000 := by have : (xs.filter fun x => decide (x ≠ 0)).length = nzN xs := rfl; omega
  have g := gSum_ints xs
  have tl := cubT_len n64 hs
  unfold cubT at tl
  rw [cat_len, cat_len, cat_len, cat_len] at tl
  have g1 : gStrI [.int (nzN xs : Nat)] = some (.str (Str.ofString (toString ((nzN xs : Nat) : Int)))) := if_pos (by have := log_small (i := ((nzN xs : Nat) : Int)) n64; omega)
  have g2 : gStrI [.int xs.sum] = some (.str (Str.ofString (toString xs.sum))) := if_pos (by have := log_small (i := xs.sum) hs; omega)
  have key : ∀ s1 s2 s3 t1 t2 : Str, s1.length + t1.length + s2.length + t2.length + s3.length ≤ 200 → gStrI [.int (nzN xs : Nat)] = some (.str t1) → gStrI [.int xs.sum] = some (.str t2) →
      fDef 3 6 0 0 (sSeq (sSet (.nm 3) (eCall gLen (aCons (eOfN (nLc [5] (.nm 5) (iSeq (eVar 1)) (bVal (eOp dNe (eVar 5) (eC (.int 0)))) (eVar 5))) aNil)))
        (sSeq (sSet (.nm 4) (eOp dAdd (eOp dAdd (eOp dAdd (eOp dAdd (eC (.str s1)) (eCall gStrI (aCons (eVar 3) aNil))) (eC (.str s2))) (eCall gStrI (aCons (eCall gSum (aCons (eVar 1) aNil)) aNil))) (eC (.str s3))))
        (sRet (eTup (aCons (eVar 0) (aCons (eVar 1) (aCons (eCall gSum (aCons (eVar 1) aNil)) (aCons (eVar 2) (aCons (eVar 3) (aCons (eVar 4) aNil)))))))))) [.d (eS S), .d (eI xs), .d (.int (n : Nat))] [] = some (.tuple [eS S, eI xs, .int xs.sum, .int (n : Nat), .int (nzN xs : Nat), .str ((((s1 ++ t1) ++ s2) ++ t2) ++ s3)], []) := fun s1 s2 s3 t1 t2 hl k1 k2 => by
    have d1 := dAdd_txt (x := s1) (y := t1) (by omega)
    have d2 := dAdd_txt (x := s1 ++ t1) (y := s2) (by rw [cat_len]; omega)
    have d3 := dAdd_txt (x := s1 ++ t1 ++ s2) (y := t2) (by rw [cat_len, cat_len]; omega)
    have d4 := dAdd_txt (x := s1 ++ t1 ++ s2 ++ t2) (y := s3) (by rw [cat_len, cat_len, cat_len]; omega)
    have nl : (xs.filter fun x => decide (x ≠ 0)).length = nzN xs := rfl
    obtain ⟨N, hN⟩ : ∃ N, N = nzN xs := ⟨_, rfl⟩
    have n5 : N ≤ 5000 := by omega
    rw [← hN] at k1 nl ⊢
    simp only [decide_not] at e h5 nl
    rw [ex] at e ⊢
    obtain ⟨L, hL⟩ : ∃ L, L = xs.map PyData.int := ⟨_, rfl⟩
    rw [← hL] at e g ⊢
    refine of_ev ?_
    simp! [MPS, e, h5, n5, nl, g, k1, k2, d1, d2, d3, d4]
  exact key _ _ _ _ _ (by omega) g1 g2
end
end MP
namespace MP
open PySem PySem.Spec PyProof.Rows L2 RL
/-! ### the same twice, texts among it -/
theorem steps_len : ∀ {ss : List (List Nat)} {b : Nat}, StepsOk b ss → b ≤ 6 → ∀ s ∈ ss, s.length ≤ 6
  | [], _, _, _, s, h => by cases h
  | t :: r, b, h, hb, s, hs => by
    obtain ⟨h1, h2⟩ := h
    obtain ⟨hl, m, m0, mb, hm⟩ := h1
    rcases List.mem_cons.mp hs with rfl | hs
    · omega
    · have e := top1_of m0 hm
      rw [e] at h2
      exact steps_len h2 (by omega) s hs
def Flat2 : Nat → PyData → Prop
  | 0, _ => False
  | n + 1, d => d = .none ∨ (∃ b, d = .bool b) ∨ (∃ i, d = .int i) ∨ (∃ x, d = .str x) ∨ ∃ ds, d = .tuple ds ∧ ds.length ≤ 5000 ∧ ∀ x ∈ ds, Flat2 n x
theorem fl_int {n : Nat} (i : Int) : Flat2 (n + 1) (.int i) := .inr (.inr (.inl ⟨i, rfl⟩))
theorem fl_str {n : Nat} (x : Str) : Flat2 (n + 1) (.str x) := .inr (.inr (.inr (.inl ⟨x, rfl⟩)))
theorem fl_tup {n : Nat} {ds : List PyData} (hl : ds.length ≤ 5000) (h : ∀ x ∈ ds, Flat2 n x) : Flat2 (n + 1) (.tuple ds) := .inr (.inr (.inr (.inr ⟨ds, rfl, hl, h⟩)))
theorem fl_ints {n : Nat} {xs : List Int} (h : xs.length ≤ 5000) : Flat2 (n + 2) (eI xs) := fl_tup (by rw [List.length_map]; exact h) fun x hx => by
  obtain ⟨i, _, rfl⟩ := List.mem_map.mp hx
  exact fl_int i
theorem fl_eT {n : Nat} {s : List Nat} (h : s.length ≤ 5000) : Flat2 (n + 2) (eT s) := fl_tup (by rw [List.length_map]; exact h) fun x hx => by
  obtain ⟨i, _, rfl⟩ := List.mem_map.mp hx
  exact fl_int _
theorem fl_scheme {n : Nat} {S : List Att} (ok : SchOk S) : Flat2 (n + 5) (eS S) := by
  refine fl_tup (by rw [List.length_map]; have := ok.2.1; omega) fun x hx => ?_
  obtain ⟨a, ha, rfl⟩ := List.mem_map.mp hx
  have oa := ok.2.2.1 a ha
  refine fl_tup (by show 2 ≤ 5000; decide) fun y hy => ?_
  rcases List.mem_cons.mp hy with rfl | hy
  · exact fl_int _
  · rw [List.mem_singleton.mp hy]
    refine fl_tup (by rw [List.length_map]; have := oa.2.2.1; omega) fun z hz => ?_
    obtain ⟨s, hs, rfl⟩ := List.mem_map.mp hz
    exact fl_eT (by have := steps_len oa.2.2.2 oa.2.1 s hs; omega)
theorem s2_nn : same1 .none .none = true := rfl
theorem s2_ni (i : Int) : same1 (.int i) .none = false := rfl
theorem s2_nb (i : Bool) : same1 (.bool i) .none = false := rfl
theorem s2_ns (i : Str) : same1 (.str i) .none = false := rfl
theorem s2T_n : PyData.none.isTuple = false := rfl
theorem s2T_i (i : Int) : (PyData.int i).isTuple = false := rfl
theorem s2T_b (i : Bool) : (PyData.bool i).isTuple = false := rfl
theorem s2T_s (i : Str) : (PyData.str i).isTuple = false := rfl
theorem s2T_t (ds : List PyData) : (PyData.tuple ds).isTuple = true := rfl
theorem s2S_i (i : Int) : (PyData.int i).isStr = false := rfl
theorem s2S_b (i : Bool) : (PyData.bool i).isStr = false := rfl
theorem s2S_s (i : Str) : (PyData.str i).isStr = true := rfl
theorem s2B_i (i : Int) : (PyData.int i).isBool = false := rfl
theorem s2B_b (i : Bool) : (PyData.bool i).isBool = true := rfl
theorem s2I_i (i : Int) : (PyData.int i).isInt = true := rfl
theorem s2I_b (i : Bool) : (PyData.bool i).isInt = true := rfl
theorem s2A_b (d : PyData) : isA "bool" d = some d.isBool := rfl
theorem s2N_b (a b : Bool) : dNe (.bool a) (.bool b) = some (.bool (!(a == b))) := by cases a <;> cases b <;> rfl
theorem s2E_b (a b : Bool) : dEq (.bool a) (.bool b) = some (.bool (a == b)) := by cases a <;> cases b <;> rfl
theorem s2all (n : Nat) : gAll [.list (List.replicate n (.bool true))] = some (.bool true) := by
  have p : PyData.plainAll (List.replicate n (.bool true)) = true := by
    induction n with
    | zero => rfl
    | succ n ih => exact ih
  have q : (List.replicate n (PyData.bool true)).all fits63b = true := by
    clear p
    induction n with
    | zero => rfl
    | succ n ih => rw [List.replicate_succ, List.all_cons, ih]; rfl
  have r : (List.replicate n (PyData.bool true)).all PyData.truthy = true := by
    rw [List.all_replicate]
    cases n <;> rfl
  show (if (PyData.plainAll (List.replicate n (.bool true)) && (List.replicate n (PyData.bool true)).all fits63b) = true then some (PyData.bool ((List.replicate n (PyData.bool true)).all PyData.truthy)) else none) = _
  rw [p, q, r]
  rfl
/-- needs F__law_is_same -/
theorem same2 : ∀ (n : Nat) (d : PyData), Flat2 n d → F__law_is_same n [.d d, .d d] [] = some (.bool true, [])
  | 0, _, h => h.elim
  | n + 1, d, h => by
    refine of_ev ?_
    rcases h with rfl | ⟨b, rfl⟩ | ⟨i, rfl⟩ | ⟨x, rfl⟩ | ⟨ds, rfl, hl, hx⟩
    · simp! [F__law_is_same, MPS, s2T_n, s2_nn]
    · simp! [F__law_is_same, MPS, s2T_b, s2S_b, s2B_b, s2I_b, s2_nb, s2A_b, s2N_b, s2E_b]
    · simp! [F__law_is_same, MPS, s2T_i, s2S_i, s2B_i, s2I_i, s2_ni, s2A_b, s2N_b]
    · simp! [F__law_is_same, MPS, s2T_s, s2S_s, s2_ns, dEq_strs]
    · have e := lc_mapE (body := lcBody (.nm 2) bYes (fCall0 (F__law_is_same n) (aCons (eOp dIx (eVar 0) (eVar 2)) (aCons (eOp dIx (eVar 1) (eVar 2)) aNil))) [some (.d (.tuple ds)), some (.d (.tuple ds)), none]) (so := []) (xs := List.range ds.length) eN (fun _ => .bool true) fun j hj => by
        refine of_ev ?_
        have hj := List.mem_range.mp hj
        have at1 : atI ds (j : Int) = some ds[j] := by
          unfold atI
          rw [ixN_nat hj]
          exact List.getElem?_eq_getElem hj
        have ih := same2 n ds[j] (hx _ (List.getElem_mem hj))
        simp! [MPS, lcBody, eN, at1, ih]
      have e2 : (List.range ds.length).map (fun _ => PyData.bool true) = List.replicate ds.length (.bool true) := by rw [List.map_const', List.length_range]
      have hl2 : (ds.length : Int) ≤ 5000 := by omega
      rw [e2] at e
      simp! [F__law_is_same, MPS, s2T_t, hl2]
      rw [rangeD_eN]
      simp! [MPS, e, hl, s2all]
theorem fl_told {n m : Nat} {S : List Att} {xs : List Int} (ok : SchOk S) (h : xs.length ≤ 5000) : Flat2 (n + 6) (toldD S xs m) := by
  unfold toldD
  refine fl_tup (by show 6 ≤ 5000; decide) fun x hx => ?_
  simp only [List.mem_cons, List.not_mem_nil, or_false] at hx
  rcases hx with rfl | rfl | rfl | rfl | rfl | rfl
  · exact fl_scheme ok
  · exact fl_ints h
  · exact fl_int _
  · exact fl_int _
  · exact fl_int _
  · exact fl_str _
/-! ### the law's tables -/
theorem dMul_oneL {x : PyData} {k : Nat} (h : k ≤ 1000) : dMul (.list [x]) (.int (k : Nat)) = some (.list (List.replicate k x)) := by
  have hc : 0 ≤ ((k : Nat) : Int) ∧ ((k : Nat) : Int) ≤ 1000 ∧ [x].length * ((k : Nat) : Int).toNat ≤ LIM := by
    refine ⟨by omega, by omega, ?_⟩
    rw [Int.toNat_natCast, List.length_singleton, Nat.one_mul]
    exact Nat.le_trans h (by decide)
  have e : (if 0 ≤ ((k : Nat) : Int) ∧ ((k : Nat) : Int) ≤ 1000 ∧ [x].length * ((k : Nat) : Int).toNat ≤ LIM then some (PyData.list (List.replicate ((k : Nat) : Int).toNat [x]).flatten) else none) = some (.list (List.replicate k x)) := by
    rw [if_pos hc, Int.toNat_natCast, flat_rep]
  exact e
def TabOk (S : List Att) (m : Nat) (xs : List Int) : Prop := xs.length = prodN (S.map (·.1)) ∧ ∀ x ∈ xs, x.natAbs ≤ m
theorem TabOk.few {S : List Att} {m : Nat} {xs : List Int} (ok : SchOk S) (h : TabOk S m xs) : xs.length ≤ 60 := by rw [h.1]; exact ok.2.2.2
theorem sum_bound {m : Nat} : ∀ {xs : List Int}, (∀ x ∈ xs, x.natAbs ≤ m) → xs.sum.natAbs ≤ m * xs.length
  | [], _ => by simp
  | x :: xs, h => by
    have h1 := h x List.mem_cons_self
    have h2 := sum_bound (xs := xs) fun y hy => h y (List.mem_cons_of_mem _ hy)
    rw [List.sum_cons, List.length_cons, Nat.mul_succ]
    have := Int.natAbs_add_le x xs.sum
    omega
theorem TabOk.sum {S : List Att} {m : Nat} {xs : List Int} (ok : SchOk S) (h : TabOk S m xs) (hm : m ≤ 100000000000000000) : xs.sum.natAbs < 18446744073709551616 := by
  have h1 := sum_bound h.2
  have h2 := Nat.mul_le_mul hm (h.few ok)
  omega
/-- needs F__law_table -/
theorem ev_table3 {c : Int} {S : List Att} {m : Nat} {Q : PyData × Sto → Prop} (ok : SchOk S) (hm : m ≤ 1000) (k : ∀ xs : List Int, TabOk S m xs → Q (eI xs, [])) : Ev (F__law_table [.d (.int c), .d (eS S), .d (.int (m : Nat))] []) Q := by
  have ef := ok__law_fine_cells ok
  have l60 := ok.2.2.2
  obtain ⟨n, hn⟩ : ∃ n, n = prodN (S.map (·.1)) := ⟨_, rfl⟩
  have lT : (tuplesN (S.map (·.1))).length = n := by rw [hn]; exact tuplesN_len _
  have n60 : n ≤ 60 := by omega
  have m64 : (2 : Int) * (m : Nat) + 1 = ((2 * m + 1 : Nat) : Int) := by omega
  have er := dMul_oneL (x := .int ((2 * m + 1 : Nat) : Int)) (k := n) (by omega)
  have eb : List.replicate n (PyData.int ((2 * m + 1 : Nat) : Int)) = (List.replicate n (2 * m + 1)).map eN := by rw [List.map_replicate]; rfl
  rw [eb, ← m64] at er
  simp! [F__law_table, MPS, ef, lT, er, -List.map_replicate]
  have hb2 : ∀ b ∈ List.replicate n (2 * m + 1), 0 < b ∧ b < 1000000 := fun b hb => by
    have e := (List.mem_replicate.mp hb).2
    omega
  refine ev_draws3 (bs := List.replicate n (2 * m + 1)) hb2 (by rw [List.length_replicate]; omega) fun ds hB => ?_
  have ld : ds.length = n := by rw [hB.1, List.length_replicate]
  have e := lc_mapE (body := lcBody (.nm 4) bYes (eOp dSub (eVar 4) (eVar 2)) [some (.d (.int c)), some (.d (eS S)), some (.d (.int (m : Nat))), some (.d (.int (n : Nat))), none]) (so := []) (xs := ds) eN (fun d => .int ((d : Int) - (m : Int))) fun d hd => by
    refine of_ev ?_
    simp! [MPS, lcBody, eN]
  have l5 : ds.length ≤ 5000 := by omega
  have e2 : ds.map (fun (d : Nat) => PyData.int ((d : Int) - (m : Int))) = (ds.map fun (d : Nat) => (d : Int) - (m : Int)).map .int := by rw [List.map_map]; rfl
  simp! [MPS, e, l5]
  rw [e2]
  refine k _ ⟨by rw [List.length_map, ld, hn], fun x hx => ?_⟩
  obtain ⟨d, hd, rfl⟩ := List.mem_map.mp hx
  obtain ⟨j, hj⟩ := List.mem_iff_getElem?.mp hd
  have := hB.2 j (2 * m + 1) d (by rw [List.getElem?_replicate, if_pos (by have := (List.getElem?_eq_some_iff.mp hj).1; omega)]) hj
  omega
/-! ### cubes made -/
section
variable {S : List Att} {xs : List Int} {d e : PyData}
/-- needs F_Cube -/
theorem cube_of (ok : SchOk S) (h : xs.length = prodN (S.map (·.1))) : F_Cube [.d (eS S), .d (eI xs)] = some (.ok [(Str.ofString "attributes", eS S)] (eI xs)) := by
  have e1 := rz_scheme ok
  have e2 := ok_check_table ok h
  have sn : ∀ zs : List PyData, same1 (.tuple zs) .none = false := fun _ => rfl
  have sn : same1 (eI xs) .none = false := sn _
  refine of_ev ?_
  simp! [F_Cube, MPS, e1, e2, sn]
theorem cube_ns (h : NotSch d) : F_Cube [.d d, .d e] = some (.ex (Str.ofString "SchemeError")) := by
  have e1 := rz_scheme_no h
  refine of_ev ?_
  simp! [F_Cube, MPS, e1]
theorem cube_nt (ok : SchOk S) (h : NoInts (prodN (S.map (·.1))) d) (hn : d ≠ .none) : F_Cube [.d (eS S), .d d] = some (.ex (Str.ofString "TableError")) := by
  have e1 := rz_scheme ok
  have e2 := rz_table_no ok h
  have sn : same1 d .none = false := by cases d <;> first | rfl | exact absurd rfl hn
  refine of_ev ?_
  simp! [F_Cube, MPS, e1, e2, sn]
theorem mk_cube {g : DL} {ρ : Slots} {so : Sto} {ds as : List PyData} (hg : g ρ so = some (ds, so)) (hc : cvDef ds = some as) (h : F_Cube (as.map .d) = some (.ok [(Str.ofString "attributes", eS S)] (eI xs))) : fMk "Cube" cvDef F_Cube g ρ so = some (cubA S [xs], so) := by
  unfold fMk makeI
  simp only [hg, hc, h, Option.bind_some, Option.map_some]
  rfl
theorem xmk_cube {g : DL} {ρ : Slots} {so : Sto} {ds as : List PyData} {n : Str} (hg : g ρ so = some (ds, so)) (hc : cvDef ds = some as) (h : F_Cube (as.map .d) = some (.ex n)) : xMk cvDef F_Cube g ρ so = some (n, so) := by
  unfold xMk makeI
  simp only [hg, hc, h, Option.bind_some, Option.map_some]
end
end MP
namespace MP
open PySem PySem.Spec PyProof.Rows L2 RL
/-! ### the law's values that are nearly a scheme (the third stage's; the same as in MTl, where MVd isn't there) -/
theorem notSch_kind {d : PyData} (h : d.isTuple = false) : NotSch d := by
  unfold NotSch
  refine of_ev ?_
  simp! [F_is_scheme, MPS, h]
theorem notSch_long {ds : List PyData} (h : ¬ (1 ≤ ds.length ∧ ds.length ≤ 3)) : NotSch (.tuple ds) := by
  unfold NotSch
  refine of_ev ?_
  have hl2 : ¬ ((1 : Int) ≤ (ds.length : Int) ∧ (ds.length : Int) ≤ 3) := by omega
  by_cases h1 : (1 : Int) ≤ (ds.length : Int)
  · have h3 : ¬ (ds.length : Int) ≤ 3 := by omega
    simp! [F_is_scheme, MPS, isTuple_tuple, h1, h3]
  · simp! [F_is_scheme, MPS, isTuple_tuple, h1]
def NsI (ds : List PyData) (i : Nat) (j : Nat) (ρ : Slots) (so : Sto) : Prop := ∃ y1, ρ = [some (.d (.tuple ds)), y1] ∧ so = [] ∧ j ≤ i
/-- needs F_is_attribute -/
def AttB (d : PyData) (b : Bool) : Prop := F_is_attribute [.d d] [] = some (.bool b, [])
theorem notSch_at {ds : List PyData} {i : Nat} {d : PyData} (hl : ds.length ≤ 3) (hi : ds[i]? = some d) (hb : ∀ j < i, ∀ e, ds[j]? = some e → AttB e true) (hd : AttB d false) : NotSch (.tuple ds) := by
  unfold NotSch
  refine of_ev ?_
  have li := (List.getElem?_eq_some_iff.mp hi).1
  have h1 : (1 : Int) ≤ (ds.length : Int) := by omega
  have h3 : (ds.length : Int) ≤ 3 := by omega
  unfold AttB at hd
  simp! [F_is_scheme, MPS, isTuple_tuple, h1, h3]
  refine ev_for (NsI ds i) ⟨none, rfl, rfl, by omega⟩ ?_ ?_
  · rintro j e ρ so hj ⟨y1, rfl, rfl, hji⟩
    by_cases hj2 : j = i
    · subst hj2
      rw [hi] at hj
      cases hj
      simp! [B_is_scheme_1, MPS, hd]
    · have := hb j (by omega) e hj
      unfold AttB at this
      simp! [B_is_scheme_1, MPS, this]
      exact ⟨_, rfl, rfl, by omega⟩
  · rintro ρ so ⟨y1, rfl, rfl, hji⟩
    omega
theorem attB_kind {d : PyData} (h : d.isTuple = false) : AttB d false := by
  unfold AttB
  refine of_ev ?_
  simp! [F_is_attribute, MPS, h]
theorem attB_len {ds : List PyData} (h : ds.length ≠ 2) : AttB (.tuple ds) false := by
  unfold AttB
  refine of_ev ?_
  have h2 : ((ds.length : Nat) : Int) ≠ 2 := by omega
  simp! [F_is_attribute, MPS, isTuple_tuple, h2]
theorem attB_num {x y : PyData} (h : x.isInt = false) : AttB (.tuple [x, y]) false := by
  unfold AttB
  refine of_ev ?_
  have e : F_is_number_from [.d x, .d (.int 1), .d (.int 6)] [] = some (.bool false, []) := by
    refine of_ev ?_
    simp! [F_is_number_from, F_is_integer, MPS, h]
  simp! [F_is_attribute, MPS, isTuple_tuple, e]
theorem attB_steps {n : Int} {y : PyData} (h : y.isTuple = false) : AttB (.tuple [.int n, y]) false := by
  unfold AttB
  refine of_ev ?_
  have e := number_any n 1 6
  cases hb : (decide (1 ≤ n) && decide (n ≤ 6)) with
  | true =>
    rw [hb] at e
    simp! [F_is_attribute, MPS, isTuple_tuple, e, h]
  | false =>
    rw [hb] at e
    simp! [F_is_attribute, MPS, isTuple_tuple, e]
theorem attB_ok {a : Att} (h : AttOk a) : AttB (eA a) true := ok_is_attribute h
/-- the law's odd values: with the scheme a :: r -/
def noS (a : Att) (r : List Att) : List PyData :=
  [.none, .int 0, .bool true, .str ⟨#[]⟩, .tuple [], .list [], .dict [], .list ((a :: r).map eA), eA a, .list [eS (a :: r)],
   .tuple [eS (a :: r)], .tuple (List.replicate 4 ((a :: r).map eA)).flatten, .tuple [.none], .tuple [.tuple []],
   .tuple [.tuple [.int 0, .tuple []]], .tuple [.tuple [.int 7, .tuple []]], .tuple [.tuple [.bool true, .tuple []]], .tuple [.tuple [.int 2]], .tuple [.tuple [.int 2, .tuple [], .tuple []]],
   .tuple [.tuple [.int 2, .list []]], .tuple [.list [.int 2, .tuple []]], .tuple [.tuple [.str (Str.ofString "2"), .tuple []]],
   .tuple [.tuple [.int 2, .tuple [.tuple [.int 0, .int 1]]]], .tuple [.tuple [.int 2, .tuple [.tuple [.int 0, .int 0, .int 0]]]], .tuple [.tuple [.int 2, .tuple [.tuple [.int 1, .int 1]]]],
   .tuple [.tuple [.int 2, .tuple [.tuple [.int 0]]]], .tuple [.tuple [.int 3, .tuple [.tuple [.int 0, .int 2, .int 0]]]],
   .tuple [.tuple [.int 3, .tuple [.tuple [.int 0, .int 1, .int 1], .tuple [.int 0, .int 1]]]], .tuple [.tuple [.int 3, .tuple [.tuple [.int 0, .int 1, .bool true]]]],
   .tuple [.tuple [.int 3, .tuple [.list [.int 0, .int 1, .int 1]]]], .tuple [.tuple [.int 3, .tuple [.tuple [.int 0, .int (-1), .int 1]]]],
   .tuple [.tuple [.int 6, .tuple [.tuple [.int 0, .int 1, .int 2, .int 3, .int 4, .int 4], .tuple [.int 0, .int 1, .int 2, .int 3, .int 3], .tuple [.int 0, .int 1, .int 2, .int 2], .tuple [.int 0, .int 1, .int 1]]]],
   .tuple [.tuple [.int 1, .tuple [.tuple [.int 0]]]], .tuple [.tuple [.int 2, .tuple [.tuple [.int 0, .int 0], .tuple []]]],
   .tuple [.tuple [.int 6, .tuple []], .tuple [.int 6, .tuple []], .tuple [.int 2, .tuple []]], .tuple (List.replicate 4 (.tuple [.int 2, .tuple []])), .tuple [eA a, .none],
   .tuple [eA a, .tuple [.int (a.1 : Nat), .list (a.2.map eT)]]]
theorem noS_not {a : Att} {r : List Att} (h : SchOk (a :: r)) : ∀ d ∈ noS a r, NotSch d := by
  have oka := h.2.2.1 a (.head _)
  have l3 := h.2.1
  intro d hd
  simp only [noS, List.mem_cons, List.not_mem_nil, or_false] at hd
  rcases hd with rfl | rfl | rfl | rfl | rfl | rfl | rfl | rfl | rfl | rfl | rfl | rfl | rfl | rfl | rfl | rfl | rfl | rfl | rfl | rfl | rfl | rfl | rfl | rfl | rfl | rfl | rfl | rfl | rfl | rfl | rfl | rfl | rfl | rfl | rfl | rfl | rfl | rfl
  iterate 4 exact notSch_kind rfl
  · exact notSch_long (by simp)
  iterate 3 exact notSch_kind rfl
  · exact notSch_at (i := 0) (d := .int (a.1 : Nat)) (by show 2 ≤ 3; omega) rfl (fun j hj => by omega) (attB_kind rfl)
  · exact notSch_kind rfl
  · refine notSch_at (i := 0) (d := eS (a :: r)) (by show 1 ≤ 3; omega) rfl (fun j hj => by omega) ?_
    by_cases hr : ((a :: r).map eA).length = 2
    · match r, hr with
      | [b], _ => exact attB_num rfl
    · exact attB_len hr
  · refine notSch_long ?_
    simp
    omega
  iterate 22 exact no_of (by decide +kernel)
  · exact no_of (by decide +kernel)
  · exact notSch_long (by simp)
  · exact notSch_at (i := 1) (d := .none) (by show 2 ≤ 3; omega) rfl (fun j hj e he => by
      obtain rfl : j = 0 := by omega
      cases he
      exact attB_ok oka) (attB_kind rfl)
  · exact notSch_at (i := 1) (d := .tuple [.int (a.1 : Nat), .list (a.2.map eT)]) (by show 2 ≤ 3; omega) rfl (fun j hj e he => by
      obtain rfl : j = 0 := by omega
      cases he
      exact attB_ok oka) (attB_steps rfl)
theorem ok__law_no_schemes {a : Att} {r : List Att} (h : SchOk (a :: r)) : F__law_no_schemes [.d (eS (a :: r))] [] = some (.list (noS a r), []) := by
  refine of_ev ?_
  have l3 := h.2.1
  have lr : r.length < 1000 := by simp at l3; omega
  have hm : dMulT (.tuple (eA a :: r.map eA)) (.int 4) = some (.tuple (List.replicate 4 (eA a :: r.map eA)).flatten) := if_pos ⟨by decide, by decide, by rw [List.length_map]; exact lr⟩
  have hm : dMulT (.tuple (.tuple [.int (a.1 : Nat), .tuple (a.2.map eT)] :: r.map eA)) (.int 4) = some (.tuple (List.replicate 4 (eA a :: r.map eA)).flatten) := hm
  have oka := h.2.2.1 a (.head _)
  have l2 : a.2.length ≤ 5000 := by have := oka.2.2.1; omega
  have ec : ∀ x : PyData, cutD (x :: r.map eA) none (some 1) = [x] := fun x => by
    have := cut_to3 (x :: r.map eA) 1
    exact this
  simp! [F__law_no_schemes, MPS, eS, eA, eN, eSt, hm, ec, l2, noS]
  rfl
end MP
namespace MP
open PySem PySem.Spec PyProof.Rows L2 RL
/-! ### what is no table -/
def noTb (xs : List Int) : List PyData :=
  [.int 0, .bool true, .str (Str.ofString ""), .list [], .dict [], .list (xs.map .int), .tuple (xs.map .int ++ [.int 0]), .tuple ((xs.map PyData.int).drop 1), .tuple ((xs.map PyData.int).drop 1 ++ [.bool true]), .tuple ((xs.map PyData.int).drop 1 ++ [.none]), .tuple [.tuple (xs.map .int)],
   .tuple ((xs.map PyData.int).drop 1 ++ [.str (Str.ofString "0")]), .tuple ((xs.map PyData.int).drop 1 ++ [.tuple [.int 0]]), .tuple ((xs.map PyData.int).drop 1 ++ [.list [.int 0]])]
theorem noTb_not {xs : List Int} (h1 : 1 ≤ xs.length) : ∀ d ∈ noTb xs, NoInts xs.length d ∧ d ≠ .none := by
  have bad : ∀ (x : PyData), (∀ i : Int, x ≠ .int i) → NoInts xs.length (.tuple ((xs.map PyData.int).drop 1 ++ [x])) := fun x h => ni_mem (List.mem_append_right _ (.head _)) h
  intro d hd
  simp only [noTb, List.mem_cons, List.not_mem_nil, or_false] at hd
  rcases hd with rfl | rfl | rfl | rfl | rfl | rfl | rfl | rfl | rfl | rfl | rfl | rfl | rfl | rfl
  iterate 6 exact ⟨ni_kind rfl, fun e => by cases e⟩
  · exact ⟨ni_len (by simp), fun e => by cases e⟩
  · exact ⟨ni_len (by rw [List.length_drop, List.length_map]; omega), fun e => by cases e⟩
  · exact ⟨bad _ (fun n e => by cases e), fun e => by cases e⟩
  · exact ⟨bad _ (fun n e => by cases e), fun e => by cases e⟩
  · exact ⟨ni_mem (.head _) (fun n e => by cases e), fun e => by cases e⟩
  · exact ⟨bad _ (fun n e => by cases e), fun e => by cases e⟩
  · exact ⟨bad _ (fun n e => by cases e), fun e => by cases e⟩
  · exact ⟨bad _ (fun n e => by cases e), fun e => by cases e⟩
theorem ok_no_tables {xs : List Int} (h : xs.length ≤ 1000) (h1 : 1 ≤ xs.length) : ∃ z : Str, F__law_no_tables [.d (eI xs)] [] = some (.list (noTb xs ++ [.str z, .list [eI xs]]), []) := by
  obtain ⟨Z0, hZ⟩ : ∃ Z0, xs.map PyData.int = Z0 := ⟨_, rfl⟩
  have lZ : Z0.length = xs.length := by rw [← hZ, List.length_map]
  have eZ : eI xs = .tuple Z0 := by unfold eI; rw [hZ]
  have z5 : Z0.length ≤ 5000 := by omega
  have z6 : Z0.length + 1 ≤ 5000 := by omega
  have sl : dSl (.tuple Z0) (some 1) none = some (.tuple (Z0.drop 1)) := by
    show some (PyData.tuple (cutD Z0 (some 1) none)) = _
    by_cases h0 : 1 ≤ Z0.length
    · unfold cutD
      rw [HT.sIx_none, show HT.sIx Z0.length 0 (some 1) = 1 from (HT.sIx_nat Z0.length 0 1).trans (Nat.min_eq_left (by omega)), List.take_of_length_le (by rw [List.length_drop]; exact Nat.le_refl _)]
    · have : Z0 = [] := List.eq_nil_of_length_eq_zero (by omega)
      rw [this]
      rfl
  obtain ⟨Z1, hZ1⟩ : ∃ Z1, Z0.drop 1 = Z1 := ⟨_, rfl⟩
  have l1 : Z1.length + 1 ≤ 5000 := by rw [← hZ1, List.length_drop]; omega
  obtain ⟨z, hz⟩ : ∃ z : Str, dMulS (.str (Str.ofString "0")) (.int (Z0.length : Nat)) = some (.str z) := by
    exact ⟨_, if_pos ⟨by decide, by omega, by omega⟩⟩
  refine ⟨z, of_ev ?_⟩
  simp! [F__law_no_tables, MPS, eZ, sl, hZ1, z5, z6, l1, hz, -dSl]
  unfold noTb
  rw [hZ, hZ1]
  rfl
/-! ### the law -/
theorem plain_ints : ∀ xs : List Int, (∀ x ∈ xs, x.natAbs < 18446744073709551616) → ∀ d ∈ xs.map PyData.int, Sm RepT 0 66 d := fun xs h d hd => by
  obtain ⟨i, hi, rfl⟩ := List.mem_map.mp hd
  exact sm_int (h i hi)
theorem sm_ints {xs : List Int} (h : ∀ x ∈ xs, x.natAbs < 18446744073709551616) (hl : xs.length ≤ 60) : Sm RepT 1 5000 (eI xs) :=
  (sm_tup (R := RepT) (plain_ints xs h)).mono (Nat.le_refl _) (by rw [List.length_map]; omega)
theorem sm_eT {s : List Nat} (h : ∀ x ∈ s, x < 1000) (hl : s.length ≤ 6) : Sm RepT 1 1000 (eT s) :=
  (sm_tup (R := RepT) (m := 0) (n := 66) (fun d hd => by
    obtain ⟨i, hi, rfl⟩ := List.mem_map.mp hd
    exact sm_int (i := (i : Nat)) (by have := h i hi; omega))).mono (Nat.le_refl _) (by rw [List.length_map]; omega)
theorem steps_low : ∀ {ss : List (List Nat)} {b : Nat}, StepsOk b ss → b ≤ 6 → ∀ s ∈ ss, ∀ x ∈ s, x < 6
  | [], _, _, _, s, h => by cases h
  | t :: r, b, h, hb, s, hs => by
    obtain ⟨h1, h2⟩ := h
    obtain ⟨hl, m, m0, mb, hm⟩ := h1
    rcases List.mem_cons.mp hs with rfl | hs
    · intro x hx
      have := (hm x).mp hx
      omega
    · have e := top1_of m0 hm
      rw [e] at h2
      exact steps_low h2 (by omega) s hs
theorem sm_scheme {S : List Att} (ok : SchOk S) : Sm RepT 4 50000 (eS S) := by
  refine (sm_tup (R := RepT) (m := 3) (n := 12000) fun d hd => ?_).mono (Nat.le_refl _) (by rw [List.length_map]; have := ok.2.1; omega)
  obtain ⟨a, ha, rfl⟩ := List.mem_map.mp hd
  have oa := ok.2.2.1 a ha
  refine (sm_tup (R := RepT) (m := 2) (n := 4000) fun y hy => ?_).mono (Nat.le_refl _) (by show (4000 + 2) * 2 + 3 ≤ 12000; decide)
  rcases List.mem_cons.mp hy with rfl | hy
  · exact (sm_int (i := (a.1 : Nat)) (by have := oa.2.1; omega)).mono (by decide) (by decide)
  · rw [List.mem_singleton.mp hy]
    refine (sm_tup (R := RepT) (m := 1) (n := 1000) fun z hz => ?_).mono (Nat.le_refl _) (by rw [List.length_map]; have := oa.2.2.1; omega)
    obtain ⟨s, hs, rfl⟩ := List.mem_map.mp hz
    exact sm_eT (fun x hx => by have := steps_low oa.2.2.2 oa.2.1 s hs x hx; omega) (steps_len oa.2.2.2 oa.2.1 s hs)
theorem sm_both {S : List Att} {xs : List Int} (ok : SchOk S) (h : TabOk S 1000000000 xs) : ∃ t, fitsR RepT (.tuple [eS S, eI xs]) = some t := by
  have := sm_tup (R := RepT) (m := 4) (n := 50000) (ds := [eS S, eI xs]) fun d hd => by
    rcases List.mem_cons.mp hd with rfl | hd
    · exact sm_scheme ok
    · rw [List.mem_singleton.mp hd]
      exact (sm_ints (fun x hx => by have := h.2 x hx; omega) (h.few ok)).mono (by decide) (by decide)
  exact this.fits (by decide) (by show (50000 + 2) * 2 + 3 ≤ 16000000; decide)
abbrev tbL : Own := .x (.tb (Str.ofString "law"))
theorem w_scheme : saidT__law_said (Str.ofString "SchemeError") = some (Str.ofString "scheme") := by rfl
theorem w_table : saidT__law_said (Str.ofString "TableError") = some (Str.ofString "table") := by rfl
def L1I (pre : Slots) (i : Nat) (ρ : Slots) (so : Sto) : Prop :=
  ∃ (y3 y4 y5 y6 y7 y8 y9 : Option Sl) (w : Own), ρ = pre ++ [y3, y4, y5, y6, y7, y8, y9] ∧ so = [tbL, w] ∧ noO 1 y3 = true ∧ noO 1 y4 = true ∧ noO 1 y5 = true ∧ noO 1 y6 = true ∧ noO 1 y7 = true ∧ noO 1 y8 = true ∧ (i = 0 ∨ ∃ S, SchOk S ∧ y4 = some (.d (eS S)))
def L2I (pre : Slots) (y9 : Option Sl) (w : Own) (i : Nat) (ρ : Slots) (so : Sto) : Prop := ∃ (y8 : Option Sl), ρ = pre ++ [y8, y9] ∧ so = [tbL, w] ∧ noO 1 y8 = true
def L4I (pre : Slots) (i : Nat) (ρ : Slots) (so : Sto) : Prop := ∃ (y8 y9 : Option Sl) (w : Own), ρ = pre ++ [y8, y9] ∧ so = [tbL, w] ∧ noO 1 y8 = true
def L3I (ns : List Int) (i : Nat) (ρ : Slots) (so : Sto) : Prop :=
  ∃ (y1 y2 y3 y4 y5 y6 y7 y8 y9 : Option Sl) (w : Own), ρ = [some (.s ns), y1, y2, y3, y4, y5, y6, y7, y8, y9] ∧ so = [tbL, w] ∧ noO 1 y3 = true ∧ noO 1 y4 = true ∧ noO 1 y5 = true ∧ noO 1 y6 = true ∧ noO 1 y7 = true ∧ noO 1 y8 = true
theorem cub_dict {S : List Att} {st : List (List Int)} : ∃ kvs, cubA S st = .dict kvs := ⟨_, rfl⟩
theorem t1_turn {S : List Att} {d : PyData} {i : Nat} {x0 x1 x2 x3 x5 x6 x7 y9 : Option Sl} {w : Own} {ρ : Slots} {so : Sto} {Q : Fl × Sto → Prop} (ok : SchOk S) (hd : NoInts (prodN (S.map (·.1))) d ∧ d ≠ .none) (p : L2I [x0, x1, x2, x3, some (.d (eS S)), x5, x6, x7] y9 w i ρ so) :
    Ev (putT (.nm 8) d ρ) fun ρ1 => Ev (B_law_1 ρ1 so) (turnQ (L2I [x0, x1, x2, x3, some (.d (eS S)), x5, x6, x7] y9 w (i + 1)) Q) := by
  obtain ⟨y8, rfl, rfl, n8⟩ := p
  have hx : xMk cvDef F_Cube (aCons (eVar 4) (aCons (eVar 8) aNil)) [x0, x1, x2, x3, some (.d (eS S)), x5, x6, x7, some (.d d), y9] [tbL, w] = some (Str.ofString "TableError", [tbL, w]) := xmk_cube (ds := [eS S, d]) rfl rfl (cube_nt ok hd.1 hd.2)
  have ne := dNe_strs (Str.ofString "table") (Str.ofString "table")
  rw [decide_eq_true rfl] at ne
  simp! [B_law_1, MPS, hx]
  rw [w_table]
  generalize Str.ofString "table" = st at *
  simp! [MPS, ne]
  exact ⟨_, rfl, rfl, rfl⟩
theorem t3_turn {d : PyData} {i : Nat} {x0 x1 x2 x3 x4 x5 x6 x7 : Option Sl} {ρ : Slots} {so : Sto} {Q : Fl × Sto → Prop} (hd : NotSch d) (n0 : noO 1 x0 = true) (n1 : noO 1 x1 = true) (n2 : noO 1 x2 = true) (n3 : noO 1 x3 = true) (n4 : noO 1 x4 = true) (n5 : noO 1 x5 = true) (n6 : noO 1 x6 = true) (n7 : noO 1 x7 = true) (p : L4I [x0, x1, x2, x3, x4, x5, x6, x7] i ρ so) :
    Ev (putT (.nm 8) d ρ) fun ρ1 => Ev (B_law_3 ρ1 so) (turnQ (L4I [x0, x1, x2, x3, x4, x5, x6, x7] (i + 1)) Q) := by
  obtain ⟨y8, y9, w, rfl, rfl, n8⟩ := p
  have hx : ∀ (y : Option Sl) (w : Own), xMk cvDef F_Cube (aCons (eVar 8) aNil) [x0, x1, x2, x3, x4, x5, x6, x7, some (.d d), y] [tbL, w] = some (Str.ofString "SchemeError", [tbL, w]) := fun y w => xmk_cube (ds := [d]) rfl rfl (cube_ns hd)
  have hx2 : ∀ (y : Option Sl) (w : Own), xMk cvDef F_Cube (aCons (eVar 8) (aCons (eC (.int 0)) aNil)) [x0, x1, x2, x3, x4, x5, x6, x7, some (.d d), y] [tbL, w] = some (Str.ofString "SchemeError", [tbL, w]) := fun y w => xmk_cube (ds := [d, .int 0]) rfl rfl (cube_ns hd)
  have ne := ne2 (Str.ofString "scheme") (Str.ofString "scheme")
  simp! [B_law_3, MPS, hx]
  rw [w_scheme]
  simp! [MPS, hx2, n0, n1, n2, n3, n4, n5, n6, n7]
  rw [w_scheme]
  generalize Str.ofString "scheme" = st at *
  simp! [MPS, ne]
  exact ⟨_, _, _, rfl, rfl, rfl⟩
theorem lap_turn {ns : List Int} {k : Nat} {c : Int} {l : Nat} {ρ : Slots} {so : Sto} {Q : Fl × Sto → Prop} (p : L1I [some (.s ns), some (.d (.int k)), some (.d (.int c))] l ρ so) :
    Ev (putT (.nm 3) (.int (l : Nat)) ρ) fun ρ1 => Ev (B_law_2 ρ1 so) (turnQ (L1I [some (.s ns), some (.d (.int k)), some (.d (.int c))] (l + 1)) Q) := by
  obtain ⟨y3, y4, y5, y6, y7, y8, y9, w, rfl, rfl, n3, n4, n5, n6, n7, n8, _⟩ := p
  simp! [B_law_2, MPS]
  refine ev_scheme3 fun S ok => ?_
  have c3 : ((3 : Nat) : Int) = 3 := rfl
  have tb := fun {c : Int} {Q : PyData × Sto → Prop} (k : ∀ xs : List Int, TabOk S 3 xs → Q (eI xs, [])) => ev_table3 (c := c) (m := 3) ok (by decide) k
  rw [c3] at tb
  simp! [MPS]
  refine tb fun xs ht => ?_
  obtain ⟨n, hn⟩ : ∃ n, n = prodN (S.map (·.1)) := ⟨_, rfl⟩
  have ef := ok__law_fine_cells ok
  have lT : (tuplesN (S.map (·.1))).length = n := by rw [hn]; exact tuplesN_len _
  have n60 : n ≤ 60 := by have := ok.2.2.2; omega
  have n1 : 1 ≤ n := by rw [hn]; exact (prod_six S ok.2.2.1).1
  have ez : dMul (.tuple [.int 0]) (.int (n : Nat)) = some (eI (List.replicate n 0)) := by
    rw [dMul_tup ⟨by omega, by omega⟩, Int.toNat_natCast]
    unfold eI
    rw [List.map_replicate]
  have hx : xs.length = n := by rw [ht.1, hn]
  have hz : TabOk S 3 (List.replicate n 0) := ⟨by rw [List.length_replicate, hn], fun x hx => by rw [(List.mem_replicate.mp hx).2]; decide⟩
  have lx : xs.length ≤ 60 := by omega
  have lz : (List.replicate n (0 : Int)).length ≤ 60 := by rw [List.length_replicate]; exact n60
  obtain ⟨t, et⟩ := sm_both ok (xs := xs) ⟨ht.1, fun x hx => by have := ht.2 x hx; omega⟩
  have nt := dNe_strs t t
  rw [decide_eq_true rfl] at nt
  have m1 : ∀ (y3 y6 y7 y8 y9 : Option Sl) (z : Option Sl), fMk "Cube" cvDef F_Cube (aCons (eVar 4) aNil) [some (.s ns), some (.d (.int k)), some (.d (.int c)), y3, some (.d (eS S)), z, y6, y7, y8, y9] [tbL, w] = some (cubA S [List.replicate n 0], [tbL, w]) := fun y3 y6 y7 y8 y9 z =>
    mk_cube (ds := [eS S]) rfl rfl (by
      have e0 := cube0 ok
      have ez2 : zsD (sizeN S (fin0 S)) = eI (List.replicate n 0) := by
        unfold zsD eI sizeN
        rw [counts_fin0, ← hn, List.map_replicate]
      rw [ez2] at e0
      exact e0)
  have m2 : ∀ (y3 y6 y7 y8 y9 : Option Sl), fMk "Cube" cvDef F_Cube (aCons (eVar 4) (aCons (eVar 5) aNil)) [some (.s ns), some (.d (.int k)), some (.d (.int c)), y3, some (.d (eS S)), some (.d (eI xs)), y6, y7, y8, y9] [tbL, w] = some (cubA S [xs], [tbL, w]) := fun y3 y6 y7 y8 y9 =>
    mk_cube (ds := [eS S, eI xs]) rfl rfl (cube_of ok ht.1)
  have m3 : ∀ (y3 y6 y7 y8 y9 : Option Sl) (z : Option Sl), fMk "Cube" cvDef F_Cube (aCons (eVar 4) (aCons (eC .none) aNil)) [some (.s ns), some (.d (.int k)), some (.d (.int c)), y3, some (.d (eS S)), z, y6, y7, y8, y9] [tbL, w] = some (cubA S [List.replicate n 0], [tbL, w]) := fun y3 y6 y7 y8 y9 z =>
    mk_cube (ds := [eS S, .none]) rfl rfl (by
      have e0 := cube0 ok
      have ez2 : zsD (sizeN S (fin0 S)) = eI (List.replicate n 0) := by
        unfold zsD eI sizeN
        rw [counts_fin0, ← hn, List.map_replicate]
      rw [ez2] at e0
      exact e0)
  have td1 := cu_told (S := S) (init := []) (xs := List.replicate n 0) (by omega) (hz.sum ok (by decide))
  have td2 := cu_told (S := S) (init := []) (xs := xs) (by omega) (ht.sum ok (by decide))
  have du1 := cu_due (S := S) (n := 0) (xs := List.replicate n 0) (by omega) (hz.sum ok (by decide))
  have du2 := cu_due (S := S) (n := 0) (xs := xs) (by omega) (ht.sum ok (by decide))
  have sa1 := same2 8 _ (fl_told (n := 2) (m := 0) (S := S) (xs := List.replicate n 0) ok (by omega))
  have sa2 := same2 8 _ (fl_told (n := 2) (m := 0) (S := S) (xs := xs) ok (by omega))
  have l0 : ([] : List (List Int)).length = 0 := rfl
  have i0 : ((0 : Nat) : Int) = 0 := rfl
  rw [List.nil_append, l0] at td1 td2
  rw [i0] at du1 du2
  obtain ⟨zs, ents⟩ := ok_no_tables (xs := xs) (by omega) (by omega)
  obtain ⟨Z, hZ⟩ : ∃ Z, eI (List.replicate n 0) = Z := ⟨_, rfl⟩
  obtain ⟨cb, hcb⟩ : ∃ cb, cubA S [List.replicate n 0] = cb := ⟨_, rfl⟩
  obtain ⟨cx, hcx⟩ : ∃ cx, cubA S [xs] = cx := ⟨_, rfl⟩
  have dcb : ∃ kvs, cb = .dict kvs := by rw [← hcb]; exact cub_dict
  have nt1 : ∀ d ∈ noTb xs ++ [.str zs, .list [eI xs]] ++ [.tuple [], cb, .tuple [cb]], NoInts (prodN (S.map (·.1))) d ∧ d ≠ .none := by
    obtain ⟨kvs, rfl⟩ := dcb
    rw [← ht.1]
    intro d hd
    rcases List.mem_append.mp hd with hd | hd
    · rcases List.mem_append.mp hd with hd | hd
      · exact noTb_not (by omega) d hd
      · simp only [List.mem_cons, List.not_mem_nil, or_false] at hd
        rcases hd with rfl | rfl
        · exact ⟨ni_kind rfl, fun e => by cases e⟩
        · exact ⟨ni_kind rfl, fun e => by cases e⟩
    · simp only [List.mem_cons, List.not_mem_nil, or_false] at hd
      rcases hd with rfl | rfl | rfl
      · exact ⟨ni_len (by rw [hx]; exact (by omega : ¬ (0 = n))), fun e => by cases e⟩
      · exact ⟨ni_kind rfl, fun e => by cases e⟩
      · exact ⟨ni_mem (.head _) (fun n e => by cases e), fun e => by cases e⟩
  have lN : (noTb xs).length = 14 := rfl
  obtain ⟨L, hL⟩ : ∃ L, noTb xs = L := ⟨_, rfl⟩
  obtain ⟨TZ, hTZ⟩ : ∃ T, toldD S (List.replicate n 0) 0 = T := ⟨_, rfl⟩
  obtain ⟨TX, hTX⟩ : ∃ T, toldD S xs 0 = T := ⟨_, rfl⟩
  rw [hL] at lN ents nt1
  rw [hZ] at ez du1
  rw [hcb] at m1 m3 td1
  rw [hcx] at m2 td2
  rw [hTZ] at td1 du1 sa1
  rw [hTX] at td2 du2 sa2
  simp! [MPS, ef, lT, ez, et, m1, m2, m3, td1, td2, du1, du2, sa1, sa2, nt, ents, lN, n3, n4, n5, n6, n7, n8]
  refine ev_for (L2I [some (.s ns), some (.d (.int k)), some (.d (.int c)), some (.d (.int l)), some (.d (eS S)), some (.d (eI xs)), some (.d Z), some (.d (.str t))] y9 w) ⟨y8, rfl, rfl, n8⟩ ?_ ?_
  · intro i d ρ so hd p
    refine t1_turn ok (nt1 d ?_) p
    have := List.mem_of_getElem? hd
    simpa [List.append_assoc] using this
  · rintro ρ so ⟨y8, rfl, rfl, n8⟩
    simp! [MPS]
    exact ⟨_, _, _, _, _, _, _, _, rfl, rfl, rfl, rfl, rfl, rfl, rfl, n8, .inr ⟨S, ok, rfl⟩⟩
theorem law_true (ns : List Int) (_ : ns.length ≤ 63) : F_law [.s ns] [tbL] = some (.bool true, [tbL]) := by
  refine of_ev ?_
  simp! [F_law, MPS]
  refine ev_forN (L3I ns) ⟨none, none, none, none, none, none, none, none, none, _, rfl, rfl, rfl, rfl, rfl, rfl, rfl, rfl⟩ ?_ ?_
  · rintro k ρ so hk ⟨y1, y2, y3, y4, y5, y6, y7, y8, y9, w, rfl, rfl, n3, n4, n5, n6, n7, n8⟩
    simp! [B_law_4, MPS]
    refine ev_cell2 fun c => ?_
    simp! [MPS]
    refine ev_forN (L1I [some (.s ns), some (.d (.int k)), some (.d (.int c))]) ⟨y3, y4, y5, y6, y7, y8, y9, w, rfl, rfl, n3, n4, n5, n6, n7, n8, .inl rfl⟩ ?_ ?_
    · rintro l ρ so hl p
      exact lap_turn p
    · rintro ρ so ⟨y3, y4, y5, y6, y7, y8, y9, w, rfl, rfl, n3, n4, n5, n6, n7, n8, hS⟩
      rcases hS with z | ⟨S, ok, rfl⟩
      · cases z
      match S, ok with
      | [], ok => exact absurd ok.1 (by simp)
      | a :: r, ok =>
        have no := ok__law_no_schemes ok
        have nn := noS_not ok
        have m1 : fMk "Cube" cvDef F_Cube (aCons (eVar 4) aNil) [some (.s ns), some (.d (.int k)), some (.d (.int c)), y3, some (.d (eS (a :: r))), y5, y6, y7, y8, y9] [tbL, w] = some (cubA (a :: r) [List.replicate (prodN ((a :: r).map (·.1))) 0], [tbL, w]) :=
          mk_cube (ds := [eS (a :: r)]) rfl rfl (by
            have e0 := cube0 ok
            have ez2 : zsD (sizeN (a :: r) (fin0 (a :: r))) = eI (List.replicate (prodN ((a :: r).map (·.1))) 0) := by
              unfold zsD eI sizeN
              rw [counts_fin0, List.map_replicate]
            rw [ez2] at e0
            exact e0)
        obtain ⟨kvs, ecb⟩ := cub_dict (S := a :: r) (st := [List.replicate (prodN ((a :: r).map (·.1))) 0])
        rw [ecb] at m1
        have lL : (noS a r).length = 38 := rfl
        obtain ⟨L, hL⟩ : ∃ L, noS a r = L := ⟨_, rfl⟩
        rw [hL] at no nn lL
        obtain ⟨E, hE⟩ : ∃ E, eS (a :: r) = E := ⟨_, rfl⟩
        rw [hE] at no m1
        simp only [hE]
        simp! [MPS, no, m1, lL]
        refine ev_for (L4I [some (.s ns), some (.d (.int k)), some (.d (.int c)), y3, some (.d E), y5, y6, y7]) ⟨y8, y9, w, rfl, rfl, n8⟩ ?_ ?_
        · intro i d ρ so hd p
          have hd := List.mem_of_getElem? hd
          have hn : NotSch d := by
            rcases List.mem_append.mp hd with h | h
            · exact nn d h
            · rw [List.mem_singleton.mp h]
              exact notSch_kind rfl
          exact t3_turn hn rfl rfl rfl n3 rfl n5 n6 n7 p
        · rintro ρ so ⟨y8, y9, w, rfl, rfl, n8⟩
          simp! [MPS]
          exact ⟨_, _, _, _, _, _, _, _, _, _, rfl, rfl, n3, rfl, n5, n6, n7, n8⟩
  · rintro ρ so ⟨y1, y2, y3, y4, y5, y6, y7, y8, y9, w, rfl, rfl, n3, n4, n5, n6, n7, n8⟩
    simp! [MPS]
end MP
namespace MP
open PySem PySem.Spec PyProof.Rows L2 RL
theorem DfO.fun_ {K : PySem.W.Frag} {d : DfO} (e : fnWA K (d.adr K) = d.val) (c : d.ok K = true) : ∃ fd, FunD K d.name d.qual (defArgs d.st) (defBody d.st) (defScope d.st) (d.dfl.map (He.Dv.v K)) [] (d.adr K) fd := by
  obtain ⟨kp, c2⟩ := Bool.and_eq_true_iff.mp c
  unfold fnWA at e
  split at e
  · rename_i oc od fd sl q
    rw [q] at c2
    obtain ⟨n1, n2, n3, n4, n5, n6, n7, n8, n9, n10, n11, n12, n13, n14, n15⟩ := fd
    have e2 : (some (n1, n2, n3, n4, n5, n6, n7, n15) : FnW) = some (d.name, d.qual, defArgs d.st, .stmts (defBody d.st), defScope d.st, mainGlobals, [], builtinsNs) := e
    simp only [Option.some.injEq, Prod.mk.injEq] at e2
    obtain ⟨h1, h2, h3, h4, h5, h6, h7, h8⟩ := e2
    subst h1 h2 h3 h4 h5 h6 h7 h8
    obtain ⟨k1, k2⟩ := Bool.and_eq_true_iff.mp (show (PySem.W.codeIn K n13 d.qual && He.dflB K n8 (d.dfl.map (He.Dv.v K))) = true from c2)
    exact ⟨_, ⟨oc, od, n8, n9, n10, n11, n12, n13, n14, sl, rfl, q, k1, He.dflB_ok k2, .inl rfl⟩, kp⟩
  · cases e
/-- a def without defaults -/
theorem fun_of {K : PySem.W.Frag} {x q : Str} {st : Stmt} {f : Addr} {fd : FuncData} (F : FunD K x q (defArgs st) (defBody st) (defScope st) [] [] f fd) : Fun K x q st f fd := by
  obtain ⟨oc, od, dV, kV, doc, pm, an, cdv, ct, osl, e, l, c, dv, kv⟩ := F.ex
  refine ⟨⟨oc, od, kV, doc, pm, an, cdv, ct, osl, ?_, l, c⟩, F.kp⟩
  rcases dv with ⟨_, e2⟩ | ⟨h, _⟩
  · subst e2
    exact e
  · exact absurd rfl h
section
variable {cs : List (PySem.W.Frag → Bool)} {fn : List DfO} {K : PySem.W.Frag}
theorem saysO_at (c : obsO cs fn K = valO fn) (i : Nat) {f : PySem.W.Frag → Bool} (h : cs[i]? = some f := by rfl) : f K = true := by
  have c1 := (Bool.and_eq_true_iff.mp (show ((cs.all fun c => c K) && fn.all fun d => d.ok K) = true from congrArg (fun z : ObO => z.1) c)).1
  exact List.all_eq_true.mp c1 f (List.mem_of_getElem? h)
theorem saysO_def (c : obsO cs fn K = valO fn) (i : Nat) {d : DfO} (h : fn[i]? = some d := by rfl) : ∃ fd, FunD K d.name d.qual (defArgs d.st) (defBody d.st) (defScope d.st) (d.dfl.map (He.Dv.v K)) [] (d.adr K) fd := by
  have c2 := (Bool.and_eq_true_iff.mp (show ((cs.all fun c => c K) && fn.all fun d => d.ok K) = true from congrArg (fun z : ObO => z.1) c)).2
  have e : fn.map (fun d => fnWA K (d.adr K)) = fn.map DfO.val := congrArg (fun z : ObO => z.2) c
  have e2 : (fn.map fun d => fnWA K (d.adr K))[i]? = (fn.map DfO.val)[i]? := by rw [e]
  rw [List.getElem?_map, List.getElem?_map, h] at e2
  exact DfO.fun_ (Option.some.inj e2) (List.all_eq_true.mp c2 d (List.mem_of_getElem? h))
end
theorem gaB_ok {K : PySem.W.Frag} {h : Heap} {mg : Str → Option Value} (X : K.In h) (G : h.Ns mainGlobals mg) {x : Str} (c : gaB x K = true) : mg x = some (.ref (He.ga K x)) := He.glo_ok X G c
theorem freeB_ok {K : PySem.W.Frag} {h : Heap} {mg : Str → Option Value} (X : K.In h) (G : h.Ns mainGlobals mg) {x : Str} (c : freeB x K = true) : mg x = none := He.free_ok X G c
theorem intB_ok {K : PySem.W.Frag} {h : Heap} {mg : Str → Option Value} (X : K.In h) (G : h.Ns mainGlobals mg) {x : Str} {i : Int} (c : intB x i K = true) : ∃ t, mg x = some (.int i t) := He.int_ok X G c
theorem df_of {K : PySem.W.Frag} {mg : Str → Option Value} {x : Str} {st : Stmt} {f : Addr} (e : mg x = some (.ref f)) (F : ∃ fd, FunD K x x (defArgs st) (defBody st) (defScope st) ([].map (He.Dv.v K)) [] f fd) : Df K mg x st := by
  obtain ⟨fd, F⟩ := F
  exact ⟨⟨f, fd, fun_of F, e⟩⟩
theorem insB_ok {K : PySem.W.Frag} {x : Str} (c : insB x K = true) : InsK K x (He.ga K x) := by
  unfold insB at c
  simp only [Bool.and_eq_true, decide_eq_true_eq, List.all_cons, List.all_nil, Bool.and_true] at c
  obtain ⟨h1, h2, h3, h4, h5, h6, ⟨t1, t2, t3, t4, t5⟩, n1, n2, n3⟩ := c
  exact insK_of h1 (He.cls_ok h2) h3 h4 h5 h6 t1 t2 t3 t4 t5 n1 n2 n3
theorem madeB_ok {K : PySem.W.Frag} {h : Heap} {mg : Str → Option Value} (X : K.In h) (G : h.Ns mainGlobals mg) {x : Str} (c : madeB x K = true) (i : insB x K = true) : ClsD K mg x (He.ma K (He.ga K x) "__init__") := by
  unfold madeB at c
  simp only [Bool.and_eq_true, decide_eq_true_eq] at c
  obtain ⟨h1, h2, h3, h4⟩ := c
  have hi := insB_ok i
  exact ⟨⟨_, ⟨h1, h2, h3, h4⟩, PySem.W.mg_of X G hi.ns, hi⟩⟩
theorem methB_ok {K : PySem.W.Frag} {x m : Str} (c : methB x m K = true) : L2.Meth K (He.ga K x) m (He.ma K (He.ga K x) m) := He.meth_ok c
theorem propB_ok {K : PySem.W.Frag} {x m : Str} (c : propB x m K = true) : L2.PropOf K (He.ga K x) m (He.ma K (He.ga K x) m) (getA x m K) := by
  unfold propB at c
  simp only [Bool.and_eq_true, decide_eq_true_eq] at c
  obtain ⟨h1, h2, h3, h4⟩ := c
  refine ⟨h1, h2, h3, ?_⟩
  unfold getA
  split at h4
  · rename_i g r e
    rw [e]
    exact ⟨r, rfl⟩
  · cases h4
/-! ### the law, called -/
theorem tabB_ok {K : PySem.W.Frag} {x : Str} (c : tabB x K = true) : ∃ cb P, PySem.W.tabIn K x = some (cb, P) ∧ K.lookup P = none := by
  unfold tabB at c
  split at c
  · rename_i p e
    exact ⟨p.1, p.2, e, by simpa using c⟩
  · cases c
theorem walkTE {l : PySem.W.OpenLaw} {n k : Nat} {q : Program} {loose : List Str} {XP : (Str → Option Value) → Heap → Prop} {YP : World → Heap → Prop} {d : DefRec} {sp : PySem.W.Frag → Sp} {x : Str} {names : List Str}
    (hn : l.most = some n) (hn2 : n ≤ sizeLine) (hdf : d.params.defaults = []) (hr : Room k callerA)
    (hrec : ∀ y ∈ names, ∃ d, (recsOf q).find? (fun e => e.name == y) = some d)
    (F : ∀ (w : World) (mg : Str → Option Value) (fa : Addr) (h : Heap), YP w h → h.Ns mainGlobals mg → mg d.name = some (.ref fa) →
      ∃ (K : PySem.W.Frag), K.In h ∧ ∃ (fd : FuncData) (T : List (Addr × Addr)), (∀ p ∈ T, K.lookup p.2 = none ∧ ∃ y ∈ names, PySem.W.tabIn K y = some p) ∧ (∀ (s : Shared) (u : Value), BindsTo s fd ⟨[u], []⟩ [(x, u)]) ∧
        (∀ base : Heap, K.In base → base.Ns mainGlobals mg → (∀ p ∈ T, LamX.TabB base mg p.1 p.2) → FnG l.prog w K mg base k fa fd [x] (sp K)) ∧
        (∀ (H : Hp) (a : Addr) (ns : List Int), ns.length ≤ n → (∀ p ∈ T, H p.2 = some (.tbl #[])) → H a ≠ some (.tbl #[]) → SqL K H a (ns.map V.int) → sp K [.ref a] H (fun v _ => v = .bl true) fun _ _ _ => False)) :
    PySem.W.WalkO q loose XP YP l.row.toRowW d [] (fun f vs => PySem.call f vs) := by
  refine Att.attach_call hn hdf ?_
  intro w s0 t mg mb fa o pm cd doc a vs ns G Y ho hd hcd hmg hobj hints hlen hg
  obtain ⟨K, KX, fd, T, hT, hb, hF, hsp⟩ := F w mg fa _ Y G.T.g hmg
  have hl : ns.length ≤ sizeLine := Nat.le_trans hlen hn2
  have rv := RL.vals_ints hints
  have lv := hints.length
  have up : TabsUp K mg t.heap T := ⟨fun p hp => by
      obtain ⟨_, y, hy, e⟩ := hT p hp
      obtain ⟨d', hd'⟩ := hrec y hy
      exact (PySem.W.tab_of G.T KX hd' e).2, fun p hp => (hT p hp).1, fun p hp => by
      obtain ⟨_, y, hy, e⟩ := hT p hp
      obtain ⟨d', hd'⟩ := hrec y hy
      exact (PySem.W.tab_of G.T KX hd' e).1⟩
  have aT : ¬ ∃ p ∈ T, p.2 = a := fun ⟨p, hp, z⟩ => by
    have e := up.tab p hp
    rw [z, hobj] at e
    have z' : Data.seq vs.toArray _ = Data.fields #[] := congrArg Obj.data (Option.some.inj e)
    cases z'
  have tabOk : ∀ {b : Addr} {H : Hp}, (∃ p ∈ T, p.2 = b) → ObjOk l.prog w H t.heap b (.tbl #[]) := fun ⟨p, hp, z⟩ => by
    subst z
    exact up.tab p hp
  have go := callT KX G.T.g G.T.b G.T.builtins G.T.nolimit hg up G.T.bmain hobj hr hF hb
  cases hk : K.lookup a with
  | some ob =>
    have e := KX a ob hk
    rw [hobj] at e
    cases e
    refine go (withT T fun _ => none) ⟨fun p hp => withT_in hp, fun b => ?_, fun b z => ?_⟩ (fun b u z => ?_) (fun z => absurd (withT_out aT) z)
      (hsp _ a ns hlen (fun p hp => withT_in hp) (by rw [withT_out aT]; exact nofun) (.inr ⟨_, vs.toArray, _, hk, rfl, rfl, rfl, by rw [List.size_toArray, lv]; exact hl, by simpa using rv⟩))
    · by_cases hb2 : ∃ p ∈ T, p.2 = b
      · exact .inr (.inl hb2)
      · exact .inl (withT_out hb2)
    · by_cases hb2 : ∃ p ∈ T, p.2 = b
      · exact .inr hb2
      · exact absurd (withT_out hb2) z
    · by_cases hb2 : ∃ p ∈ T, p.2 = b
      · have e2 : withT T (fun _ => none) b = some (.tbl #[]) := by obtain ⟨p, hp, rfl⟩ := hb2; exact withT_in hp
        rw [e2] at z
        cases z
        exact tabOk hb2
      · rw [withT_out hb2] at z
        cases z
  | none =>
    let H0 : Hp := upd (fun _ => none) a (.frz { cls := .type "list", data := .seq vs.toArray } (.lst (ns.map V.int)))
    have here : withT T H0 a = some (.frz { cls := .type "list", data := .seq vs.toArray } (.lst (ns.map V.int))) := by rw [withT_out aT]; exact upd_same
    have only : ∀ b, b ≠ a → (¬ ∃ p ∈ T, p.2 = b) → withT T H0 b = none := fun b hne hb2 => by rw [withT_out hb2]; exact upd_ne hne
    refine go (withT T H0) ⟨fun p hp => withT_in hp, fun b => ?_, fun b z => ?_⟩ (fun b u z => ?_) (fun _ => hk) (hsp _ a ns hlen (fun p hp => withT_in hp) (by rw [here]; exact nofun) (.inl (.inr ⟨_, here⟩)))
    · by_cases hb2 : ∃ p ∈ T, p.2 = b
      · exact .inr (.inl hb2)
      · by_cases hba : b = a
        · subst hba; exact .inr (.inr ⟨_, _, here⟩)
        · exact .inl (only b hba hb2)
    · by_cases hb2 : ∃ p ∈ T, p.2 = b
      · exact .inr hb2
      · by_cases hba : b = a
        · exact .inl hba
        · exact absurd (only b hba hb2) z
    · by_cases hb2 : ∃ p ∈ T, p.2 = b
      · have e2 : withT T H0 b = some (.tbl #[]) := by obtain ⟨p, hp, rfl⟩ := hb2; exact withT_in hp
        rw [e2] at z
        cases z
        exact tabOk hb2
      · by_cases hba : b = a
        · subst hba
          rw [here] at z
          cases z
          exact ⟨hobj, by rw [List.length_map]; exact hl, vs, _, rv, hobj⟩
        · rw [only b hba hb2] at z
          cases z
end MP
namespace MP
open PySem PySem.Spec PyProof.Rows L2 RL LamX
/-! ### the law's own call, with several tables -/
def tabsO (xs : List Str) : Sto := xs.map fun x => .x (.tb x)
theorem law_spTs {K : PySem.W.Frag} {G : FD} {H : Hp} {a : Addr} {ns : List Int} {xs : List Str} {T : List (Addr × Addr)} {so' : Sto} (hl : T.length = xs.length) (ht : ∀ (i : Nat) (x : Str) (p : Addr × Addr), xs[i]? = some x → T[i]? = some p → PySem.W.tabIn K x = some p) (nd : (T.map (·.2)).Nodup)
    (h : G [.s ns] (tabsO xs) = some (.bool true, so')) (hP : ∀ p ∈ T, H p.2 = some (.tbl #[])) (ha : H a ≠ some (.tbl #[])) (hS : SqL K H a (ns.map V.int)) (E : XK) :
    spF K 1 G [.ref a] H (fun v _ => v = .bl true) E := by
  have ne : a ∉ T.map (·.2) := fun z => by
    obtain ⟨p, hp, e⟩ := List.mem_map.mp z
    exact ha (by rw [← e]; exact hP p hp)
  let F : Hp := fun b => if b ∈ T.map (·.2) then none else H b
  have fP : ∀ b, b ∈ T.map (·.2) → F b = none := fun b hb => if_pos hb
  have fo : ∀ b, b ∉ T.map (·.2) → F b = H b := fun b hb => if_neg hb
  have sF : Same F H := fun b o hb => by
    by_cases e : b ∈ T.map (·.2)
    · rw [fP b e] at hb; cases hb
    · rw [fo b e] at hb; exact hb
  have hF : SqL K F a (ns.map V.int) := by
    rcases hS with (q | ⟨o, q⟩) | q
    · exact .inl (.inl (by rw [fo a ne]; exact q))
    · exact .inl (.inr ⟨o, by rw [fo a ne]; exact q⟩)
    · exact .inr q
  have at_ : ∀ {k : Nat} {b : Addr}, ((T.map (·.2)).map some)[k]? = some (some b) → ∃ p, T[k]? = some p ∧ p.2 = b := fun {k b} hb => by
    rw [List.map_map, List.getElem?_map] at hb
    cases e : T[k]? with
    | none => rw [e] at hb; cases hb
    | some p => rw [e] at hb; cases hb; exact ⟨p, rfl, rfl⟩
  refine ⟨rfl, F, (T.map (·.2)).map some, tabsO xs, [.s ns], .bool true, so', ⟨sF, by unfold tabsO; rw [List.length_map, List.length_map, List.length_map, hl], fun k b w hb hw => ?_, fun j k b hj hk => ?_, fun k b hb => ?_⟩, ⟨rfl, fun i v s hv hs => ?_⟩, h, fun F' H' v _ _ hd => ?_⟩
  · unfold tabsO at hw
    obtain ⟨x, hx, rfl⟩ := get_map hw
    cases b with
    | none =>
      rw [List.map_map, List.getElem?_map] at hb
      cases e : T[k]? with
      | none => rw [e] at hb; cases hb
      | some p => rw [e] at hb; cases hb
    | some b =>
      obtain ⟨p, hp, rfl⟩ := at_ hb
      exact ⟨fP _ (List.mem_map.mpr ⟨p, List.mem_of_getElem? hp, rfl⟩), _, hP p (List.mem_of_getElem? hp), #[], rfl, ⟨p.1, ht k x p hx hp⟩, True.intro, fun pos cv hc => by
        have z : codeAmong pos [] = some cv := hc
        simp [codeAmong] at z⟩
  · obtain ⟨p, hp, e1⟩ := at_ hj
    obtain ⟨q, hq, e2⟩ := at_ hk
    have lj : j < (T.map (·.2)).length := by rw [List.length_map]; exact (List.getElem?_eq_some_iff.mp hp).1
    refine (List.getElem?_inj lj nd).mp ?_
    rw [List.getElem?_map, List.getElem?_map, hp, hq]
    show some p.2 = some q.2
    rw [e1, e2]
  · obtain ⟨p, hp, rfl⟩ := at_ hb
    rw [hP p (List.mem_of_getElem? hp)]
    exact nofun
  · cases i with
    | zero =>
      cases hv
      cases hs
      exact ⟨_, rfl, a, hF, rfl⟩
    | succ i => simp at hv
  · cases hd
    rfl
/-! ### the tables, found at the end of the top -/
theorem tabsB_ok {K : PySem.W.Frag} {xs : List Str} (h : tabsB xs K = true) : (xs.map fun x => (PySem.W.tabIn K x).map (·.2)).Nodup := of_decide_eq_true h
theorem tabs_nd {T : List (Addr × Addr)} (h : (T.map fun p => some p.2).Nodup) : (T.map (·.2)).Nodup := by
  have e : (T.map fun p => some p.2) = (T.map (·.2)).map some := by rw [List.map_map]; rfl
  rw [e] at h
  exact (List.pairwise_map.mp h).imp fun h e => h (congrArg some e)
/-- each table's name and place -/
def tabsAt (K : PySem.W.Frag) : List Str → List (Addr × Addr) → Prop
  | x :: xs, p :: T => PySem.W.tabIn K x = some p ∧ tabsAt K xs T
  | _, _ => True
theorem tabs_at {K : PySem.W.Frag} : ∀ {xs : List Str} {T : List (Addr × Addr)}, tabsAt K xs T → ∀ (i : Nat) (x : Str) (p : Addr × Addr), xs[i]? = some x → T[i]? = some p → PySem.W.tabIn K x = some p
  | [], _, _, i, x, p, h, _ => by simp at h
  | _ :: _, [], _, i, x, p, _, h => by simp at h
  | y :: xs, q :: T, h, i, x, p, h1, h2 => by
    cases i with
    | zero => cases h1; cases h2; exact h.1
    | succ i => exact tabs_at h.2 i x p (by simpa using h1) (by simpa using h2)
end MP
namespace MP
open PySem PySem.Spec PyProof.Rows L2 RL
theorem law_end {K : PySem.W.Frag} {mg : Str → Option Value} {fa : Addr} (D : Df K mg "law" s_law) (e : mg "law" = some (.ref fa)) : ∃ fd, Fun K "law" "law" s_law fa fd ∧ ∀ (s : Shared) (u : Value), BindsTo s fd ⟨[u], []⟩ [("_law_script", u)] := by
  obtain ⟨f, fd, F, g⟩ := D.ex
  rw [g] at e
  cases e
  refine ⟨fd, F, ?_⟩
  obtain ⟨oc, od, kV, doc, pm, an, cdv, ct, osl, rfl, lk, hcd⟩ := F.ex
  exact fun s u => .of_eq rfl
theorem law_all {P : Program} {w : World} {K : PySem.W.Frag} {mg : Str → Option Value} {fa : Addr} (e : mg "law" = some (.ref fa)) (Z : Zs mg) {h : Heap} (X : K.In h) (G : h.Ns mainGlobals mg) {c_law P_law : Addr} (ht_law : PySem.W.tabIn K "law" = some (c_law, P_law))
    (X_AmountError : ExC K mg "AmountError")
    (X_CellError : ExC K mg "CellError")
    (X_RollupError : ExC K mg "RollupError")
    (X_SchemeError : ExC K mg "SchemeError")
    (X_TableError : ExC K mg "TableError")
    {t_PART_DIGITS : Tok} (m_PART_DIGITS : mg "PART_DIGITS" = some (.int 60 t_PART_DIGITS))
    {t_PART : Tok} (m_PART : mg "PART" = some (.int 1000000000000000000000000000000000000000000000000000000000000 t_PART))
    {t_MOST_ATTRIBUTES : Tok} (m_MOST_ATTRIBUTES : mg "MOST_ATTRIBUTES" = some (.int 3 t_MOST_ATTRIBUTES))
    {t_MOST_VALUES : Tok} (m_MOST_VALUES : mg "MOST_VALUES" = some (.int 6 t_MOST_VALUES))
    {t_MOST_STEPS : Tok} (m_MOST_STEPS : mg "MOST_STEPS" = some (.int 3 t_MOST_STEPS))
    {t_MOST_CELLS : Tok} (m_MOST_CELLS : mg "MOST_CELLS" = some (.int 60 t_MOST_CELLS))
    {t_MOST_PUT : Tok} (m_MOST_PUT : mg "MOST_PUT" = some (.int 1000000 t_MOST_PUT))
    (D__wall : Df K mg "_wall" s__wall)
    (D_is_integer : Df K mg "is_integer" s_is_integer)
    (D_is_number_from : Df K mg "is_number_from" s_is_number_from)
    (D_are_integers : Df K mg "are_integers" s_are_integers)
    (D_are_numbers_below : Df K mg "are_numbers_below" s_are_numbers_below)
    (D_written : Df K mg "written" s_written)
    (D_groups_of_step : Df K mg "groups_of_step" s_groups_of_step)
    (D_is_attribute : Df K mg "is_attribute" s_is_attribute)
    (D_count_of_cells : Df K mg "count_of_cells" s_count_of_cells)
    (D_group_count : Df K mg "group_count" s_group_count)
    (D_group_counts : Df K mg "group_counts" s_group_counts)
    (D_groups_above : Df K mg "groups_above" s_groups_above)
    (D_finest : Df K mg "finest" s_finest)
    (D_size_of : Df K mg "size_of" s_size_of)
    (D_place_of : Df K mg "place_of" s_place_of)
    (D_is_rollup : Df K mg "is_rollup" s_is_rollup)
    (D_is_cell : Df K mg "is_cell" s_is_cell)
    (D_is_scheme : Df K mg "is_scheme" s_is_scheme)
    (D_check_scheme : Df K mg "check_scheme" s_check_scheme)
    (D_check_rollup : Df K mg "check_rollup" s_check_rollup)
    (D_check_cell : Df K mg "check_cell" s_check_cell)
    (D_is_table_of : Df K mg "is_table_of" s_is_table_of)
    (D_turned : Df K mg "turned" s_turned)
    (D_added_up : Df K mg "added_up" s_added_up)
    (D_sums_at : Df K mg "sums_at" s_sums_at)
    (D_no_amounts : Df K mg "no_amounts" s_no_amounts)
    (D_with_more : Df K mg "with_more" s_with_more)
    (D_check_put : Df K mg "check_put" s_check_put)
    (D_check_table : Df K mg "check_table" s_check_table)
    (D__law_cell : Df K mg "_law_cell" s__law_cell)
    (D__law_draws : Df K mg "_law_draws" s__law_draws)
    (D__law_is_same : Df K mg "_law_is_same" s__law_is_same)
    (D__law_attribute : Df K mg "_law_attribute" s__law_attribute)
    (D__law_scheme : Df K mg "_law_scheme" s__law_scheme)
    (D__law_below : Df K mg "_law_below" s__law_below)
    (D__law_fine_cells : Df K mg "_law_fine_cells" s__law_fine_cells)
    (D__law_table : Df K mg "_law_table" s__law_table)
    (D__law_no_schemes : Df K mg "_law_no_schemes" s__law_no_schemes)
    (D__law_said : Df K mg "_law_said" s__law_said)
    (D__law_told : Df K mg "_law_told" s__law_told)
    (D__law_due : Df K mg "_law_due" s__law_due)
    (D__law_no_tables : Df K mg "_law_no_tables" s__law_no_tables)
    (D_law : Df K mg "law" s_law)
    {CU CL CE : Addr} (mU : mg "Unknown" = some (.ref CU)) (mL : mg "LimitError" = some (.ref CL)) (mE : mg "LevelsError" = some (.ref CE))
    (sv : ∀ p ∈ saidL__law_said, ∃ D, ServE K mg p.1 D (saidB__law_said p.1) ∧ PySem.W.exmOne K (.ref D) (.ref CU) = some false ∧ PySem.W.exmOne K (.ref D) (.ref CL) = some false ∧ PySem.W.exmOne K (.ref D) (.ref CE) = some true)
    {kc_Cube : Addr} (K_Cube : InsK K "Cube" kc_Cube) {fi_Cube : Addr} (D_Cube : ClsD K mg "Cube" fi_Cube) {fd_Cube : FuncData} (F_Cube_ : FunD K "__init__" "Cube.__init__" (defArgs s_Cube) (defBody s_Cube) (defScope s_Cube) [V.non] [] fi_Cube fd_Cube)
    {pm2_Cube_total fm_Cube_total : Addr} (M_Cube_total : L2.PropOf K kc_Cube "total" pm2_Cube_total fm_Cube_total) {fd_Cube_total : FuncData} (F_Cube_total_ : Fun K "total" "Cube.total" s_Cube_total fm_Cube_total fd_Cube_total)
    {fm_Cube_len : Addr} (M_Cube_len : L2.Meth K kc_Cube "__len__" fm_Cube_len) {fd_Cube_len : FuncData} (F_Cube_len_ : Fun K "__len__" "Cube.__len__" s_Cube_len fm_Cube_len fd_Cube_len)
    {fm_Cube_repr : Addr} (M_Cube_repr : L2.Meth K kc_Cube "__repr__" fm_Cube_repr) {fd_Cube_repr : FuncData} (F_Cube_repr_ : Fun K "__repr__" "Cube.__repr__" s_Cube_repr fm_Cube_repr fd_Cube_repr)
    {pm2_Cube_scheme fm_Cube_scheme : Addr} (M_Cube_scheme : L2.PropOf K kc_Cube "scheme" pm2_Cube_scheme fm_Cube_scheme) {fd_Cube_scheme : FuncData} (F_Cube_scheme_ : Fun K "scheme" "Cube.scheme" s_Cube_scheme fm_Cube_scheme fd_Cube_scheme)
    {pm2_Cube_table fm_Cube_table : Addr} (M_Cube_table : L2.PropOf K kc_Cube "table" pm2_Cube_table fm_Cube_table) {fd_Cube_table : FuncData} (F_Cube_table_ : Fun K "table" "Cube.table" s_Cube_table fm_Cube_table fd_Cube_table)
    {pm2_Cube_changes fm_Cube_changes : Addr} (M_Cube_changes : L2.PropOf K kc_Cube "changes" pm2_Cube_changes fm_Cube_changes) {fd_Cube_changes : FuncData} (F_Cube_changes_ : Fun K "changes" "Cube.changes" s_Cube_changes fm_Cube_changes fd_Cube_changes)
    : ∃ fd : FuncData, (∀ (s : Shared) (u : Value), BindsTo s fd ⟨[u], []⟩ [("_law_script", u)]) ∧ ∀ base : Heap, LamX.TabB base mg c_law P_law → FnG P w K mg base 22 fa fd ["_law_script"] (spF K 1 F_law) := by
  obtain ⟨fd, F, hb⟩ := law_end D_law e
  have hc := law_codeT X G ht_law e F
  refine ⟨fd, hb, fun base TB_law => ?_⟩
  have C__wall := pd__wall (P := P) (w := w) (base := base) D__wall Z   
  have C_is_integer := pd_is_integer (P := P) (w := w) (base := base) D_is_integer Z   
  have C_is_number_from := pd_is_number_from (P := P) (w := w) (base := base) D_is_number_from Z   C_is_integer
  have C_are_integers := pd_are_integers (P := P) (w := w) (base := base) D_are_integers Z   
  have C_are_numbers_below := pd_are_numbers_below (P := P) (w := w) (base := base) D_are_numbers_below Z   
  have C_written := pd_written (P := P) (w := w) (base := base) D_written Z  m_PART_DIGITS m_PART 
  have C_groups_of_step := pd_groups_of_step (P := P) (w := w) (base := base) D_groups_of_step Z   
  have C_is_attribute := pd_is_attribute (P := P) (w := w) (base := base) D_is_attribute Z  m_MOST_VALUES m_MOST_STEPS C_is_number_from C_groups_of_step
  have C_count_of_cells := pd_count_of_cells (P := P) (w := w) (base := base) D_count_of_cells Z   
  have C_group_count := pd_group_count (P := P) (w := w) (base := base) D_group_count Z   
  have C_group_counts := pd_group_counts (P := P) (w := w) (base := base) D_group_counts Z   C_group_count
  have C_groups_above := pd_groups_above (P := P) (w := w) (base := base) D_groups_above Z   C_group_count
  have C_finest := pd_finest (P := P) (w := w) (base := base) D_finest Z   
  have C_size_of := pd_size_of (P := P) (w := w) (base := base) D_size_of Z   C_group_count
  have C_place_of := pd_place_of (P := P) (w := w) (base := base) D_place_of Z   C_group_counts
  have C_is_rollup := pd_is_rollup (P := P) (w := w) (base := base) D_is_rollup Z   
  have C_is_cell := pd_is_cell (P := P) (w := w) (base := base) D_is_cell Z   C_are_numbers_below C_group_counts
  have C_is_scheme := pd_is_scheme (P := P) (w := w) (base := base) D_is_scheme Z  m_MOST_ATTRIBUTES m_MOST_CELLS C_is_attribute C_count_of_cells
  have C_check_scheme := pd_check_scheme (P := P) (w := w) (base := base) D_check_scheme Z X_SchemeError  C_is_scheme
  have C_check_rollup := pd_check_rollup (P := P) (w := w) (base := base) D_check_rollup Z X_RollupError  C_is_rollup
  have C_check_cell := pd_check_cell (P := P) (w := w) (base := base) D_check_cell Z X_CellError  C_is_cell
  have C_is_table_of := pd_is_table_of (P := P) (w := w) (base := base) D_is_table_of Z   C_are_integers C_count_of_cells
  have C_turned := pd_turned (P := P) (w := w) (base := base) D_turned Z   C_group_count C_groups_above
  have C_added_up := pd_added_up (P := P) (w := w) (base := base) D_added_up Z   C_turned
  have C_sums_at := pd_sums_at (P := P) (w := w) (base := base) D_sums_at Z   C_finest C_added_up
  have C_no_amounts := pd_no_amounts (P := P) (w := w) (base := base) D_no_amounts Z   C_size_of
  have C_with_more := pd_with_more (P := P) (w := w) (base := base) D_with_more Z   C_place_of
  have C_check_put := pd_check_put (P := P) (w := w) (base := base) D_check_put Z X_AmountError m_MOST_PUT C_is_number_from C_finest C_check_cell
  have C_check_table := pd_check_table (P := P) (w := w) (base := base) D_check_table Z X_TableError  C_is_table_of
  have C__law_cell := pd__law_cell (P := P) (w := w) (base := base) D__law_cell Z   
  have C__law_draws := pd__law_draws (P := P) (w := w) (base := base) D__law_draws Z   
  have C__law_is_same := pd__law_is_same (P := P) (w := w) (base := base) D__law_is_same Z    8
  have C__law_attribute := pd__law_attribute (P := P) (w := w) (base := base) D__law_attribute Z   
  have C__law_scheme := pd__law_scheme (P := P) (w := w) (base := base) D__law_scheme Z   C__law_draws C__law_attribute
  have C__law_below := pd__law_below (P := P) (w := w) (base := base) D__law_below Z   
  have C__law_fine_cells := pd__law_fine_cells (P := P) (w := w) (base := base) D__law_fine_cells Z   C__law_below
  have C__law_table := pd__law_table (P := P) (w := w) (base := base) D__law_table Z   C__law_draws C__law_fine_cells
  have C__law_no_schemes := pd__law_no_schemes (P := P) (w := w) (base := base) D__law_no_schemes Z   
  have C_Cube_total := pd_Cube_total (P := P) (w := w) (base := base) K_Cube M_Cube_total F_Cube_total_ Z   
  have C_Cube_len := pd_Cube_len (P := P) (w := w) (base := base) K_Cube M_Cube_len F_Cube_len_ Z   
  have C_Cube_repr := pd_Cube_repr (P := P) (w := w) (base := base) K_Cube M_Cube_repr F_Cube_repr_ Z   C_written C_Cube_total C_Cube_len
  have C__law_said := pd__law_said (P := P) (w := w) (base := base) D__law_said Z mU mL mE sv said_val
  have C_Cube_scheme := pd_Cube_scheme (P := P) (w := w) (base := base) K_Cube M_Cube_scheme F_Cube_scheme_ Z   
  have C_Cube_table := pd_Cube_table (P := P) (w := w) (base := base) K_Cube M_Cube_table F_Cube_table_ Z   
  have C_Cube_changes := pd_Cube_changes (P := P) (w := w) (base := base) K_Cube M_Cube_changes F_Cube_changes_ Z   
  have C__law_told := pd__law_told (P := P) (w := w) (base := base) D__law_told Z   C_Cube_total C_Cube_len C_Cube_repr C_Cube_scheme C_Cube_table C_Cube_changes
  have C__law_due := pd__law_due (P := P) (w := w) (base := base) D__law_due Z   
  have C__law_no_tables := pd__law_no_tables (P := P) (w := w) (base := base) D__law_no_tables Z   
  have C_Cube := pd_Cube (P := P) (w := w) (base := base) D_Cube F_Cube_ Z   C_finest C_check_scheme C_no_amounts C_check_table
  exact pd_law F Z   C__law_cell C__law_is_same C__law_scheme C__law_fine_cells C__law_table C__law_no_schemes C_Cube_repr C__law_said C__law_told C__law_due C__law_no_tables C_Cube ht_law hc TB_law
theorem facts_of {P : Program} {w : World} {K : PySem.W.Frag} {h : Heap} {mg : Str → Option Value} {fa : Addr} (X : K.In h) (G : h.Ns mainGlobals mg) (e : mg "law" = some (.ref fa)) (c : obsO csL fnL K = valO fnL) :
    ∃ (fd : FuncData) (T : List (Addr × Addr)), (∀ p ∈ T, K.lookup p.2 = none ∧ ∃ y ∈ (["law"] : List Str), PySem.W.tabIn K y = some p) ∧ (∀ (s : Shared) (u : Value), BindsTo s fd ⟨[u], []⟩ [("_law_script", u)]) ∧
        (∀ (H : Hp) (a : Addr) (ns : List Int), ns.length ≤ 63 → (∀ p ∈ T, H p.2 = some (.tbl #[])) → H a ≠ some (.tbl #[]) → SqL K H a (ns.map V.int) → spF K 1 F_law [.ref a] H (fun v _ => v = .bl true) fun _ _ _ => False) ∧
        ∀ base : Heap, K.In base → base.Ns mainGlobals mg → (∀ p ∈ T, LamX.TabB base mg p.1 p.2) → FnG P w K mg base 22 fa fd ["_law_script"] (spF K 1 F_law) := by
  have cg_AmountError : PySem.W.nsIn K mainGlobals "AmountError" = some (some (.ref (He.ga K "AmountError"))) := of_decide_eq_true (saysO_at c 0)
  have cb_AmountError : PySem.W.subIn K (.ref (He.ga K "AmountError")) (.type "BaseException") = some true := of_decide_eq_true (saysO_at c 1)
  have ct_AmountError : PySem.W.typeIn K (.ref (He.ga K "AmountError")) = some (.type "type") := of_decide_eq_true (saysO_at c 2)
  have cg_CellError : PySem.W.nsIn K mainGlobals "CellError" = some (some (.ref (He.ga K "CellError"))) := of_decide_eq_true (saysO_at c 3)
  have cb_CellError : PySem.W.subIn K (.ref (He.ga K "CellError")) (.type "BaseException") = some true := of_decide_eq_true (saysO_at c 4)
  have ct_CellError : PySem.W.typeIn K (.ref (He.ga K "CellError")) = some (.type "type") := of_decide_eq_true (saysO_at c 5)
  have cg_CubeError : PySem.W.nsIn K mainGlobals "CubeError" = some (some (.ref (He.ga K "CubeError"))) := of_decide_eq_true (saysO_at c 6)
  have cb_CubeError : PySem.W.subIn K (.ref (He.ga K "CubeError")) (.type "BaseException") = some true := of_decide_eq_true (saysO_at c 7)
  have ct_CubeError : PySem.W.typeIn K (.ref (He.ga K "CubeError")) = some (.type "type") := of_decide_eq_true (saysO_at c 8)
  have cg_LevelsError : PySem.W.nsIn K mainGlobals "LevelsError" = some (some (.ref (He.ga K "LevelsError"))) := of_decide_eq_true (saysO_at c 9)
  have cb_LevelsError : PySem.W.subIn K (.ref (He.ga K "LevelsError")) (.type "BaseException") = some true := of_decide_eq_true (saysO_at c 10)
  have ct_LevelsError : PySem.W.typeIn K (.ref (He.ga K "LevelsError")) = some (.type "type") := of_decide_eq_true (saysO_at c 11)
  have cg_LimitError : PySem.W.nsIn K mainGlobals "LimitError" = some (some (.ref (He.ga K "LimitError"))) := of_decide_eq_true (saysO_at c 12)
  have cb_LimitError : PySem.W.subIn K (.ref (He.ga K "LimitError")) (.type "BaseException") = some true := of_decide_eq_true (saysO_at c 13)
  have ct_LimitError : PySem.W.typeIn K (.ref (He.ga K "LimitError")) = some (.type "type") := of_decide_eq_true (saysO_at c 14)
  have cg_MatchError : PySem.W.nsIn K mainGlobals "MatchError" = some (some (.ref (He.ga K "MatchError"))) := of_decide_eq_true (saysO_at c 15)
  have cb_MatchError : PySem.W.subIn K (.ref (He.ga K "MatchError")) (.type "BaseException") = some true := of_decide_eq_true (saysO_at c 16)
  have ct_MatchError : PySem.W.typeIn K (.ref (He.ga K "MatchError")) = some (.type "type") := of_decide_eq_true (saysO_at c 17)
  have cg_NothingDone : PySem.W.nsIn K mainGlobals "NothingDone" = some (some (.ref (He.ga K "NothingDone"))) := of_decide_eq_true (saysO_at c 18)
  have cb_NothingDone : PySem.W.subIn K (.ref (He.ga K "NothingDone")) (.type "BaseException") = some true := of_decide_eq_true (saysO_at c 19)
  have ct_NothingDone : PySem.W.typeIn K (.ref (He.ga K "NothingDone")) = some (.type "type") := of_decide_eq_true (saysO_at c 20)
  have cg_NumberError : PySem.W.nsIn K mainGlobals "NumberError" = some (some (.ref (He.ga K "NumberError"))) := of_decide_eq_true (saysO_at c 21)
  have cb_NumberError : PySem.W.subIn K (.ref (He.ga K "NumberError")) (.type "BaseException") = some true := of_decide_eq_true (saysO_at c 22)
  have ct_NumberError : PySem.W.typeIn K (.ref (He.ga K "NumberError")) = some (.type "type") := of_decide_eq_true (saysO_at c 23)
  have cg_OrderError : PySem.W.nsIn K mainGlobals "OrderError" = some (some (.ref (He.ga K "OrderError"))) := of_decide_eq_true (saysO_at c 24)
  have cb_OrderError : PySem.W.subIn K (.ref (He.ga K "OrderError")) (.type "BaseException") = some true := of_decide_eq_true (saysO_at c 25)
  have ct_OrderError : PySem.W.typeIn K (.ref (He.ga K "OrderError")) = some (.type "type") := of_decide_eq_true (saysO_at c 26)
  have cg_PlaceError : PySem.W.nsIn K mainGlobals "PlaceError" = some (some (.ref (He.ga K "PlaceError"))) := of_decide_eq_true (saysO_at c 27)
  have cb_PlaceError : PySem.W.subIn K (.ref (He.ga K "PlaceError")) (.type "BaseException") = some true := of_decide_eq_true (saysO_at c 28)
  have ct_PlaceError : PySem.W.typeIn K (.ref (He.ga K "PlaceError")) = some (.type "type") := of_decide_eq_true (saysO_at c 29)
  have cg_ReportError : PySem.W.nsIn K mainGlobals "ReportError" = some (some (.ref (He.ga K "ReportError"))) := of_decide_eq_true (saysO_at c 30)
  have cb_ReportError : PySem.W.subIn K (.ref (He.ga K "ReportError")) (.type "BaseException") = some true := of_decide_eq_true (saysO_at c 31)
  have ct_ReportError : PySem.W.typeIn K (.ref (He.ga K "ReportError")) = some (.type "type") := of_decide_eq_true (saysO_at c 32)
  have cg_RollupError : PySem.W.nsIn K mainGlobals "RollupError" = some (some (.ref (He.ga K "RollupError"))) := of_decide_eq_true (saysO_at c 33)
  have cb_RollupError : PySem.W.subIn K (.ref (He.ga K "RollupError")) (.type "BaseException") = some true := of_decide_eq_true (saysO_at c 34)
  have ct_RollupError : PySem.W.typeIn K (.ref (He.ga K "RollupError")) = some (.type "type") := of_decide_eq_true (saysO_at c 35)
  have cg_SchemeError : PySem.W.nsIn K mainGlobals "SchemeError" = some (some (.ref (He.ga K "SchemeError"))) := of_decide_eq_true (saysO_at c 36)
  have cb_SchemeError : PySem.W.subIn K (.ref (He.ga K "SchemeError")) (.type "BaseException") = some true := of_decide_eq_true (saysO_at c 37)
  have ct_SchemeError : PySem.W.typeIn K (.ref (He.ga K "SchemeError")) = some (.type "type") := of_decide_eq_true (saysO_at c 38)
  have cg_StoredError : PySem.W.nsIn K mainGlobals "StoredError" = some (some (.ref (He.ga K "StoredError"))) := of_decide_eq_true (saysO_at c 39)
  have cb_StoredError : PySem.W.subIn K (.ref (He.ga K "StoredError")) (.type "BaseException") = some true := of_decide_eq_true (saysO_at c 40)
  have ct_StoredError : PySem.W.typeIn K (.ref (He.ga K "StoredError")) = some (.type "type") := of_decide_eq_true (saysO_at c 41)
  have cg_SumsError : PySem.W.nsIn K mainGlobals "SumsError" = some (some (.ref (He.ga K "SumsError"))) := of_decide_eq_true (saysO_at c 42)
  have cb_SumsError : PySem.W.subIn K (.ref (He.ga K "SumsError")) (.type "BaseException") = some true := of_decide_eq_true (saysO_at c 43)
  have ct_SumsError : PySem.W.typeIn K (.ref (He.ga K "SumsError")) = some (.type "type") := of_decide_eq_true (saysO_at c 44)
  have cg_TableError : PySem.W.nsIn K mainGlobals "TableError" = some (some (.ref (He.ga K "TableError"))) := of_decide_eq_true (saysO_at c 45)
  have cb_TableError : PySem.W.subIn K (.ref (He.ga K "TableError")) (.type "BaseException") = some true := of_decide_eq_true (saysO_at c 46)
  have ct_TableError : PySem.W.typeIn K (.ref (He.ga K "TableError")) = some (.type "type") := of_decide_eq_true (saysO_at c 47)
  have cg_TextError : PySem.W.nsIn K mainGlobals "TextError" = some (some (.ref (He.ga K "TextError"))) := of_decide_eq_true (saysO_at c 48)
  have cb_TextError : PySem.W.subIn K (.ref (He.ga K "TextError")) (.type "BaseException") = some true := of_decide_eq_true (saysO_at c 49)
  have ct_TextError : PySem.W.typeIn K (.ref (He.ga K "TextError")) = some (.type "type") := of_decide_eq_true (saysO_at c 50)
  have cg_Unknown : PySem.W.nsIn K mainGlobals "Unknown" = some (some (.ref (He.ga K "Unknown"))) := of_decide_eq_true (saysO_at c 51)
  have cb_Unknown : PySem.W.subIn K (.ref (He.ga K "Unknown")) (.type "BaseException") = some true := of_decide_eq_true (saysO_at c 52)
  have ct_Unknown : PySem.W.typeIn K (.ref (He.ga K "Unknown")) = some (.type "type") := of_decide_eq_true (saysO_at c 53)
  have cx_AmountError : PySem.W.excIn K (He.ga K "AmountError") [.type "ValueError", .type "Exception", .type "BaseException", .type "object"] "ValueError.__new__" = true := of_decide_eq_true (saysO_at c 54)
  have ck_AmountError : PySem.W.keepIn K (.ref (He.ga K "AmountError")) = true := of_decide_eq_true (saysO_at c 55)
  have cx_CellError : PySem.W.excIn K (He.ga K "CellError") [.type "ValueError", .type "Exception", .type "BaseException", .type "object"] "ValueError.__new__" = true := of_decide_eq_true (saysO_at c 56)
  have ck_CellError : PySem.W.keepIn K (.ref (He.ga K "CellError")) = true := of_decide_eq_true (saysO_at c 57)
  have cx_RollupError : PySem.W.excIn K (He.ga K "RollupError") [.type "ValueError", .type "Exception", .type "BaseException", .type "object"] "ValueError.__new__" = true := of_decide_eq_true (saysO_at c 58)
  have ck_RollupError : PySem.W.keepIn K (.ref (He.ga K "RollupError")) = true := of_decide_eq_true (saysO_at c 59)
  have cx_SchemeError : PySem.W.excIn K (He.ga K "SchemeError") [.type "ValueError", .type "Exception", .type "BaseException", .type "object"] "ValueError.__new__" = true := of_decide_eq_true (saysO_at c 60)
  have ck_SchemeError : PySem.W.keepIn K (.ref (He.ga K "SchemeError")) = true := of_decide_eq_true (saysO_at c 61)
  have cx_TableError : PySem.W.excIn K (He.ga K "TableError") [.type "ValueError", .type "Exception", .type "BaseException", .type "object"] "ValueError.__new__" = true := of_decide_eq_true (saysO_at c 62)
  have ck_TableError : PySem.W.keepIn K (.ref (He.ga K "TableError")) = true := of_decide_eq_true (saysO_at c 63)
  have ch_AmountError : PySem.W.hasDictIn K (He.ga K "AmountError") = true := of_decide_eq_true (saysO_at c 64)
  have ch_CellError : PySem.W.hasDictIn K (He.ga K "CellError") = true := of_decide_eq_true (saysO_at c 65)
  have ch_CubeError : PySem.W.hasDictIn K (He.ga K "CubeError") = true := of_decide_eq_true (saysO_at c 66)
  have ch_LevelsError : PySem.W.hasDictIn K (He.ga K "LevelsError") = true := of_decide_eq_true (saysO_at c 67)
  have ch_LimitError : PySem.W.hasDictIn K (He.ga K "LimitError") = true := of_decide_eq_true (saysO_at c 68)
  have ch_MatchError : PySem.W.hasDictIn K (He.ga K "MatchError") = true := of_decide_eq_true (saysO_at c 69)
  have ch_NothingDone : PySem.W.hasDictIn K (He.ga K "NothingDone") = true := of_decide_eq_true (saysO_at c 70)
  have ch_NumberError : PySem.W.hasDictIn K (He.ga K "NumberError") = true := of_decide_eq_true (saysO_at c 71)
  have ch_OrderError : PySem.W.hasDictIn K (He.ga K "OrderError") = true := of_decide_eq_true (saysO_at c 72)
  have ch_PlaceError : PySem.W.hasDictIn K (He.ga K "PlaceError") = true := of_decide_eq_true (saysO_at c 73)
  have ch_ReportError : PySem.W.hasDictIn K (He.ga K "ReportError") = true := of_decide_eq_true (saysO_at c 74)
  have ch_RollupError : PySem.W.hasDictIn K (He.ga K "RollupError") = true := of_decide_eq_true (saysO_at c 75)
  have ch_SchemeError : PySem.W.hasDictIn K (He.ga K "SchemeError") = true := of_decide_eq_true (saysO_at c 76)
  have ch_StoredError : PySem.W.hasDictIn K (He.ga K "StoredError") = true := of_decide_eq_true (saysO_at c 77)
  have ch_SumsError : PySem.W.hasDictIn K (He.ga K "SumsError") = true := of_decide_eq_true (saysO_at c 78)
  have ch_TableError : PySem.W.hasDictIn K (He.ga K "TableError") = true := of_decide_eq_true (saysO_at c 79)
  have ch_TextError : PySem.W.hasDictIn K (He.ga K "TextError") = true := of_decide_eq_true (saysO_at c 80)
  have ch_Unknown : PySem.W.hasDictIn K (He.ga K "Unknown") = true := of_decide_eq_true (saysO_at c 81)
  have cs_SchemeError_Unknown : PySem.W.subIn K (.ref (He.ga K "SchemeError")) (.ref (He.ga K "Unknown")) = some false := of_decide_eq_true (saysO_at c 82)
  have cs_SchemeError_LimitError : PySem.W.subIn K (.ref (He.ga K "SchemeError")) (.ref (He.ga K "LimitError")) = some false := of_decide_eq_true (saysO_at c 83)
  have cs_SchemeError_LevelsError : PySem.W.subIn K (.ref (He.ga K "SchemeError")) (.ref (He.ga K "LevelsError")) = some true := of_decide_eq_true (saysO_at c 84)
  have cs_SchemeError_SchemeError : PySem.W.subIn K (.ref (He.ga K "SchemeError")) (.ref (He.ga K "SchemeError")) = some true := of_decide_eq_true (saysO_at c 85)
  have cs_SchemeError_RollupError : PySem.W.subIn K (.ref (He.ga K "SchemeError")) (.ref (He.ga K "RollupError")) = some false := of_decide_eq_true (saysO_at c 86)
  have cs_SchemeError_CellError : PySem.W.subIn K (.ref (He.ga K "SchemeError")) (.ref (He.ga K "CellError")) = some false := of_decide_eq_true (saysO_at c 87)
  have cs_SchemeError_TableError : PySem.W.subIn K (.ref (He.ga K "SchemeError")) (.ref (He.ga K "TableError")) = some false := of_decide_eq_true (saysO_at c 88)
  have cs_SchemeError_StoredError : PySem.W.subIn K (.ref (He.ga K "SchemeError")) (.ref (He.ga K "StoredError")) = some false := of_decide_eq_true (saysO_at c 89)
  have cs_SchemeError_ReportError : PySem.W.subIn K (.ref (He.ga K "SchemeError")) (.ref (He.ga K "ReportError")) = some false := of_decide_eq_true (saysO_at c 90)
  have cs_SchemeError_NumberError : PySem.W.subIn K (.ref (He.ga K "SchemeError")) (.ref (He.ga K "NumberError")) = some false := of_decide_eq_true (saysO_at c 91)
  have cs_SchemeError_AmountError : PySem.W.subIn K (.ref (He.ga K "SchemeError")) (.ref (He.ga K "AmountError")) = some false := of_decide_eq_true (saysO_at c 92)
  have cs_SchemeError_CubeError : PySem.W.subIn K (.ref (He.ga K "SchemeError")) (.ref (He.ga K "CubeError")) = some false := of_decide_eq_true (saysO_at c 93)
  have cs_SchemeError_MatchError : PySem.W.subIn K (.ref (He.ga K "SchemeError")) (.ref (He.ga K "MatchError")) = some false := of_decide_eq_true (saysO_at c 94)
  have cs_SchemeError_PlaceError : PySem.W.subIn K (.ref (He.ga K "SchemeError")) (.ref (He.ga K "PlaceError")) = some false := of_decide_eq_true (saysO_at c 95)
  have cs_SchemeError_TextError : PySem.W.subIn K (.ref (He.ga K "SchemeError")) (.ref (He.ga K "TextError")) = some false := of_decide_eq_true (saysO_at c 96)
  have cs_SchemeError_NothingDone : PySem.W.subIn K (.ref (He.ga K "SchemeError")) (.ref (He.ga K "NothingDone")) = some false := of_decide_eq_true (saysO_at c 97)
  have cs_SchemeError_OrderError : PySem.W.subIn K (.ref (He.ga K "SchemeError")) (.ref (He.ga K "OrderError")) = some false := of_decide_eq_true (saysO_at c 98)
  have cs_SchemeError_SumsError : PySem.W.subIn K (.ref (He.ga K "SchemeError")) (.ref (He.ga K "SumsError")) = some false := of_decide_eq_true (saysO_at c 99)
  have cs_TableError_Unknown : PySem.W.subIn K (.ref (He.ga K "TableError")) (.ref (He.ga K "Unknown")) = some false := of_decide_eq_true (saysO_at c 100)
  have cs_TableError_LimitError : PySem.W.subIn K (.ref (He.ga K "TableError")) (.ref (He.ga K "LimitError")) = some false := of_decide_eq_true (saysO_at c 101)
  have cs_TableError_LevelsError : PySem.W.subIn K (.ref (He.ga K "TableError")) (.ref (He.ga K "LevelsError")) = some true := of_decide_eq_true (saysO_at c 102)
  have cs_TableError_SchemeError : PySem.W.subIn K (.ref (He.ga K "TableError")) (.ref (He.ga K "SchemeError")) = some false := of_decide_eq_true (saysO_at c 103)
  have cs_TableError_RollupError : PySem.W.subIn K (.ref (He.ga K "TableError")) (.ref (He.ga K "RollupError")) = some false := of_decide_eq_true (saysO_at c 104)
  have cs_TableError_CellError : PySem.W.subIn K (.ref (He.ga K "TableError")) (.ref (He.ga K "CellError")) = some false := of_decide_eq_true (saysO_at c 105)
  have cs_TableError_TableError : PySem.W.subIn K (.ref (He.ga K "TableError")) (.ref (He.ga K "TableError")) = some true := of_decide_eq_true (saysO_at c 106)
  have cs_TableError_StoredError : PySem.W.subIn K (.ref (He.ga K "TableError")) (.ref (He.ga K "StoredError")) = some false := of_decide_eq_true (saysO_at c 107)
  have cs_TableError_ReportError : PySem.W.subIn K (.ref (He.ga K "TableError")) (.ref (He.ga K "ReportError")) = some false := of_decide_eq_true (saysO_at c 108)
  have cs_TableError_NumberError : PySem.W.subIn K (.ref (He.ga K "TableError")) (.ref (He.ga K "NumberError")) = some false := of_decide_eq_true (saysO_at c 109)
  have cs_TableError_AmountError : PySem.W.subIn K (.ref (He.ga K "TableError")) (.ref (He.ga K "AmountError")) = some false := of_decide_eq_true (saysO_at c 110)
  have cs_TableError_CubeError : PySem.W.subIn K (.ref (He.ga K "TableError")) (.ref (He.ga K "CubeError")) = some false := of_decide_eq_true (saysO_at c 111)
  have cs_TableError_MatchError : PySem.W.subIn K (.ref (He.ga K "TableError")) (.ref (He.ga K "MatchError")) = some false := of_decide_eq_true (saysO_at c 112)
  have cs_TableError_PlaceError : PySem.W.subIn K (.ref (He.ga K "TableError")) (.ref (He.ga K "PlaceError")) = some false := of_decide_eq_true (saysO_at c 113)
  have cs_TableError_TextError : PySem.W.subIn K (.ref (He.ga K "TableError")) (.ref (He.ga K "TextError")) = some false := of_decide_eq_true (saysO_at c 114)
  have cs_TableError_NothingDone : PySem.W.subIn K (.ref (He.ga K "TableError")) (.ref (He.ga K "NothingDone")) = some false := of_decide_eq_true (saysO_at c 115)
  have cs_TableError_OrderError : PySem.W.subIn K (.ref (He.ga K "TableError")) (.ref (He.ga K "OrderError")) = some false := of_decide_eq_true (saysO_at c 116)
  have cs_TableError_SumsError : PySem.W.subIn K (.ref (He.ga K "TableError")) (.ref (He.ga K "SumsError")) = some false := of_decide_eq_true (saysO_at c 117)
  have cs_RollupError_RollupError : PySem.W.subIn K (.ref (He.ga K "RollupError")) (.ref (He.ga K "RollupError")) = some true := of_decide_eq_true (saysO_at c 118)
  have cs_CellError_CellError : PySem.W.subIn K (.ref (He.ga K "CellError")) (.ref (He.ga K "CellError")) = some true := of_decide_eq_true (saysO_at c 119)
  have cs_StoredError_StoredError : PySem.W.subIn K (.ref (He.ga K "StoredError")) (.ref (He.ga K "StoredError")) = some true := of_decide_eq_true (saysO_at c 120)
  have cs_ReportError_ReportError : PySem.W.subIn K (.ref (He.ga K "ReportError")) (.ref (He.ga K "ReportError")) = some true := of_decide_eq_true (saysO_at c 121)
  have cs_NumberError_NumberError : PySem.W.subIn K (.ref (He.ga K "NumberError")) (.ref (He.ga K "NumberError")) = some true := of_decide_eq_true (saysO_at c 122)
  have cs_AmountError_AmountError : PySem.W.subIn K (.ref (He.ga K "AmountError")) (.ref (He.ga K "AmountError")) = some true := of_decide_eq_true (saysO_at c 123)
  have cs_CubeError_CubeError : PySem.W.subIn K (.ref (He.ga K "CubeError")) (.ref (He.ga K "CubeError")) = some true := of_decide_eq_true (saysO_at c 124)
  have cs_MatchError_MatchError : PySem.W.subIn K (.ref (He.ga K "MatchError")) (.ref (He.ga K "MatchError")) = some true := of_decide_eq_true (saysO_at c 125)
  have cs_PlaceError_PlaceError : PySem.W.subIn K (.ref (He.ga K "PlaceError")) (.ref (He.ga K "PlaceError")) = some true := of_decide_eq_true (saysO_at c 126)
  have cs_TextError_TextError : PySem.W.subIn K (.ref (He.ga K "TextError")) (.ref (He.ga K "TextError")) = some true := of_decide_eq_true (saysO_at c 127)
  have cs_NothingDone_NothingDone : PySem.W.subIn K (.ref (He.ga K "NothingDone")) (.ref (He.ga K "NothingDone")) = some true := of_decide_eq_true (saysO_at c 128)
  have cs_OrderError_OrderError : PySem.W.subIn K (.ref (He.ga K "OrderError")) (.ref (He.ga K "OrderError")) = some true := of_decide_eq_true (saysO_at c 129)
  have cs_SumsError_SumsError : PySem.W.subIn K (.ref (He.ga K "SumsError")) (.ref (He.ga K "SumsError")) = some true := of_decide_eq_true (saysO_at c 130)
  have hg_SchemeError : PySem.W.findIn K (.ref (He.ga K "SchemeError")) "__getattribute__" = some (some (.builtin "BaseException.__getattribute__")) := of_decide_eq_true (saysO_at c 131)
  have hk_SchemeError : PySem.W.findIn K (.ref (He.ga K "SchemeError")) "__getattr__" = some none := of_decide_eq_true (saysO_at c 132)
  have ha_SchemeError : PySem.W.findIn K (.ref (He.ga K "SchemeError")) "__class__" = some (some (.builtin "object.__class__")) := of_decide_eq_true (saysO_at c 133)
  have hm_SchemeError : PySem.W.mroIn K (He.ga K "SchemeError") (.type "object") = some true := of_decide_eq_true (saysO_at c 134)
  have hg_TableError : PySem.W.findIn K (.ref (He.ga K "TableError")) "__getattribute__" = some (some (.builtin "BaseException.__getattribute__")) := of_decide_eq_true (saysO_at c 135)
  have hk_TableError : PySem.W.findIn K (.ref (He.ga K "TableError")) "__getattr__" = some none := of_decide_eq_true (saysO_at c 136)
  have ha_TableError : PySem.W.findIn K (.ref (He.ga K "TableError")) "__class__" = some (some (.builtin "object.__class__")) := of_decide_eq_true (saysO_at c 137)
  have hm_TableError : PySem.W.mroIn K (He.ga K "TableError") (.type "object") = some true := of_decide_eq_true (saysO_at c 138)
  have hn_ : PySem.W.specialIn K (.builtin "object.__class__") "__get__" = some (some (.builtin "getset_descriptor.__get__")) := of_decide_eq_true (saysO_at c 139)
  have htk_ : PySem.W.takesIn K (.builtin "object.__class__") = some true := of_decide_eq_true (saysO_at c 140)
  obtain ⟨c_law, P_law, ht_law, hP_law⟩ := tabB_ok (saysO_at c 141)
  have hnd := tabsB_ok (saysO_at c 142)
  simp only [List.map_cons, List.map_nil, ht_law, Option.map_some] at hnd
  have Z : Zs mg := ⟨freeB_ok X G (saysO_at c 143), freeB_ok X G (saysO_at c 144), freeB_ok X G (saysO_at c 145), freeB_ok X G (saysO_at c 146), freeB_ok X G (saysO_at c 147), freeB_ok X G (saysO_at c 148), freeB_ok X G (saysO_at c 149), freeB_ok X G (saysO_at c 150), freeB_ok X G (saysO_at c 151), freeB_ok X G (saysO_at c 152), freeB_ok X G (saysO_at c 153), freeB_ok X G (saysO_at c 154), freeB_ok X G (saysO_at c 155), freeB_ok X G (saysO_at c 156), freeB_ok X G (saysO_at c 157), freeB_ok X G (saysO_at c 158), freeB_ok X G (saysO_at c 159), freeB_ok X G (saysO_at c 160), freeB_ok X G (saysO_at c 161), freeB_ok X G (saysO_at c 162), freeB_ok X G (saysO_at c 163), freeB_ok X G (saysO_at c 164), freeB_ok X G (saysO_at c 165)⟩
  obtain ⟨t_PART_DIGITS, m_PART_DIGITS⟩ := intB_ok X G (saysO_at c 166)
  obtain ⟨t_PART, m_PART⟩ := intB_ok X G (saysO_at c 167)
  obtain ⟨t_MOST_ATTRIBUTES, m_MOST_ATTRIBUTES⟩ := intB_ok X G (saysO_at c 168)
  obtain ⟨t_MOST_VALUES, m_MOST_VALUES⟩ := intB_ok X G (saysO_at c 169)
  obtain ⟨t_MOST_STEPS, m_MOST_STEPS⟩ := intB_ok X G (saysO_at c 170)
  obtain ⟨t_MOST_CELLS, m_MOST_CELLS⟩ := intB_ok X G (saysO_at c 171)
  obtain ⟨t_MOST_PUT, m_MOST_PUT⟩ := intB_ok X G (saysO_at c 172)
  have D__wall : Df K mg "_wall" s__wall := df_of (gaB_ok X G (saysO_at c 173)) (saysO_def c 0)
  have D_is_integer : Df K mg "is_integer" s_is_integer := df_of (gaB_ok X G (saysO_at c 174)) (saysO_def c 1)
  have D_is_number_from : Df K mg "is_number_from" s_is_number_from := df_of (gaB_ok X G (saysO_at c 175)) (saysO_def c 2)
  have D_are_integers : Df K mg "are_integers" s_are_integers := df_of (gaB_ok X G (saysO_at c 176)) (saysO_def c 3)
  have D_are_numbers_below : Df K mg "are_numbers_below" s_are_numbers_below := df_of (gaB_ok X G (saysO_at c 177)) (saysO_def c 4)
  have D_written : Df K mg "written" s_written := df_of (gaB_ok X G (saysO_at c 178)) (saysO_def c 5)
  have D_groups_of_step : Df K mg "groups_of_step" s_groups_of_step := df_of (gaB_ok X G (saysO_at c 179)) (saysO_def c 6)
  have D_is_attribute : Df K mg "is_attribute" s_is_attribute := df_of (gaB_ok X G (saysO_at c 180)) (saysO_def c 7)
  have D_count_of_cells : Df K mg "count_of_cells" s_count_of_cells := df_of (gaB_ok X G (saysO_at c 181)) (saysO_def c 8)
  have D_group_count : Df K mg "group_count" s_group_count := df_of (gaB_ok X G (saysO_at c 182)) (saysO_def c 9)
  have D_group_counts : Df K mg "group_counts" s_group_counts := df_of (gaB_ok X G (saysO_at c 183)) (saysO_def c 10)
  have D_groups_above : Df K mg "groups_above" s_groups_above := df_of (gaB_ok X G (saysO_at c 184)) (saysO_def c 11)
  have D_finest : Df K mg "finest" s_finest := df_of (gaB_ok X G (saysO_at c 185)) (saysO_def c 12)
  have D_size_of : Df K mg "size_of" s_size_of := df_of (gaB_ok X G (saysO_at c 186)) (saysO_def c 13)
  have D_place_of : Df K mg "place_of" s_place_of := df_of (gaB_ok X G (saysO_at c 187)) (saysO_def c 14)
  have D_is_rollup : Df K mg "is_rollup" s_is_rollup := df_of (gaB_ok X G (saysO_at c 188)) (saysO_def c 15)
  have D_is_cell : Df K mg "is_cell" s_is_cell := df_of (gaB_ok X G (saysO_at c 189)) (saysO_def c 16)
  have D_is_scheme : Df K mg "is_scheme" s_is_scheme := df_of (gaB_ok X G (saysO_at c 190)) (saysO_def c 17)
  have D_check_scheme : Df K mg "check_scheme" s_check_scheme := df_of (gaB_ok X G (saysO_at c 191)) (saysO_def c 18)
  have D_check_rollup : Df K mg "check_rollup" s_check_rollup := df_of (gaB_ok X G (saysO_at c 192)) (saysO_def c 19)
  have D_check_cell : Df K mg "check_cell" s_check_cell := df_of (gaB_ok X G (saysO_at c 193)) (saysO_def c 20)
  have D_is_table_of : Df K mg "is_table_of" s_is_table_of := df_of (gaB_ok X G (saysO_at c 194)) (saysO_def c 21)
  have D_turned : Df K mg "turned" s_turned := df_of (gaB_ok X G (saysO_at c 195)) (saysO_def c 22)
  have D_added_up : Df K mg "added_up" s_added_up := df_of (gaB_ok X G (saysO_at c 196)) (saysO_def c 23)
  have D_sums_at : Df K mg "sums_at" s_sums_at := df_of (gaB_ok X G (saysO_at c 197)) (saysO_def c 24)
  have D_no_amounts : Df K mg "no_amounts" s_no_amounts := df_of (gaB_ok X G (saysO_at c 198)) (saysO_def c 25)
  have D_with_more : Df K mg "with_more" s_with_more := df_of (gaB_ok X G (saysO_at c 199)) (saysO_def c 26)
  have D_check_put : Df K mg "check_put" s_check_put := df_of (gaB_ok X G (saysO_at c 200)) (saysO_def c 27)
  have D_check_table : Df K mg "check_table" s_check_table := df_of (gaB_ok X G (saysO_at c 201)) (saysO_def c 28)
  have D__law_cell : Df K mg "_law_cell" s__law_cell := df_of (gaB_ok X G (saysO_at c 202)) (saysO_def c 29)
  have D__law_draws : Df K mg "_law_draws" s__law_draws := df_of (gaB_ok X G (saysO_at c 203)) (saysO_def c 30)
  have D__law_is_same : Df K mg "_law_is_same" s__law_is_same := df_of (gaB_ok X G (saysO_at c 204)) (saysO_def c 31)
  have D__law_attribute : Df K mg "_law_attribute" s__law_attribute := df_of (gaB_ok X G (saysO_at c 205)) (saysO_def c 32)
  have D__law_scheme : Df K mg "_law_scheme" s__law_scheme := df_of (gaB_ok X G (saysO_at c 206)) (saysO_def c 33)
  have D__law_below : Df K mg "_law_below" s__law_below := df_of (gaB_ok X G (saysO_at c 207)) (saysO_def c 34)
  have D__law_fine_cells : Df K mg "_law_fine_cells" s__law_fine_cells := df_of (gaB_ok X G (saysO_at c 208)) (saysO_def c 35)
  have D__law_table : Df K mg "_law_table" s__law_table := df_of (gaB_ok X G (saysO_at c 209)) (saysO_def c 36)
  have D__law_no_schemes : Df K mg "_law_no_schemes" s__law_no_schemes := df_of (gaB_ok X G (saysO_at c 210)) (saysO_def c 37)
  have D__law_said : Df K mg "_law_said" s__law_said := df_of (gaB_ok X G (saysO_at c 211)) (saysO_def c 38)
  have D__law_told : Df K mg "_law_told" s__law_told := df_of (gaB_ok X G (saysO_at c 212)) (saysO_def c 39)
  have D__law_due : Df K mg "_law_due" s__law_due := df_of (gaB_ok X G (saysO_at c 213)) (saysO_def c 40)
  have D__law_no_tables : Df K mg "_law_no_tables" s__law_no_tables := df_of (gaB_ok X G (saysO_at c 214)) (saysO_def c 41)
  have D_law : Df K mg "law" s_law := df_of (gaB_ok X G (saysO_at c 215)) (saysO_def c 42)
  obtain ⟨fd_Cube, F_Cube_⟩ := saysO_def c 43
  obtain ⟨fd_Cube_total, F_Cube_total_⟩ := saysO_def c 44
  obtain ⟨fd_Cube_len, F_Cube_len_⟩ := saysO_def c 45
  obtain ⟨fd_Cube_repr, F_Cube_repr_⟩ := saysO_def c 46
  obtain ⟨fd_Cube_scheme, F_Cube_scheme_⟩ := saysO_def c 47
  obtain ⟨fd_Cube_table, F_Cube_table_⟩ := saysO_def c 48
  obtain ⟨fd_Cube_changes, F_Cube_changes_⟩ := saysO_def c 49
  obtain ⟨fd, hb, hF⟩ := law_all (P := P) (w := w) e Z X G ht_law ⟨(He.ga K "AmountError"), _, _, _, _, PySem.F.excBase_ValueError, cx_AmountError, PySem.W.mg_of X G cg_AmountError, ck_AmountError, cb_AmountError, ct_AmountError⟩ ⟨(He.ga K "CellError"), _, _, _, _, PySem.F.excBase_ValueError, cx_CellError, PySem.W.mg_of X G cg_CellError, ck_CellError, cb_CellError, ct_CellError⟩ ⟨(He.ga K "RollupError"), _, _, _, _, PySem.F.excBase_ValueError, cx_RollupError, PySem.W.mg_of X G cg_RollupError, ck_RollupError, cb_RollupError, ct_RollupError⟩ ⟨(He.ga K "SchemeError"), _, _, _, _, PySem.F.excBase_ValueError, cx_SchemeError, PySem.W.mg_of X G cg_SchemeError, ck_SchemeError, cb_SchemeError, ct_SchemeError⟩ ⟨(He.ga K "TableError"), _, _, _, _, PySem.F.excBase_ValueError, cx_TableError, PySem.W.mg_of X G cg_TableError, ck_TableError, cb_TableError, ct_TableError⟩   m_PART_DIGITS m_PART m_MOST_ATTRIBUTES m_MOST_VALUES m_MOST_STEPS m_MOST_CELLS m_MOST_PUT D__wall D_is_integer D_is_number_from D_are_integers D_are_numbers_below D_written D_groups_of_step D_is_attribute D_count_of_cells D_group_count D_group_counts D_groups_above D_finest D_size_of D_place_of D_is_rollup D_is_cell D_is_scheme D_check_scheme D_check_rollup D_check_cell D_is_table_of D_turned D_added_up D_sums_at D_no_amounts D_with_more D_check_put D_check_table D__law_cell D__law_draws D__law_is_same D__law_attribute D__law_scheme D__law_below D__law_fine_cells D__law_table D__law_no_schemes D__law_said D__law_told D__law_due D__law_no_tables D_law (PySem.W.mg_of X G cg_Unknown) (PySem.W.mg_of X G cg_LimitError) (PySem.W.mg_of X G cg_LevelsError) (List.forall_mem_cons.mpr ⟨⟨(He.ga K "SchemeError"), ⟨PySem.W.mg_of X G cg_SchemeError, ⟨hg_SchemeError, hk_SchemeError, cb_SchemeError, ch_SchemeError, ha_SchemeError, hn_, htk_, hm_SchemeError⟩, (List.forall_mem_cons.mpr ⟨⟨(He.ga K "SchemeError"), PySem.W.mg_of X G cg_SchemeError, kit_ref ch_SchemeError ct_SchemeError cs_SchemeError_SchemeError (cs_SchemeError_SchemeError.trans (by decide +kernel))⟩, (List.forall_mem_cons.mpr ⟨⟨(He.ga K "RollupError"), PySem.W.mg_of X G cg_RollupError, kit_ref ch_RollupError ct_RollupError cs_RollupError_RollupError (cs_SchemeError_RollupError.trans (by decide +kernel))⟩, (List.forall_mem_cons.mpr ⟨⟨(He.ga K "CellError"), PySem.W.mg_of X G cg_CellError, kit_ref ch_CellError ct_CellError cs_CellError_CellError (cs_SchemeError_CellError.trans (by decide +kernel))⟩, (List.forall_mem_cons.mpr ⟨⟨(He.ga K "TableError"), PySem.W.mg_of X G cg_TableError, kit_ref ch_TableError ct_TableError cs_TableError_TableError (cs_SchemeError_TableError.trans (by decide +kernel))⟩, (List.forall_mem_cons.mpr ⟨⟨(He.ga K "StoredError"), PySem.W.mg_of X G cg_StoredError, kit_ref ch_StoredError ct_StoredError cs_StoredError_StoredError (cs_SchemeError_StoredError.trans (by decide +kernel))⟩, (List.forall_mem_cons.mpr ⟨⟨(He.ga K "ReportError"), PySem.W.mg_of X G cg_ReportError, kit_ref ch_ReportError ct_ReportError cs_ReportError_ReportError (cs_SchemeError_ReportError.trans (by decide +kernel))⟩, (List.forall_mem_cons.mpr ⟨⟨(He.ga K "NumberError"), PySem.W.mg_of X G cg_NumberError, kit_ref ch_NumberError ct_NumberError cs_NumberError_NumberError (cs_SchemeError_NumberError.trans (by decide +kernel))⟩, (List.forall_mem_cons.mpr ⟨⟨(He.ga K "AmountError"), PySem.W.mg_of X G cg_AmountError, kit_ref ch_AmountError ct_AmountError cs_AmountError_AmountError (cs_SchemeError_AmountError.trans (by decide +kernel))⟩, (List.forall_mem_cons.mpr ⟨⟨(He.ga K "CubeError"), PySem.W.mg_of X G cg_CubeError, kit_ref ch_CubeError ct_CubeError cs_CubeError_CubeError (cs_SchemeError_CubeError.trans (by decide +kernel))⟩, (List.forall_mem_cons.mpr ⟨⟨(He.ga K "MatchError"), PySem.W.mg_of X G cg_MatchError, kit_ref ch_MatchError ct_MatchError cs_MatchError_MatchError (cs_SchemeError_MatchError.trans (by decide +kernel))⟩, (List.forall_mem_cons.mpr ⟨⟨(He.ga K "PlaceError"), PySem.W.mg_of X G cg_PlaceError, kit_ref ch_PlaceError ct_PlaceError cs_PlaceError_PlaceError (cs_SchemeError_PlaceError.trans (by decide +kernel))⟩, (List.forall_mem_cons.mpr ⟨⟨(He.ga K "TextError"), PySem.W.mg_of X G cg_TextError, kit_ref ch_TextError ct_TextError cs_TextError_TextError (cs_SchemeError_TextError.trans (by decide +kernel))⟩, (List.forall_mem_cons.mpr ⟨⟨(He.ga K "NothingDone"), PySem.W.mg_of X G cg_NothingDone, kit_ref ch_NothingDone ct_NothingDone cs_NothingDone_NothingDone (cs_SchemeError_NothingDone.trans (by decide +kernel))⟩, (List.forall_mem_cons.mpr ⟨⟨(He.ga K "OrderError"), PySem.W.mg_of X G cg_OrderError, kit_ref ch_OrderError ct_OrderError cs_OrderError_OrderError (cs_SchemeError_OrderError.trans (by decide +kernel))⟩, (List.forall_mem_cons.mpr ⟨⟨(He.ga K "SumsError"), PySem.W.mg_of X G cg_SumsError, kit_ref ch_SumsError ct_SumsError cs_SumsError_SumsError (cs_SchemeError_SumsError.trans (by decide +kernel))⟩, (fun _ h => nomatch h)⟩)⟩)⟩)⟩)⟩)⟩)⟩)⟩)⟩)⟩)⟩)⟩)⟩)⟩)⟩)⟩, PySem.W.exm_ref cb_Unknown ch_Unknown ct_Unknown cs_SchemeError_Unknown, PySem.W.exm_ref cb_LimitError ch_LimitError ct_LimitError cs_SchemeError_LimitError, PySem.W.exm_ref cb_LevelsError ch_LevelsError ct_LevelsError cs_SchemeError_LevelsError⟩, (List.forall_mem_cons.mpr ⟨⟨(He.ga K "TableError"), ⟨PySem.W.mg_of X G cg_TableError, ⟨hg_TableError, hk_TableError, cb_TableError, ch_TableError, ha_TableError, hn_, htk_, hm_TableError⟩, (List.forall_mem_cons.mpr ⟨⟨(He.ga K "SchemeError"), PySem.W.mg_of X G cg_SchemeError, kit_ref ch_SchemeError ct_SchemeError cs_SchemeError_SchemeError (cs_TableError_SchemeError.trans (by decide +kernel))⟩, (List.forall_mem_cons.mpr ⟨⟨(He.ga K "RollupError"), PySem.W.mg_of X G cg_RollupError, kit_ref ch_RollupError ct_RollupError cs_RollupError_RollupError (cs_TableError_RollupError.trans (by decide +kernel))⟩, (List.forall_mem_cons.mpr ⟨⟨(He.ga K "CellError"), PySem.W.mg_of X G cg_CellError, kit_ref ch_CellError ct_CellError cs_CellError_CellError (cs_TableError_CellError.trans (by decide +kernel))⟩, (List.forall_mem_cons.mpr ⟨⟨(He.ga K "TableError"), PySem.W.mg_of X G cg_TableError, kit_ref ch_TableError ct_TableError cs_TableError_TableError (cs_TableError_TableError.trans (by decide +kernel))⟩, (List.forall_mem_cons.mpr ⟨⟨(He.ga K "StoredError"), PySem.W.mg_of X G cg_StoredError, kit_ref ch_StoredError ct_StoredError cs_StoredError_StoredError (cs_TableError_StoredError.trans (by decide +kernel))⟩, (List.forall_mem_cons.mpr ⟨⟨(He.ga K "ReportError"), PySem.W.mg_of X G cg_ReportError, kit_ref ch_ReportError ct_ReportError cs_ReportError_ReportError (cs_TableError_ReportError.trans (by decide +kernel))⟩, (List.forall_mem_cons.mpr ⟨⟨(He.ga K "NumberError"), PySem.W.mg_of X G cg_NumberError, kit_ref ch_NumberError ct_NumberError cs_NumberError_NumberError (cs_TableError_NumberError.trans (by decide +kernel))⟩, (List.forall_mem_cons.mpr ⟨⟨(He.ga K "AmountError"), PySem.W.mg_of X G cg_AmountError, kit_ref ch_AmountError ct_AmountError cs_AmountError_AmountError (cs_TableError_AmountError.trans (by decide +kernel))⟩, (List.forall_mem_cons.mpr ⟨⟨(He.ga K "CubeError"), PySem.W.mg_of X G cg_CubeError, kit_ref ch_CubeError ct_CubeError cs_CubeError_CubeError (cs_TableError_CubeError.trans (by decide +kernel))⟩, (List.forall_mem_cons.mpr ⟨⟨(He.ga K "MatchError"), PySem.W.mg_of X G cg_MatchError, kit_ref ch_MatchError ct_MatchError cs_MatchError_MatchError (cs_TableError_MatchError.trans (by decide +kernel))⟩, (List.forall_mem_cons.mpr ⟨⟨(He.ga K "PlaceError"), PySem.W.mg_of X G cg_PlaceError, kit_ref ch_PlaceError ct_PlaceError cs_PlaceError_PlaceError (cs_TableError_PlaceError.trans (by decide +kernel))⟩, (List.forall_mem_cons.mpr ⟨⟨(He.ga K "TextError"), PySem.W.mg_of X G cg_TextError, kit_ref ch_TextError ct_TextError cs_TextError_TextError (cs_TableError_TextError.trans (by decide +kernel))⟩, (List.forall_mem_cons.mpr ⟨⟨(He.ga K "NothingDone"), PySem.W.mg_of X G cg_NothingDone, kit_ref ch_NothingDone ct_NothingDone cs_NothingDone_NothingDone (cs_TableError_NothingDone.trans (by decide +kernel))⟩, (List.forall_mem_cons.mpr ⟨⟨(He.ga K "OrderError"), PySem.W.mg_of X G cg_OrderError, kit_ref ch_OrderError ct_OrderError cs_OrderError_OrderError (cs_TableError_OrderError.trans (by decide +kernel))⟩, (List.forall_mem_cons.mpr ⟨⟨(He.ga K "SumsError"), PySem.W.mg_of X G cg_SumsError, kit_ref ch_SumsError ct_SumsError cs_SumsError_SumsError (cs_TableError_SumsError.trans (by decide +kernel))⟩, (fun _ h => nomatch h)⟩)⟩)⟩)⟩)⟩)⟩)⟩)⟩)⟩)⟩)⟩)⟩)⟩)⟩)⟩)⟩, PySem.W.exm_ref cb_Unknown ch_Unknown ct_Unknown cs_TableError_Unknown, PySem.W.exm_ref cb_LimitError ch_LimitError ct_LimitError cs_TableError_LimitError, PySem.W.exm_ref cb_LevelsError ch_LevelsError ct_LevelsError cs_TableError_LevelsError⟩, (fun _ h => nomatch h)⟩)⟩) (insB_ok (saysO_at c 216)) (madeB_ok X G (saysO_at c 217) (saysO_at c 216)) F_Cube_ (propB_ok (saysO_at c 218)) (fun_of F_Cube_total_) (methB_ok (saysO_at c 219)) (fun_of F_Cube_len_) (methB_ok (saysO_at c 220)) (fun_of F_Cube_repr_) (propB_ok (saysO_at c 221)) (fun_of F_Cube_scheme_) (propB_ok (saysO_at c 222)) (fun_of F_Cube_table_) (propB_ok (saysO_at c 223)) (fun_of F_Cube_changes_)
  refine ⟨fd, [(c_law, P_law)], (List.forall_mem_cons.mpr ⟨⟨hP_law, "law", .head _, ht_law⟩, (fun _ h => nomatch h)⟩), hb, fun H a ns hl hT ha hS => law_spTs (xs := ["law"]) (T := [(c_law, P_law)]) rfl (tabs_at (⟨ht_law, trivial⟩)) (tabs_nd hnd) (law_true ns hl) hT ha hS _, fun base _ _ TB => hF base (TB _ (.head _))⟩
end MP
open PySem PySem.W PyProof.Rows
set_option maxHeartbeats 0 in
theorem PySem.Challenge.cw_rolluplevels_k45_cubes_made_holds : PySem.Challenge.rw_rolluplevels_k45_cubes_made.Holds := by
  w_on; o_law
  refine HandSHeadRun.head_any (r := OpenLaw.row PySem.Challenge.rw_rolluplevels_k45_cubes_made) (q := view (OpenLaw.row PySem.Challenge.rw_rolluplevels_k45_cubes_made).prog [75]) (H := MP.hkL) (ob := MP.obL) (M := 12000) (loose := MP.namesL) (d := HandSHeadRun.topDef (OpenLaw.row PySem.Challenge.rw_rolluplevels_k45_cubes_made).prog 75) (kwd := []) MP.obL_eq
    (by kernel_rfl) (fun s => by kernel_rfl) MP.run_top (by kernel_rfl) (by kernel_rfl) (by kernel_rfl) (by rfl) (by first | assumption | decide +kernel) (by decide +kernel) ⟨rfl, rfl, rfl, rfl, rfl, by decide +kernel⟩ ?hw ?hc
  case hw => w_witness2
  case hc =>
    refine MP.walkTE (l := PySem.Challenge.rw_rolluplevels_k45_cubes_made) (n := 63) (k := 22) (x := "_law_script") (names := ["law"]) (sp := fun K => MP.spF K 1 MP.F_law) rfl (by decide) (by kernel_rfl) ⟨rfl, by decide, by decide⟩ (List.forall_mem_cons.mpr ⟨Option.isSome_iff_exists.mp (by decide +kernel), (fun _ h => nomatch h)⟩) ?F
    intro w mg fa h Y G hmg0
    obtain ⟨K, KX, c⟩ := Y
    have hmg : mg ("law" : PySem.Str) = some (.ref fa) := by
      have e : (HandSHeadRun.topDef (OpenLaw.row PySem.Challenge.rw_rolluplevels_k45_cubes_made).prog 75).name = ("law" : PySem.Str) := by kernel_rfl
      rw [← e]
      exact hmg0
    obtain ⟨fd, T, hT, hb, hsp, hF⟩ := MP.facts_of (P := (PySem.Challenge.rw_rolluplevels_k45_cubes_made).prog) (w := w) KX G hmg (MP.all_parts (a := 28) (b := 7) (k := 7) (cs := MP.csL) (fn := MP.fnL) c)
    exact ⟨K, KX, fd, T, hT, hb, hF, hsp⟩
