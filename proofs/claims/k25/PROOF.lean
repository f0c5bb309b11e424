import PyProof.Rows.All
import Wide.All
import OpenK.AllK
import Wide.FinOn
import KE.KStateDown
import KE.KExcIs
import HandS.ForMost
import HandS.Exc
import HandS.ExcOwn
import HandS.ExcInit
import HandS.ExcField
import HandS.ExcValue
import HandS.IsInst
import HandS.ExcIs
import HandS.Deep
import HandS.Wide
import HandS.Walk
import HandS.Flow
import HandS.Defaults
import HandS.Words
import HandS.WordsList
import HandS.WordsExc
import HandS.TryOnly
import HandS.Head0
import HandS.Head1
import HandS.Head2
import HandS.HeadEnd
import HandS.HeadHook1
import HandS.HeadHook2
import PySem.Challenge.RW_namesakes_k25_patterns_made_and_refused
import HandS.HeadHook4
import HandS.HeadNt
import HandS.SortKw
import KE.DataMinMax
import HandS.OwnEq
import HandS.More
import HandS.SuiteRaise
import HandS.RaiseFrom
import HandS.ExcInitHot
import HandS.Iter
import PyProof.EnumMake
import PyProof.Draws
import KE.GoesMore
import HandS.Text
import HandS.Conv
import HandS.Dict
import HandS.NoneIn
import PyProof.P3Eq
import PyProof.DictFindH
import PyProof.DictRoadsH
import HandS.TryMany
import HandS.Lambda
import HandS.EndTab
import HandS.HeadWalk
import PyProof.ReprRoads
import HandS.OwnIter
import HandS.IterNext
import HandS.Property
import HandS.Star
import HandS.ClsMeth
import PyProof.Rows.StrJoinMade
set_option Elab.async false
set_option linter.all false
set_option maxRecDepth 100000
set_option maxHeartbeats 4000000
namespace K25
open PySem PySem.Spec PyProof.Rows L2
def top (i : Nat) : Stmt := PySem.Challenge.pw_namesakes_k25_patterns_made_and_refused.main.body.getD i (.Pass ⟨0, 0, 0, 0⟩)
abbrev FnP (K : PySem.W.Frag) (x : Str) (st : Stmt) (f : Addr) (fd : FuncData) : Prop := FunD K x x (defArgs st) (defBody st) (defScope st) [] [] f fd
abbrev sPIsWhole : Stmt := top 9
abbrev sPIsName : Stmt := top 10
abbrev sPIsSequence : Stmt := top 11
abbrev sPNumbered : Stmt := top 14
abbrev sPEntriesFault : Stmt := top 15
abbrev sPCheckMatch : Stmt := top 17
abbrev sPMerged : Stmt := top 18
abbrev sPCheckNames : Stmt := top 19
abbrev sMix : Stmt := top 21
abbrev sHand : Stmt := top 22
abbrev sDraw : Stmt := top 23
abbrev sPick : Stmt := top 24
abbrev sEntries : Stmt := top 25
abbrev sNumbers : Stmt := top 26
abbrev sSize : Stmt := top 27
abbrev sWhole : Stmt := top 28
abbrev sSame : Stmt := top 29
abbrev sSpoilt : Stmt := top 30
abbrev sFault : Stmt := top 31
abbrev sMade : Stmt := top 32
abbrev sNamesFault : Stmt := top 33
abbrev sShown : Stmt := top 34
abbrev sPlaceError : Stmt := top 35
abbrev sReads : Stmt := top 36
abbrev sPlaces : Stmt := top 37
abbrev sPartRight : Stmt := top 38
abbrev sOddPlaces : Stmt := top 39
abbrev sRowsRight : Stmt := top 40
abbrev sLaw : Stmt := top 41
end K25

namespace K25
open PySem PySem.Spec PyProof.Rows L2
def oexB (K : PySem.W.Frag) (C : Addr) : Bool := match K.lookup C with
  | some ⟨.type t, _, .cls cd, sl⟩ => decide (t = "type") && (match cd.mro, sl.toList with
    | .ref C' :: bm, [_, _, _, _, some (.builtin n), _] => decide (C' = C) && (decide (n = "ValueError.__new__") && (cd.hasDict && (!cd.hasDel && PySem.HandSPX.refsVE bm)))
    | _, _ => false)
  | _ => false
/-- what isinstance and the reads of fields ask of a class -/
def excB (K : PySem.W.Frag) (D : Addr) : Bool :=
  decide (PySem.W.findIn K (.ref D) "__getattribute__" = some (some (.builtin "BaseException.__getattribute__"))) && (
  decide (PySem.W.findIn K (.ref D) "__getattr__" = some none) && (
  decide (PySem.W.subIn K (.ref D) (.type "BaseException") = some true) && (
  PySem.W.hasDictIn K D && (
  decide (PySem.W.findIn K (.ref D) "__class__" = some (some (.builtin "object.__class__"))) && (
  decide (PySem.W.mroIn K D (.type "object") = some true) && (
  decide (PySem.W.findIn K (.ref D) "__setattr__" = some (some (.builtin "object.__setattr__"))) && (
  decide (PySem.W.typeIn K (.ref D) = some (.type "type")) && (
  PySem.W.keepIn K (.ref D)))))))))
def dunB (K : PySem.W.Frag) : Bool :=
  decide (PySem.W.specialIn K (.builtin "object.__class__") "__get__" = some (some (.builtin "getset_descriptor.__get__"))) && decide (PySem.W.takesIn K (.builtin "object.__class__") = some true)
/-- an error with an own __init__ -/
def badE (K : PySem.W.Frag) (C : Addr) : Bool :=
  oexB K C && (excB K C && (
  decide (PySem.W.findIn K (.ref C) "__init__" = some (some (.ref (He.ma K C "__init__")))) &&
  decide (PySem.W.typeIn K (.ref (He.ma K C "__init__")) = some (.type "function"))))
/-- a class with an own __eq__ -/
def eqB (K : PySem.W.Frag) (C : Addr) : Bool :=
  decide (PySem.W.findIn K (.ref C) "__eq__" = some (some (.ref (He.ma K C "__eq__")))) && (PySem.W.isFn K (.ref (He.ma K C "__eq__")) && (PySem.W.notFirst K C (.ref C) && PySem.W.notFirst K C (.type "tuple")))
/-- the property -/
def pA (K : PySem.W.Frag) : Addr := He.ma K (He.ga K "Pattern") "class_count"
def gA (K : PySem.W.Frag) : Addr := match PySem.W.recIn K (pA K) "property" with
  | some (.ref g :: _) => g
  | _ => 0
def proB (K : PySem.W.Frag) : Bool :=
  decide (PySem.W.findIn K (.ref (He.ga K "Pattern")) "class_count" = some (some (.ref (pA K)))) && (
  decide (PySem.W.specialIn K (.ref (pA K)) "__get__" = some (some (.builtin "property.__get__"))) && (
  decide (PySem.W.takesIn K (.ref (pA K)) = some true) && (match PySem.W.recIn K (pA K) "property" with
    | some (.ref _ :: _) => true
    | _ => false)))
def gW (K : PySem.W.Frag) : He.FnW := match K.lookup (gA K) with
  | some ⟨_, _, .func d, _⟩ => some (d.name, d.qualname, d.params, d.body, d.scope, d.globals, d.closure, d.builtins)
  | _ => none
def gB (K : PySem.W.Frag) : Bool := PySem.W.keepIn K (.ref (gA K)) && (match K.lookup (gA K) with
  | some ⟨_, _, .func d, _⟩ => PySem.W.codeIn K d.code "Pattern.class_count" && (He.dflB K d.defaults [] && He.kwdB K d.kwdefaults [])
  | _ => false)
def dOn : He5.DefA := ⟨fun K => He5.wf K (He.ga K "Pattern") "staticmethod" "of_names", "of_names", "Pattern.of_names", defArgs (inClass (top 16) 1), defBody (inClass (top 16) 1), defScope (inClass (top 16) 1), [], []⟩
def restB (K : PySem.W.Frag) : Bool := badE K (He.ga K "BadPattern") && (badE K (He.ga K "BadNames") && (badE K (He.ga K "BadPlaces") && (badE K (He.ga K "BadClass") && (eqB K (He.ga K "Pattern") && (PySem.W.readsIn K (He.ga K "Pattern") (.type "type") && (He5.wrapB K (He.ga K "Pattern") "staticmethod" "staticmethod.__get__" "of_names" && (dOn.ok K && (proB K && gB K))))))))
def fa : List He.Fa := [.free "int",
  .free "bool",
  .free "isinstance",
  .free "len",
  .free "list",
  .free "tuple",
  .free "enumerate",
  .free "range",
  .free "abs",
  .free "max",
  .free "repr",
  .free "type",
  .free "iter",
  .glo "is_whole",
  .glo "is_name",
  .glo "is_sequence",
  .glo "numbered",
  .glo "_entries_fault",
  .glo "check_names",
  .glo "_law_mix",
  .glo "_law_hand",
  .glo "_law_draw",
  .glo "_law_pick",
  .glo "_law_entries",
  .glo "_law_numbers",
  .glo "_law_size",
  .glo "_law_whole",
  .glo "_law_same",
  .glo "_law_spoilt",
  .glo "_law_fault",
  .glo "_law_made",
  .glo "_law_names_fault",
  .glo "_law_shown",
  .glo "_law_place_error",
  .glo "_law_reads",
  .glo "_law_places",
  .glo "_law_part_right",
  .glo "_law_odd_places",
  .glo "_law_rows_right",
  .glo "law",
  .glo "Pattern",
  .glo "BadPattern",
  .glo "BadNames",
  .glo "BadPlaces",
  .glo "BadClass",
  .int "MOST_PLACES" 40,
  .int "MOST_NAME" (10 ^ 30),
  .cls "Pattern",
  .mkr "Pattern",
  .noat "Pattern" "entries",
  .noat "Pattern" "_classes",
  .meth "Pattern" "class_at",
  .meth "Pattern" "places_of",
  .meth "Pattern" "are_alike",
  .meth "Pattern" "at_places",
  .meth "Pattern" "_check_place",
  .meth "Pattern" "__eq__",
  .meth "Pattern" "__len__",
  .meth "Pattern" "__iter__",
  .noat "BadPattern" "index",
  .noat "BadPattern" "what",
  .noat "BadNames" "index",
  .noat "BadNames" "what",
  .noat "BadPlaces" "index",
  .noat "BadPlaces" "what",
  .noat "BadClass" "number",
  .exm "BadPattern" "BadPattern" true,
  .exm "BadNames" "BadNames" true,
  .exm "BadPlaces" "BadPlaces" true,
  .exm "BadClass" "BadPlaces" false,
  .exm "BadClass" "BadClass" true]
def dG (x : Str) (st : Stmt) : He.DefD := ⟨(x, none), x, x, defArgs st, defBody st, defScope st, [], []⟩
def fn : List He.DefD := [dG "is_whole" sPIsWhole,
  dG "is_name" sPIsName,
  dG "is_sequence" sPIsSequence,
  dG "numbered" sPNumbered,
  dG "_entries_fault" sPEntriesFault,
  dG "check_names" sPCheckNames,
  dG "_law_mix" sMix,
  dG "_law_hand" sHand,
  dG "_law_draw" sDraw,
  dG "_law_pick" sPick,
  dG "_law_entries" sEntries,
  dG "_law_numbers" sNumbers,
  dG "_law_size" sSize,
  dG "_law_whole" sWhole,
  dG "_law_same" sSame,
  dG "_law_spoilt" sSpoilt,
  dG "_law_fault" sFault,
  dG "_law_made" sMade,
  dG "_law_names_fault" sNamesFault,
  dG "_law_shown" sShown,
  dG "_law_place_error" sPlaceError,
  dG "_law_reads" sReads,
  dG "_law_places" sPlaces,
  dG "_law_part_right" sPartRight,
  dG "_law_odd_places" sOddPlaces,
  dG "_law_rows_right" sRowsRight,
  dG "law" sLaw,
  ⟨("BadPattern", some "__init__"), "__init__", "BadPattern.__init__", defArgs (inClass (top 2) 0), defBody (inClass (top 2) 0), defScope (inClass (top 2) 0), [], []⟩,
  ⟨("BadNames", some "__init__"), "__init__", "BadNames.__init__", defArgs (inClass (top 3) 0), defBody (inClass (top 3) 0), defScope (inClass (top 3) 0), [], []⟩,
  ⟨("BadPlaces", some "__init__"), "__init__", "BadPlaces.__init__", defArgs (inClass (top 4) 0), defBody (inClass (top 4) 0), defScope (inClass (top 4) 0), [], []⟩,
  ⟨("BadClass", some "__init__"), "__init__", "BadClass.__init__", defArgs (inClass (top 5) 0), defBody (inClass (top 5) 0), defScope (inClass (top 5) 0), [], []⟩,
  ⟨("Pattern", some "__init__"), "__init__", "Pattern.__init__", defArgs (inClass (top 16) 0), defBody (inClass (top 16) 0), defScope (inClass (top 16) 0), [], []⟩,
  ⟨("Pattern", some "class_at"), "class_at", "Pattern.class_at", defArgs (inClass (top 16) 3), defBody (inClass (top 16) 3), defScope (inClass (top 16) 3), [], []⟩,
  ⟨("Pattern", some "places_of"), "places_of", "Pattern.places_of", defArgs (inClass (top 16) 4), defBody (inClass (top 16) 4), defScope (inClass (top 16) 4), [], []⟩,
  ⟨("Pattern", some "are_alike"), "are_alike", "Pattern.are_alike", defArgs (inClass (top 16) 5), defBody (inClass (top 16) 5), defScope (inClass (top 16) 5), [], []⟩,
  ⟨("Pattern", some "at_places"), "at_places", "Pattern.at_places", defArgs (inClass (top 16) 6), defBody (inClass (top 16) 6), defScope (inClass (top 16) 6), [], []⟩,
  ⟨("Pattern", some "_check_place"), "_check_place", "Pattern._check_place", defArgs (inClass (top 16) 7), defBody (inClass (top 16) 7), defScope (inClass (top 16) 7), [], []⟩,
  ⟨("Pattern", some "__eq__"), "__eq__", "Pattern.__eq__", defArgs (inClass (top 16) 10), defBody (inClass (top 16) 10), defScope (inClass (top 16) 10), [], []⟩,
  ⟨("Pattern", some "__len__"), "__len__", "Pattern.__len__", defArgs (inClass (top 16) 11), defBody (inClass (top 16) 11), defScope (inClass (top 16) 11), [], []⟩,
  ⟨("Pattern", some "__iter__"), "__iter__", "Pattern.__iter__", defArgs (inClass (top 16) 12), defBody (inClass (top 16) 12), defScope (inClass (top 16) 12), [], []⟩]
abbrev sCount0 : Stmt := inClass (top 16) 2
/-! ### the Hook -/
abbrev AlM : Type := Bool × List He.FnW × He.FnW × He.FnW
def obsM (K : PySem.W.Frag) : AlM := ((fa.all fun f => f.ok K) && (restB K && fn.all fun d => d.ok K), fn.map fun d => He.fnW K d.at_, gW K, He5.fnA K (dOn.at_ K))
def valM : AlM := (true, fn.map He.DefD.val, some ("class_count", "Pattern.class_count", defArgs sCount0, .stmts (defBody sCount0), defScope sCount0, mainGlobals, [], builtinsNs), dOn.val)
def SaysM (K : PySem.W.Frag) : Prop := obsM K = valM
/-- the def whose lambdas' code objects are laid: its code object, its table -/
def tf : List He.Defn := [("_law_odd_places", none)]
structure SaysN (h : Heap) (K : PySem.W.Frag) : Prop where
  m : SaysM K
  hd : ∀ p ∈ tf, PySem.W.codeHdIn K (He.cT K p).1 (He.cT K p).2 = true
  out : ∀ p ∈ tf, K.lookup (He.cT K p).2 = none
  empty : ∀ p ∈ tf, h.get? (He.cT K p).2 = some { cls := .none, data := .fields #[] }
end K25

namespace K25
open PySem PySem.Spec PyProof.Rows L2
def refs1 (o : Obj) : List Addr := match o.data with
  | .dict es _ => es.toList.flatMap fun e => He.refV e.val
  | .func fd => He.refV fd.code ++ He.refV fd.defaults
  | .cls cd => [cd.ns]
  | .fields vs => vs.toList.flatMap He.refV
  | .seq its _ => its.toList.flatMap He.refV
  | _ => []
def nxt (g : Addr → Option Obj) (as : List Addr) : List Addr := as.flatMap fun a => match g a with
  | some o => refs1 o
  | none => []
def asL (g : Addr → Option Obj) : Nat → List Addr → List Addr
  | 0, as => as
  | n + 1, as => as ++ asL g n (nxt g as)
def asM (g : Addr → Option Obj) : List Addr := asL g 5 [mainGlobals] ++ [cStatics]
abbrev AlN : Type := AlM × Bool
def obsMG (g : Addr → Option Obj) : AlN := (obsM (He.frT g (asM g)), He.tabsB g tf (He.frT g (asM g)))
theorem says_of {h : Heap} (e : obsMG h.get? = (valM, true)) : SaysN h (He.frT h.get? (asM h.get?)) := by
  have e1 : SaysM (He.frT h.get? (asM h.get?)) := congrArg (fun z : AlN => z.1) e
  have h2 : He.tabsB h.get? tf (He.frT h.get? (asM h.get?)) = true := congrArg (fun z : AlN => z.2) e
  generalize hK : He.frT h.get? (asM h.get?) = K at e1 h2
  have key : ∀ p ∈ tf, PySem.W.codeHdIn K (He.cT K p).1 (He.cT K p).2 = true ∧ ∃ o, h.get? (He.cT K p).2 = some o ∧ He.emptyTab o = true := fun p hp => by
    obtain ⟨h3, h4⟩ := Bool.and_eq_true_iff.mp (List.all_eq_true.mp h2 p hp)
    refine ⟨h3, ?_⟩
    cases q : h.get? (He.cT K p).2 with
    | none =>
      rw [q] at h4
      cases h4
    | some o =>
      rw [q] at h4
      exact ⟨o, rfl, h4⟩
  refine ⟨e1, fun p hp => (key p hp).1, fun p hp => ?_, fun p hp => ?_⟩
  · obtain ⟨_, o, q, z⟩ := key p hp
    have y := He.frT_none (as := asM h.get?) q z
    rw [hK] at y
    exact y
  · obtain ⟨_, o, q, z⟩ := key p hp
    rw [q, He.emptyTab_eq z]
def hookM : PySem.W.Hook where
  α := AlN
  obs := fun s => obsMG s.heap.get?
  val := fun _ => (valM, true)
  says := fun _ h => ∃ K : PySem.W.Frag, K.In h ∧ SaysN h K
  of := fun _ _ e => ⟨_, He.frT_in, says_of e⟩
  keeps := fun _ _ _ ⟨K, hK, c⟩ k => ⟨K, PySem.W.Frag.In.keeps hK k, ⟨c.m, c.hd, c.out, fun p hp => k _ _ (c.empty p hp)⟩⟩
abbrev R : PySem.W.OpenRow := PySem.W.OpenLaw.row PySem.Challenge.rw_namesakes_k25_patterns_made_and_refused
def ob (s : PySem.W.SharedT) : AlN := obsMG (HandSHeadRun.getT s)
theorem ob_eq (s : PySem.W.SharedT) : ob s = hookM.obs s.abs := by
  have e : HandSHeadRun.getT s = s.abs.heap.get? := funext (HandSHeadRun.getT_eq s)
  show obsMG (HandSHeadRun.getT s) = obsMG s.abs.heap.get?
  rw [e]
def looseL : List Str := [("_wall" : Str), ("CustomError" : Str), ("BadPattern" : Str), ("BadNames" : Str), ("BadPlaces" : Str), ("BadClass" : Str), ("BadMatch" : Str), ("MOST_NAME" : Str), ("is_whole" : Str), ("is_name" : Str), ("is_sequence" : Str), ("MOST_PLACES" : Str), ("numbered" : Str), ("_entries_fault" : Str), ("Pattern" : Str), ("check_match" : Str), ("_merged" : Str), ("check_names" : Str), ("_law_mix" : Str), ("_law_hand" : Str), ("_law_draw" : Str), ("_law_pick" : Str), ("_law_entries" : Str), ("_law_numbers" : Str), ("_law_size" : Str), ("_law_whole" : Str), ("_law_same" : Str), ("_law_spoilt" : Str), ("_law_fault" : Str), ("_law_made" : Str), ("_law_names_fault" : Str), ("_law_shown" : Str), ("_law_place_error" : Str), ("_law_reads" : Str), ("_law_places" : Str), ("_law_part_right" : Str), ("_law_odd_places" : Str), ("_law_rows_right" : Str)]
theorem run (w : World) : HandSHeadRun.RunEq R (PySem.W.view R.prog [41]) hookM ob 20000 looseL w := by
  intro os
  kernel_rfl
end K25


namespace K25
section
variable {α β : Type}
/-- two places hold the same -/
def Ker (l : List (Option α)) (i j : Nat) : Prop := ∃ x, l[i]? = some (some x) ∧ l[j]? = some (some x)
theorem Ker.symm {l : List (Option α)} {i j : Nat} (h : Ker l i j) : Ker l j i := by
  obtain ⟨x, a, b⟩ := h
  exact ⟨x, b, a⟩
theorem Ker.trans {l : List (Option α)} {i j k : Nat} (h : Ker l i j) (g : Ker l j k) : Ker l i k := by
  obtain ⟨x, a, b⟩ := h
  obtain ⟨y, c, d⟩ := g
  rw [b] at c
  cases c
  exact ⟨x, a, d⟩
theorem Ker.left {l : List (Option α)} {i j : Nat} (h : Ker l i j) : Ker l i i := h.trans h.symm
/-- the same places are nobody's -/
def Mask (l : List (Option α)) (m : List (Option β)) : Prop := l.map Option.isSome = m.map Option.isSome
theorem Mask.len {l : List (Option α)} {m : List (Option β)} (h : Mask l m) : l.length = m.length := by
  have := congrArg List.length h
  simpa using this
theorem Mask.at_ {l : List (Option α)} {m : List (Option β)} (h : Mask l m) (i : Nat) : (l[i]?).map Option.isSome = (m[i]?).map Option.isSome := by
  have := congrArg (fun z => z[i]?) h
  simpa [List.getElem?_map] using this
theorem Mask.some {l : List (Option α)} {m : List (Option β)} (h : Mask l m) {i : Nat} {x : α} (e : l[i]? = some (some x)) : ∃ y, m[i]? = some (some y) := by
  have z := h.at_ i
  rw [e] at z
  cases e2 : m[i]? with
  | none => rw [e2] at z; cases z
  | some o =>
    cases o with
    | none => rw [e2] at z; cases z
    | some y => exact ⟨y, rfl⟩
theorem Mask.symm {l : List (Option α)} {m : List (Option β)} (h : Mask l m) : Mask m l := Eq.symm h
end
section
variable {α β : Type} [DecidableEq α] [DecidableEq β]
/-- numbers in the order of first coming -/
def numA : List α → List (Option α) → List (Option Nat)
  | _, [] => []
  | met, none :: r => none :: numA met r
  | met, some x :: r => if x ∈ met then some (met.idxOf x) :: numA met r else some met.length :: numA (met ++ [x]) r
def num (l : List (Option α)) : List (Option Nat) := numA [] l
theorem mask_num : ∀ (l : List (Option α)) (met : List α), (numA met l).map Option.isSome = l.map Option.isSome
  | [], _ => rfl
  | none :: r, met => congrArg (List.cons false) (mask_num r met)
  | some x :: r, met => by
    unfold numA
    split
    · exact congrArg (List.cons true) (mask_num r met)
    · exact congrArg (List.cons true) (mask_num r (met ++ [x]))
theorem Mask.nums (l : List (Option α)) : Mask (num l) l := mask_num l []
theorem num_len (l : List (Option α)) : (num l).length = l.length := (Mask.nums l).len
theorem idx_of {l : List α} {x : α} (h : x ∈ l) : l[l.idxOf x]? = some x := by
  have hl := List.idxOf_lt_length_of_mem h
  rw [List.getElem?_eq_getElem hl]
  simp
/-- what the numbers met stand for: read at place i -/
theorem num_at : ∀ (l : List (Option α)) (met : List α), met.Nodup → ∃ fin : List α, (met ++ fin).Nodup ∧
    ∀ i : Nat, (∀ x, l[i]? = some (some x) → ∃ k, (numA met l)[i]? = some (some k) ∧ (met ++ fin)[k]? = some x)
  | [], met, h => ⟨[], by simpa using h, fun i x e => by cases e⟩
  | none :: r, met, h => by
    obtain ⟨fin, h1, h2⟩ := num_at r met h
    refine ⟨fin, h1, fun i x e => ?_⟩
    cases i with
    | zero => cases e
    | succ i => exact h2 i x e
  | some x :: r, met, h => by
    by_cases hx : x ∈ met
    · obtain ⟨fin, h1, h2⟩ := num_at r met h
      refine ⟨fin, h1, fun i y e => ?_⟩
      unfold numA
      rw [if_pos hx]
      cases i with
      | zero =>
        cases e
        refine ⟨_, rfl, ?_⟩
        rw [List.getElem?_append_left (List.idxOf_lt_length_of_mem hx)]
        exact idx_of hx
      | succ i => exact h2 i y e
    · have hn : (met ++ [x]).Nodup := by
        rw [List.nodup_append]
        refine ⟨h, by simp, fun a ha b hb => ?_⟩
        rw [List.mem_singleton.mp hb]
        exact fun z => hx (z ▸ ha)
      obtain ⟨fin, h1, h2⟩ := num_at r (met ++ [x]) hn
      refine ⟨x :: fin, by simpa using h1, fun i y e => ?_⟩
      unfold numA
      rw [if_neg hx]
      cases i with
      | zero =>
        cases e
        exact ⟨met.length, rfl, by simp⟩
      | succ i =>
        obtain ⟨k, k1, k2⟩ := h2 i y e
        exact ⟨k, k1, by simpa using k2⟩
theorem nodup_get {l : List α} (h : l.Nodup) {i j : Nat} {x : α} (a : l[i]? = some x) (b : l[j]? = some x) : i = j := by
  obtain ⟨hi, ei⟩ := List.getElem?_eq_some_iff.mp a
  obtain ⟨hj, ej⟩ := List.getElem?_eq_some_iff.mp b
  have a := List.Nodup.idxOf_getElem h i hi
  have b := List.Nodup.idxOf_getElem h j hj
  rw [ei] at a
  rw [ej] at b
  exact a.symm.trans b
theorem ker_num (l : List (Option α)) (i j : Nat) : Ker (num l) i j ↔ Ker l i j := by
  obtain ⟨fin, h1, h2⟩ := num_at l [] List.nodup_nil
  have M := Mask.nums l
  refine ⟨fun ⟨k, a, b⟩ => ?_, fun ⟨x, a, b⟩ => ?_⟩
  · obtain ⟨x, ex⟩ := M.some a
    obtain ⟨y, ey⟩ := M.some b
    obtain ⟨k1, e1, f1⟩ := h2 i x ex
    obtain ⟨k2, e2, f2⟩ := h2 j y ey
    have a' : (numA [] l)[i]? = some (some k) := a
    have b' : (numA [] l)[j]? = some (some k) := b
    rw [a'] at e1
    rw [b'] at e2
    cases e1
    cases e2
    rw [f1] at f2
    cases f2
    exact ⟨x, ex, ey⟩
  · obtain ⟨k1, e1, f1⟩ := h2 i x a
    obtain ⟨k2, e2, f2⟩ := h2 j x b
    obtain rfl := nodup_get h1 f1 f2
    exact ⟨k1, e1, e2⟩
end
section
variable {α β : Type} [DecidableEq α] [DecidableEq β]
/-- the same kernel: the same numbers -/
theorem num_ext_aux : ∀ (l : List (Option α)) (m : List (Option β)) (L : List (Option α)) (M : List (Option β)) (p : Nat) (met : List α) (met' : List β),
    L.drop p = l → M.drop p = m → met.Nodup → met'.Nodup → met.length = met'.length → (∀ i j, Ker L i j ↔ Ker M i j) → Mask L M →
    (∀ (k : Nat) (x : α) (y : β), met[k]? = some x → met'[k]? = some y → ∃ q, q < p ∧ L[q]? = some (some x) ∧ M[q]? = some (some y)) →
    (∀ (q : Nat) (x : α), q < p → L[q]? = some (some x) → x ∈ met) → (∀ (q : Nat) (y : β), q < p → M[q]? = some (some y) → y ∈ met') → numA met l = numA met' m
  | [], m, L, M, p, met, met', e1, e2, _, _, _, _, hM, _, _, _ => by
    have a := congrArg List.length e1
    have b := congrArg List.length e2
    have c := hM.len
    rw [List.length_drop] at a b
    have : m.length = 0 := by simp at a; omega
    rw [List.eq_nil_of_length_eq_zero this]
    rfl
  | o :: l, m, L, M, p, met, met', e1, e2, nd, nd', hl, hk, hM, hq, h1, h2 => by
    have lp : L[p]? = some o := by
      have := congrArg (fun z => z[0]?) e1
      simpa using this
    have mp : ∃ o' m', m = o' :: m' := by
      have a := congrArg List.length e1
      have b := congrArg List.length e2
      have c := hM.len
      rw [List.length_drop] at a b
      cases m with
      | nil => simp at a b; omega
      | cons o' m' => exact ⟨o', m', rfl⟩
    obtain ⟨o', m', rfl⟩ := mp
    have mp : M[p]? = some o' := by
      have := congrArg (fun z => z[0]?) e2
      simpa using this
    have e1' : L.drop (p + 1) = l := by
      have := congrArg (fun z => z.drop 1) e1
      simpa [List.drop_drop, Nat.add_comm] using this
    have e2' : M.drop (p + 1) = m' := by
      have := congrArg (fun z => z.drop 1) e2
      simpa [List.drop_drop, Nat.add_comm] using this
    have mo := hM.at_ p
    rw [lp, mp] at mo
    have mo : o.isSome = o'.isSome := by simpa using mo
    cases o with
    | none =>
      cases o' with
      | some y => cases mo
      | none =>
        refine congrArg (List.cons none) (num_ext_aux l m' L M (p + 1) met met' e1' e2' nd nd' hl hk hM (fun k x y a b => ?_) (fun q x a b => ?_) fun q y a b => ?_)
        · obtain ⟨q, q1, q2⟩ := hq k x y a b
          exact ⟨q, by omega, q2⟩
        · rcases Nat.lt_succ_iff_lt_or_eq.mp a with a | a
          · exact h1 q x a b
          · rw [a, lp] at b; cases b
        · rcases Nat.lt_succ_iff_lt_or_eq.mp a with a | a
          · exact h2 q y a b
          · rw [a, mp] at b; cases b
    | some x =>
      cases o' with
      | none => cases mo
      | some y =>
        have link : ∀ k, met[k]? = some x ↔ met'[k]? = some y := fun k => by
          refine ⟨fun a => ?_, fun a => ?_⟩
          · have kl : k < met'.length := by have := (List.getElem?_eq_some_iff.mp a).1; omega
            obtain ⟨q, q1, q2, q3⟩ := hq k x met'[k] a (List.getElem?_eq_getElem kl)
            obtain ⟨z, z1, z2⟩ := (hk q p).mp ⟨x, q2, lp⟩
            rw [mp] at z2
            cases z2
            rw [q3] at z1
            rw [List.getElem?_eq_getElem kl]
            exact Option.some.inj z1
          · have kl : k < met.length := by have := (List.getElem?_eq_some_iff.mp a).1; omega
            obtain ⟨q, q1, q2, q3⟩ := hq k met[k] y (List.getElem?_eq_getElem kl) a
            obtain ⟨z, z1, z2⟩ := (hk q p).mpr ⟨y, q3, mp⟩
            rw [lp] at z2
            cases z2
            rw [q2] at z1
            rw [List.getElem?_eq_getElem kl]
            exact Option.some.inj z1
        have mem : x ∈ met ↔ y ∈ met' := by
          rw [List.mem_iff_getElem?, List.mem_iff_getElem?]
          exact ⟨fun ⟨k, a⟩ => ⟨k, (link k).mp a⟩, fun ⟨k, a⟩ => ⟨k, (link k).mpr a⟩⟩
        unfold numA
        by_cases hx : x ∈ met
        · rw [if_pos hx, if_pos (mem.mp hx)]
          have ei : met.idxOf x = met'.idxOf y := nodup_get nd' ((link _).mp (idx_of hx)) (idx_of (mem.mp hx))
          rw [ei]
          refine congrArg (List.cons _) (num_ext_aux l m' L M (p + 1) met met' e1' e2' nd nd' hl hk hM (fun k x y a b => ?_) (fun q x' a b => ?_) fun q y' a b => ?_)
          · obtain ⟨q, q1, q2⟩ := hq k x y a b
            exact ⟨q, by omega, q2⟩
          · rcases Nat.lt_succ_iff_lt_or_eq.mp a with a | a
            · exact h1 q x' a b
            · rw [a, lp] at b; cases b; exact hx
          · rcases Nat.lt_succ_iff_lt_or_eq.mp a with a | a
            · exact h2 q y' a b
            · rw [a, mp] at b; cases b; exact mem.mp hx
        · have hy := fun z => hx (mem.mpr z)
          rw [if_neg hx, if_neg hy, hl]
          have nn : ∀ {γ : Type} [DecidableEq γ] {l : List γ} {x : γ}, l.Nodup → ¬ x ∈ l → (l ++ [x]).Nodup := fun {γ} _ {l x} h n => by
            rw [List.nodup_append]
            refine ⟨h, by simp, fun a ha b hb => ?_⟩
            rw [List.mem_singleton.mp hb]
            exact fun z => n (z ▸ ha)
          refine congrArg (List.cons _) (num_ext_aux l m' L M (p + 1) (met ++ [x]) (met' ++ [y]) e1' e2' (nn nd hx) (nn nd' hy) (by simp [hl]) hk hM (fun k x' y' a b => ?_) (fun q x' a b => ?_) fun q y' a b => ?_)
          · by_cases kl : k < met.length
            · rw [List.getElem?_append_left kl] at a
              rw [List.getElem?_append_left (by omega)] at b
              obtain ⟨q, q1, q2⟩ := hq k x' y' a b
              exact ⟨q, by omega, q2⟩
            · rw [List.getElem?_append_right (by omega)] at a
              rw [List.getElem?_append_right (by omega), ← hl] at b
              cases z : k - met.length with
              | succ _ => rw [z] at a; cases a
              | zero =>
                rw [z] at a b
                cases a
                cases b
                exact ⟨p, by omega, lp, mp⟩
          · rcases Nat.lt_succ_iff_lt_or_eq.mp a with a | a
            · exact List.mem_append_left _ (h1 q x' a b)
            · rw [a, lp] at b; cases b; simp
          · rcases Nat.lt_succ_iff_lt_or_eq.mp a with a | a
            · exact List.mem_append_left _ (h2 q y' a b)
            · rw [a, mp] at b; cases b; simp
theorem num_ext {l : List (Option α)} {m : List (Option β)} (hM : Mask l m) (hk : ∀ i j, Ker l i j ↔ Ker m i j) : num l = num m :=
  num_ext_aux l m l m 0 [] [] (by simp) (by simp) List.nodup_nil List.nodup_nil rfl hk hM (fun k x y a => by simp at a) (fun q x a => absurd a (Nat.not_lt_zero _)) fun q y a => absurd a (Nat.not_lt_zero _)
theorem num_idem (l : List (Option α)) : num (num l) = num l := num_ext (Mask.nums l) (ker_num l)
end

/-! ### a number is at most its place -/
theorem numA_lt {α : Type} [DecidableEq α] : ∀ (l : List (Option α)) (met : List α) (i k : Nat), (numA met l)[i]? = some (some k) → k < met.length + i + 1
  | [], _, i, k, h => by cases h
  | none :: r, met, i, k, h => by
    cases i with
    | zero => cases h
    | succ i =>
      have := numA_lt r met i k h
      omega
  | some x :: r, met, i, k, h => by
    unfold numA at h
    split at h
    · rename_i hx
      cases i with
      | zero =>
        have := List.idxOf_lt_length_of_mem hx
        have e : met.idxOf x = k := by simpa using h
        omega
      | succ i =>
        have := numA_lt r met i k h
        omega
    · cases i with
      | zero =>
        have e : met.length = k := by simpa using h
        omega
      | succ i =>
        have := numA_lt r (met ++ [x]) i k h
        rw [List.length_append] at this
        simp at this
        omega
theorem num_lt {α : Type} [DecidableEq α] {l : List (Option α)} {i k : Nat} (h : (num l)[i]? = some (some k)) : k < l.length := by
  have a := numA_lt l [] i k h
  have b := (List.getElem?_eq_some_iff.mp h).1
  rw [num_len] at b
  simp at a
  omega
/-- numbered as patterns are -/
def Pt (p : List (Option Nat)) : Prop := num p = p
theorem Pt.nums {α : Type} [DecidableEq α] (l : List (Option α)) : Pt (num l) := num_idem l
theorem Pt.lt {p : List (Option Nat)} (h : Pt p) {i k : Nat} (e : p[i]? = some (some k)) : k < p.length := by
  rw [← h] at e
  exact num_lt e
theorem Pt.ext {p q : List (Option Nat)} (hp : Pt p) (hq : Pt q) (hM : Mask p q) (hk : ∀ i j, Ker p i j ↔ Ker q i j) : p = q := by
  have e := num_ext hM hk
  rw [hp, hq] at e
  exact e
theorem Mask.trans {α β γ : Type} {l : List (Option α)} {m : List (Option β)} {n : List (Option γ)} (h : Mask l m) (g : Mask m n) : Mask l n := Eq.trans h g
/-! ### finer -/
def Finer (a b : List (Option Nat)) : Prop := ∀ i j, Ker a i j → Ker b i j
theorem Finer.refl (a : List (Option Nat)) : Finer a a := fun _ _ h => h
/-- the least above -/
structure IsJoin {α : Type} (l : List (Option α)) (a b : List (Option Nat)) : Prop where
  mask : Mask l a
  left : ∀ i j, Ker a i j → Ker l i j
  right : ∀ i j, Ker b i j → Ker l i j
  least : ∀ R : Nat → Nat → Prop, (∀ i j, R i j → R j i) → (∀ i j k, R i j → R j k → R i k) → (∀ i j, Ker a i j → R i j) → (∀ i j, Ker b i j → R i j) → ∀ i j, Ker l i j → R i j
theorem IsJoin.le {α β : Type} {l : List (Option α)} {m : List (Option β)} {a b : List (Option Nat)} (h : IsJoin l a b) (f : ∀ i j, Ker a i j → Ker m i j) (g : ∀ i j, Ker b i j → Ker m i j) : ∀ i j, Ker l i j → Ker m i j :=
  h.least _ (fun _ _ z => z.symm) (fun _ _ _ z y => z.trans y) f g
theorem IsJoin.ker {α β : Type} {l : List (Option α)} {m : List (Option β)} {a b : List (Option Nat)} (h : IsJoin l a b) (g : IsJoin m a b) (i j : Nat) : Ker l i j ↔ Ker m i j :=
  ⟨h.le g.left g.right i j, g.le h.left h.right i j⟩
theorem IsJoin.nums {α : Type} [DecidableEq α] {l : List (Option α)} {a b : List (Option Nat)} (h : IsJoin l a b) : IsJoin (num l) a b :=
  ⟨(Mask.nums l).trans h.mask, fun i j z => (ker_num l i j).mpr (h.left i j z), fun i j z => (ker_num l i j).mpr (h.right i j z), fun R s t f g i j z => h.least R s t f g i j ((ker_num l i j).mp z)⟩
theorem IsJoin.same {α β : Type} [DecidableEq α] [DecidableEq β] {l : List (Option α)} {m : List (Option β)} {a b : List (Option Nat)} (h : IsJoin l a b) (g : IsJoin m a b) : num l = num m :=
  num_ext (h.mask.trans g.mask.symm) (h.ker g)
theorem IsJoin.swap {α : Type} {l : List (Option α)} {a b : List (Option Nat)} (h : IsJoin l a b) (hM : Mask a b) : IsJoin l b a :=
  ⟨h.mask.trans hM, h.right, h.left, fun R s t f g => h.least R s t g f⟩
/-- the greatest beneath -/
structure IsMeet {α : Type} (l : List (Option α)) (a b : List (Option Nat)) : Prop where
  mask : Mask l a
  ker : ∀ i j, Ker l i j ↔ (Ker a i j ∧ Ker b i j)
theorem IsMeet.nums {α : Type} [DecidableEq α] {l : List (Option α)} {a b : List (Option Nat)} (h : IsMeet l a b) : IsMeet (num l) a b :=
  ⟨(Mask.nums l).trans h.mask, fun i j => (ker_num l i j).trans (h.ker i j)⟩
theorem IsMeet.same {α β : Type} [DecidableEq α] [DecidableEq β] {l : List (Option α)} {m : List (Option β)} {a b : List (Option Nat)} (h : IsMeet l a b) (g : IsMeet m a b) : num l = num m :=
  num_ext (h.mask.trans g.mask.symm) fun i j => (h.ker i j).trans (g.ker i j).symm
theorem IsMeet.swap {α : Type} {l : List (Option α)} {a b : List (Option Nat)} (h : IsMeet l a b) (hM : Mask a b) : IsMeet l b a :=
  ⟨h.mask.trans hM, fun i j => (h.ker i j).trans ⟨fun z => ⟨z.2, z.1⟩, fun z => ⟨z.2, z.1⟩⟩⟩
/-! ### what the law asks of them -/
section
variable {a b c j m : List (Option Nat)}
theorem join_self (ha : Pt a) (hj : Pt j) (h : IsJoin j a a) : j = a := hj.ext ha h.mask fun _ _ => ⟨h.le (fun _ _ z => z) (fun _ _ z => z) _ _, h.left _ _⟩
theorem meet_self (ha : Pt a) (hm : Pt m) (h : IsMeet m a a) : m = a := hm.ext ha h.mask fun i k => (h.ker i k).trans ⟨fun z => z.1, fun z => ⟨z, z⟩⟩
/-- first | (first & second) -/
theorem join_meet (ha : Pt a) (hj : Pt j) (hm : IsMeet m a b) (h : IsJoin j a m) : j = a :=
  hj.ext ha h.mask fun _ _ => ⟨h.le (fun _ _ z => z) (fun i k z => ((hm.ker i k).mp z).1) _ _, h.left _ _⟩
/-- first & (first | second) -/
theorem meet_join (ha : Pt a) (hm : Pt m) (hj : IsJoin j a b) (h : IsMeet m a j) : m = a :=
  hm.ext ha h.mask fun i k => (h.ker i k).trans ⟨fun z => z.1, fun z => ⟨z, hj.left i k z⟩⟩
theorem finer_join (hb : Pt b) (hj : Pt j) (hM : Mask a b) (h : IsJoin j a b) : Finer a b ↔ j = b :=
  ⟨fun f => hj.ext hb (h.mask.trans hM) fun _ _ => ⟨h.le f (fun _ _ z => z) _ _, h.right _ _⟩, fun e i k z => e ▸ h.left i k z⟩
theorem finer_meet (ha : Pt a) (hm : Pt m) (h : IsMeet m a b) : Finer a b ↔ m = a :=
  ⟨fun f => hm.ext ha h.mask fun i k => (h.ker i k).trans ⟨fun z => z.1, fun z => ⟨z, f i k z⟩⟩, fun e i k z => ((h.ker i k).mp (e ▸ z)).2⟩
theorem join_finer (h : IsJoin j a b) : Finer j c ↔ (Finer a c ∧ Finer b c) :=
  ⟨fun f => ⟨fun i k z => f i k (h.left i k z), fun i k z => f i k (h.right i k z)⟩, fun ⟨f, g⟩ => h.le f g⟩
theorem finer_of_meet (h : IsMeet m a b) : Finer c m ↔ (Finer c a ∧ Finer c b) :=
  ⟨fun f => ⟨fun i k z => ((h.ker i k).mp (f i k z)).1, fun i k z => ((h.ker i k).mp (f i k z)).2⟩, fun ⟨f, g⟩ i k z => (h.ker i k).mpr ⟨f i k z, g i k z⟩⟩
theorem join_assoc {ab bc l r : List (Option Nat)} (hl : Pt l) (hr : Pt r) (h1 : IsJoin ab a b) (h2 : IsJoin bc b c) (g1 : IsJoin l ab c) (g2 : IsJoin r a bc) : l = r :=
  hl.ext hr ((g1.mask.trans h1.mask).trans g2.mask.symm) fun _ _ =>
    ⟨g1.le (h1.le g2.left (fun i k z => g2.right i k (h2.left i k z))) (fun i k z => g2.right i k (h2.right i k z)) _ _,
     g2.le (fun i k z => g1.left i k (h1.left i k z)) (h2.le (fun i k z => g1.left i k (h1.right i k z)) g1.right) _ _⟩
theorem meet_assoc {ab bc l r : List (Option Nat)} (hl : Pt l) (hr : Pt r) (h1 : IsMeet ab a b) (h2 : IsMeet bc b c) (g1 : IsMeet l ab c) (g2 : IsMeet r a bc) : l = r :=
  hl.ext hr ((g1.mask.trans h1.mask).trans g2.mask.symm) fun i k => by
    rw [g1.ker, g2.ker, h1.ker, h2.ker]
    exact ⟨fun z => ⟨z.1.1, z.1.2, z.2⟩, fun z => ⟨⟨z.1, z.2.1⟩, z.2.2⟩⟩
end
/-! ### the program's join: classes of the other, one by one -/
def alikeOf (found other : List (Option Nat)) (n : Nat) : List (Option Nat) := ((found.zip other).filter fun p => p.2 == some n).map (·.1)
/-- the first of a list -/
def hdN : List (Option Nat) → Option Nat
  | [] => none
  | x :: _ => x
def merge1 (found other : List (Option Nat)) (n : Nat) : List (Option Nat) := found.map fun e => if e ∈ alikeOf found other n then hdN (alikeOf found other n) else e
def mergeN (one other : List (Option Nat)) : Nat → List (Option Nat)
  | 0 => one
  | k + 1 => merge1 (mergeN one other k) other k
theorem mem_alike {found other : List (Option Nat)} {n : Nat} {e : Option Nat} : e ∈ alikeOf found other n ↔ ∃ i : Nat, found[i]? = some e ∧ other[i]? = some (some n) := by
  unfold alikeOf
  rw [List.mem_map]
  refine ⟨fun ⟨p, h, ep⟩ => ?_, fun ⟨i, a, b⟩ => ⟨(e, some n), List.mem_filter.mpr ⟨?_, by simp⟩, rfl⟩⟩
  · obtain ⟨h1, h2⟩ := List.mem_filter.mp h
    obtain ⟨i, hi⟩ := List.mem_iff_getElem?.mp h1
    rw [List.getElem?_zip_eq_some] at hi
    refine ⟨i, by rw [hi.1, ep], by rw [hi.2]; exact congrArg some (by simpa using h2)⟩
  · exact List.mem_iff_getElem?.mpr ⟨i, List.getElem?_zip_eq_some.mpr ⟨a, b⟩⟩
/-- the head of what is alike -/
theorem alike_head {found other : List (Option Nat)} {n : Nat} {e : Option Nat} (h : e ∈ alikeOf found other n) : hdN (alikeOf found other n) ∈ alikeOf found other n := by
  cases hA : alikeOf found other n with
  | nil => rw [hA] at h; cases h
  | cons x xs => exact List.mem_cons_self
theorem merge_at {found other : List (Option Nat)} {n i : Nat} : (merge1 found other n)[i]? = (found[i]?).map fun e => if e ∈ alikeOf found other n then hdN (alikeOf found other n) else e := List.getElem?_map ..
theorem alike_some {found other : List (Option Nat)} (hM : Mask found other) {n : Nat} {e : Option Nat} (h : e ∈ alikeOf found other n) : ∃ x, e = some x := by
  obtain ⟨i, a, b⟩ := mem_alike.mp h
  obtain ⟨y, ey⟩ := hM.symm.some b
  rw [a] at ey
  exact ⟨y, Option.some.inj ey⟩
theorem merge_mask {found other : List (Option Nat)} (hM : Mask found other) (n : Nat) : Mask (merge1 found other n) other := by
  refine Eq.trans ?_ hM
  unfold merge1
  rw [List.map_map]
  refine List.map_congr_left fun e _ => ?_
  show (if e ∈ alikeOf found other n then hdN (alikeOf found other n) else e).isSome = e.isSome
  split
  · rename_i h
    obtain ⟨x, rfl⟩ := alike_some hM h
    obtain ⟨y, hy⟩ := alike_some hM (alike_head h)
    rw [hy]
    rfl
  · rfl
theorem merge_keep {found other : List (Option Nat)} {n i j : Nat} (hM : Mask found other) (h : Ker found i j) : Ker (merge1 found other n) i j := by
  obtain ⟨x, a, b⟩ := h
  unfold Ker
  rw [merge_at, merge_at, a, b]
  by_cases hx : some x ∈ alikeOf found other n
  · obtain ⟨y, hy⟩ := alike_some hM (alike_head hx)
    exact ⟨y, by simp [hx, hy], by simp [hx, hy]⟩
  · exact ⟨x, by simp [hx], by simp [hx]⟩
theorem merge_class {found other : List (Option Nat)} {n i j : Nat} (hM : Mask found other) (hi : other[i]? = some (some n)) (hj : other[j]? = some (some n)) : Ker (merge1 found other n) i j := by
  obtain ⟨x, ex⟩ := hM.symm.some hi
  obtain ⟨y, ey⟩ := hM.symm.some hj
  have mx := mem_alike.mpr ⟨i, ex, hi⟩
  have my := mem_alike.mpr ⟨j, ey, hj⟩
  obtain ⟨z, hz⟩ := alike_some hM (alike_head mx)
  refine ⟨z, ?_, ?_⟩
  · rw [merge_at, ex]
    simp [mx, hz]
  · rw [merge_at, ey]
    simp [my, hz]
theorem merge_least {found other : List (Option Nat)} {n i j : Nat} {R : Nat → Nat → Prop} (s : ∀ i j, R i j → R j i) (t : ∀ i j k, R i j → R j k → R i k) (f : ∀ i j, Ker found i j → R i j) (g : ∀ i j, Ker other i j → R i j)
    (hM : Mask found other) (h : Ker (merge1 found other n) i j) : R i j := by
  obtain ⟨z, a, b⟩ := h
  rw [merge_at] at a b
  have pick : ∀ {k : Nat} {w : Nat}, ((found[k]?).map fun e => if e ∈ alikeOf found other n then hdN (alikeOf found other n) else e) = some (some w) → ∃ x, found[k]? = some (some x) ∧ ((some x ∈ alikeOf found other n ∧ hdN (alikeOf found other n) = some w) ∨ (¬ some x ∈ alikeOf found other n ∧ x = w)) := fun {k w} h => by
    cases e : found[k]? with
    | none => rw [e] at h; cases h
    | some o =>
      rw [e] at h
      have h2 : (if o ∈ alikeOf found other n then hdN (alikeOf found other n) else o) = some w := by simpa using h
      clear h
      by_cases ho : o ∈ alikeOf found other n
      · rw [if_pos ho] at h2
        obtain ⟨x, rfl⟩ := alike_some hM ho
        exact ⟨x, rfl, .inl ⟨ho, h2⟩⟩
      · rw [if_neg ho] at h2
        subst h2
        exact ⟨w, rfl, .inr ⟨ho, rfl⟩⟩
  obtain ⟨x, ex, hx⟩ := pick a
  obtain ⟨y, ey, hy⟩ := pick b
  rcases hx with ⟨hx, wx⟩ | ⟨hx, rfl⟩
  · rcases hy with ⟨hy, wy⟩ | ⟨hy, rfl⟩
    · obtain ⟨p, p1, p2⟩ := mem_alike.mp hx
      obtain ⟨q, q1, q2⟩ := mem_alike.mp hy
      exact t _ _ _ (f i p ⟨x, ex, p1⟩) (t _ _ _ (g p q ⟨n, p2, q2⟩) (f q j ⟨y, q1, ey⟩))
    · exact absurd (wx ▸ alike_head hx) hy
  · rcases hy with ⟨hy, wy⟩ | ⟨hy, rfl⟩
    · exact absurd (wy ▸ alike_head hy) hx
    · exact f i j ⟨_, ex, ey⟩
theorem mergeN_mask {one other : List (Option Nat)} (hM : Mask one other) : ∀ k, Mask (mergeN one other k) other
  | 0 => hM
  | k + 1 => merge_mask (mergeN_mask hM k) k
theorem mergeN_keep {one other : List (Option Nat)} (hM : Mask one other) {i j : Nat} (h : Ker one i j) : ∀ k, Ker (mergeN one other k) i j
  | 0 => h
  | k + 1 => merge_keep (mergeN_mask hM k) (mergeN_keep hM h k)
theorem mergeN_class {one other : List (Option Nat)} (hM : Mask one other) {i j c : Nat} (hi : other[i]? = some (some c)) (hj : other[j]? = some (some c)) : ∀ k, c < k → Ker (mergeN one other k) i j
  | 0, h => absurd h (Nat.not_lt_zero _)
  | k + 1, h => by
    rcases Nat.lt_succ_iff_lt_or_eq.mp h with h | h
    · exact merge_keep (mergeN_mask hM k) (mergeN_class hM hi hj k h)
    · subst h
      exact merge_class (mergeN_mask hM c) hi hj
theorem mergeN_least {one other : List (Option Nat)} {R : Nat → Nat → Prop} (s : ∀ i j, R i j → R j i) (t : ∀ i j k, R i j → R j k → R i k) (f : ∀ i j, Ker one i j → R i j) (g : ∀ i j, Ker other i j → R i j) (hM : Mask one other) :
    ∀ k i j, Ker (mergeN one other k) i j → R i j
  | 0, i, j, h => f i j h
  | k + 1, i, j, h => merge_least s t (mergeN_least s t f g hM k) g (mergeN_mask hM k) h
theorem merged_join {one other : List (Option Nat)} (hM : Mask one other) (hp : Pt other) : IsJoin (mergeN one other other.length) one other :=
  ⟨(mergeN_mask hM _).trans hM.symm, fun i j h => mergeN_keep hM h _, fun i j ⟨c, a, b⟩ => mergeN_class hM a b _ (hp.lt a), fun R s t f g i j h => mergeN_least s t f g hM _ i j h⟩

/-! ### the law's own join: places linked two by two -/
def at_ (l : List (Option Nat)) (i : Nat) : Option Nat := l.getD i none
/-- a mark -/
def mk (marks : List Nat) (i : Nat) : Nat := marks.getD i 0
theorem mk_of {l : List Nat} {i x : Nat} (h : l[i]? = some x) : mk l i = x := by
  unfold mk
  rw [List.getD_eq_getElem?_getD, h]
  rfl
def linkB (one other : List (Option Nat)) (i j : Nat) : Bool := (at_ one i).isSome && (decide (at_ one i = at_ one j) || decide (at_ other i = at_ other j))
def stepM (one other : List (Option Nat)) (marks : List Nat) (i j : Nat) : List Nat :=
  if linkB one other i j = true ∧ mk marks i ≠ mk marks j then marks.map fun m => if m = mk marks i then mk marks j else m else marks
def innerM (one other : List (Option Nat)) (marks : List Nat) (i : Nat) : Nat → List Nat
  | 0 => marks
  | j + 1 => stepM one other (innerM one other marks i j) i j
def outerM (one other : List (Option Nat)) : Nat → List Nat
  | 0 => List.range one.length
  | i + 1 => innerM one other (outerM one other i) i i
def Sm (marks : List Nat) (a b : Nat) : Prop := ∃ x : Nat, marks[a]? = some x ∧ marks[b]? = some x
section
variable {one other : List (Option Nat)} {marks : List Nat} {i j : Nat}
theorem stepM_len : (stepM one other marks i j).length = marks.length := by
  unfold stepM
  split
  · rw [List.length_map]
  · rfl
theorem innerM_len : ∀ k, (innerM one other marks i k).length = marks.length
  | 0 => rfl
  | k + 1 => stepM_len.trans (innerM_len k)
theorem outerM_len : ∀ k, (outerM one other k).length = one.length
  | 0 => List.length_range
  | k + 1 => (innerM_len k).trans (outerM_len k)
theorem stepM_keep {a b : Nat} (h : Sm marks a b) : Sm (stepM one other marks i j) a b := by
  obtain ⟨x, h1, h2⟩ := h
  unfold stepM
  split
  · exact ⟨_, by rw [List.getElem?_map, h1]; rfl, by rw [List.getElem?_map, h2]; rfl⟩
  · exact ⟨x, h1, h2⟩
theorem innerM_keep {a b : Nat} (h : Sm marks a b) : ∀ k, Sm (innerM one other marks i k) a b
  | 0 => h
  | k + 1 => stepM_keep (innerM_keep h k)
theorem getD_some {l : List Nat} {i : Nat} (h : i < l.length) : l[i]? = some (mk l i) := by
  unfold mk
  rw [List.getElem?_eq_getElem h, List.getD_eq_getElem?_getD, List.getElem?_eq_getElem h]
  rfl
theorem stepM_link (hi : i < marks.length) (hj : j < marks.length) (h : linkB one other i j = true) : Sm (stepM one other marks i j) i j := by
  have ei := getD_some hi
  have ej := getD_some hj
  unfold stepM
  by_cases e : mk marks i = mk marks j
  · rw [if_neg (fun z => z.2 e)]
    exact ⟨_, ei, by rw [ej, e]⟩
  · rw [if_pos ⟨h, e⟩]
    refine ⟨mk marks j, ?_, ?_⟩
    · rw [List.getElem?_map, ei]
      simp
    · rw [List.getElem?_map, ej]
      simp
theorem stepM_least {S : Nat → Nat → Prop} (s : ∀ a b, S a b → S b a) (t : ∀ a b c, S a b → S b c → S a c) (hi : i < marks.length) (hj : j < marks.length) (f : ∀ a b, Sm marks a b → S a b) (g : linkB one other i j = true → S i j) {a b : Nat} (h : Sm (stepM one other marks i j) a b) : S a b := by
  have ei := getD_some hi
  have ej := getD_some hj
  unfold stepM at h
  split at h
  · rename_i hl
    obtain ⟨x, h1, h2⟩ := h
    rw [List.getElem?_map] at h1 h2
    have lk := g hl.1
    generalize mk marks i = u at *
    generalize mk marks j = v at *
    have pick : ∀ {k : Nat}, (marks[k]?).map (fun m => if m = u then v else m) = some x → ∃ m, marks[k]? = some m ∧ ((m = u ∧ x = v) ∨ (m ≠ u ∧ x = m)) := fun {k} h => by
      cases e : marks[k]? with
      | none => rw [e] at h; cases h
      | some m =>
        rw [e] at h
        have h3 : (if m = u then v else m) = x := Option.some.inj h
        by_cases hm : m = u
        · rw [if_pos hm] at h3
          exact ⟨m, rfl, .inl ⟨hm, h3.symm⟩⟩
        · rw [if_neg hm] at h3
          exact ⟨m, rfl, .inr ⟨hm, h3.symm⟩⟩
    obtain ⟨m, em, hm⟩ := pick h1
    obtain ⟨n, en, hn⟩ := pick h2
    have toI : ∀ {k : Nat}, marks[k]? = some u → S k i := fun {k} e => f k i ⟨u, e, ei⟩
    have toJ : ∀ {k : Nat}, marks[k]? = some v → S k j := fun {k} e => f k j ⟨v, e, ej⟩
    rcases hm with ⟨rfl, rfl⟩ | ⟨hm, rfl⟩
    · rcases hn with ⟨rfl, _⟩ | ⟨hn, rfl⟩
      · exact t _ _ _ (toI em) (s _ _ (toI en))
      · exact t _ _ _ (toI em) (t _ _ _ lk (s _ _ (toJ en)))
    · rcases hn with ⟨rfl, rfl⟩ | ⟨hn, rfl⟩
      · exact t _ _ _ (toJ em) (s _ _ (t _ _ _ (toI en) lk))
      · exact f a b ⟨_, em, en⟩
  · exact f a b h
theorem innerM_link (hi : i < marks.length) {k j : Nat} (hj : j < k) (hk : k ≤ i) (h : linkB one other i j = true) : Sm (innerM one other marks i k) i j := by
  induction k with
  | zero => omega
  | succ k ih =>
    rcases Nat.lt_succ_iff_lt_or_eq.mp hj with hj | rfl
    · exact stepM_keep (ih hj (by omega))
    · exact stepM_link (by rw [innerM_len]; exact hi) (by rw [innerM_len]; omega) h
theorem innerM_least {S : Nat → Nat → Prop} (s : ∀ a b, S a b → S b a) (t : ∀ a b c, S a b → S b c → S a c) (hi : i < marks.length) (f : ∀ a b, Sm marks a b → S a b) (g : ∀ j, j < i → linkB one other i j = true → S i j) : ∀ k, k ≤ i → ∀ a b, Sm (innerM one other marks i k) a b → S a b
  | 0, _ => f
  | k + 1, hk => fun a b h => stepM_least s t (by rw [innerM_len]; exact hi) (by rw [innerM_len]; omega) (innerM_least s t hi f g k (by omega)) (g k (by omega)) h
end
section
variable {one other : List (Option Nat)}
theorem outerM_link {k i j : Nat} (hj : j < i) (hi : i < k) (hk : k ≤ one.length) (h : linkB one other i j = true) : Sm (outerM one other k) i j := by
  induction k with
  | zero => omega
  | succ k ih =>
    rcases Nat.lt_succ_iff_lt_or_eq.mp hi with hi | rfl
    · exact innerM_keep (ih hi (by omega)) _
    · exact innerM_link (by rw [outerM_len]; omega) hj (Nat.le_refl _) h
theorem outerM_least {S : Nat → Nat → Prop} (r : ∀ a, S a a) (s : ∀ a b, S a b → S b a) (t : ∀ a b c, S a b → S b c → S a c) (g : ∀ i j, j < i → linkB one other i j = true → S i j) : ∀ k, k ≤ one.length → ∀ a b, Sm (outerM one other k) a b → S a b
  | 0, _ => fun a b ⟨x, h1, h2⟩ => by
    have e : ∀ {a : Nat}, (List.range one.length)[a]? = some x → a = x := fun {a} h => by
      obtain ⟨ha, ea⟩ := List.getElem?_eq_some_iff.mp h
      rw [List.getElem_range] at ea
      exact ea
    rw [e h1, e h2]
    exact r x
  | k + 1, hk => innerM_least s t (by rw [outerM_len]; omega) (outerM_least r s t g k (by omega)) (fun j hj => g k j hj) k (Nat.le_refl _)
/-- marks of the places that are somebody's -/
def marked (one : List (Option Nat)) (marks : List Nat) : List (Option Nat) := (List.range one.length).map fun i => if at_ one i = none then none else some (mk marks i)
theorem at_get {l : List (Option Nat)} {i : Nat} (h : i < l.length) : l[i]? = some (at_ l i) := by
  unfold at_
  rw [List.getElem?_eq_getElem h, List.getD_eq_getElem?_getD, List.getElem?_eq_getElem h]
  rfl
theorem at_of {l : List (Option Nat)} {i : Nat} {o : Option Nat} (h : l[i]? = some o) : at_ l i = o := by
  unfold at_
  rw [List.getD_eq_getElem?_getD, h]
  rfl
theorem marked_at {marks : List Nat} {i : Nat} (h : i < one.length) : (marked one marks)[i]? = some (if at_ one i = none then none else some (mk marks i)) := by
  unfold marked
  rw [List.getElem?_map, List.getElem?_range h]
  rfl
theorem marked_len {marks : List Nat} : (marked one marks).length = one.length := by
  unfold marked
  rw [List.length_map, List.length_range]
theorem ker_marked {marks : List Nat} (hl : marks.length = one.length) {i j : Nat} : Ker (marked one marks) i j ↔ (Ker one i i ∧ Ker one j j ∧ Sm marks i j) := by
  have at2 : ∀ {i x : Nat}, (marked one marks)[i]? = some (some x) ↔ (Ker one i i ∧ marks[i]? = some x) := fun {i x} => by
    refine ⟨fun h => ?_, fun ⟨⟨y, hy, _⟩, hm⟩ => ?_⟩
    · have il := (List.getElem?_eq_some_iff.mp h).1
      rw [marked_len] at il
      rw [marked_at il] at h
      cases e : at_ one i with
      | none => rw [e] at h; cases h
      | some y =>
        rw [e] at h
        have h2 : mk marks i = x := by
          have z := Option.some.inj h
          rw [if_neg (by simp)] at z
          exact Option.some.inj z
        refine ⟨⟨y, ?_, ?_⟩, ?_⟩
        · rw [at_get il, e]
        · rw [at_get il, e]
        · rw [getD_some (by omega), h2]
    · have il := (List.getElem?_eq_some_iff.mp hy).1
      rw [marked_at il, at_of hy]
      rw [mk_of hm]
      simp
  constructor
  · rintro ⟨x, a, b⟩
    exact ⟨(at2.mp a).1, (at2.mp b).1, x, (at2.mp a).2, (at2.mp b).2⟩
  · rintro ⟨a, b, x, c, d⟩
    exact ⟨x, at2.mpr ⟨a, c⟩, at2.mpr ⟨b, d⟩⟩
theorem link_iff (hM : Mask one other) {i j : Nat} (hi : i < one.length) (hj : j < one.length) : linkB one other i j = true ↔ (Ker one i j ∨ Ker other i j) := by
  have lo := hM.len
  unfold linkB
  rw [Bool.and_eq_true_iff, Bool.or_eq_true_iff, decide_eq_true_iff, decide_eq_true_iff]
  constructor
  · rintro ⟨h, e | e⟩
    · obtain ⟨x, hx⟩ := Option.isSome_iff_exists.mp h
      exact .inl ⟨x, by rw [at_get hi, hx], by rw [at_get hj, ← e, hx]⟩
    · obtain ⟨x, hx⟩ := Option.isSome_iff_exists.mp h
      obtain ⟨y, hy⟩ := hM.some (show one[i]? = some (some x) by rw [at_get hi, hx])
      exact .inr ⟨y, hy, by rw [at_get (by omega), ← e, at_of hy]⟩
  · rintro (⟨x, a, b⟩ | ⟨y, a, b⟩)
    · exact ⟨by rw [at_of a]; rfl, .inl (by rw [at_of a, at_of b])⟩
    · obtain ⟨x, hx⟩ := hM.symm.some a
      exact ⟨by rw [at_of hx]; rfl, .inr (by rw [at_of a, at_of b])⟩
theorem Ker.lt {α : Type} {l : List (Option α)} {i j : Nat} (h : Ker l i j) : i < l.length ∧ j < l.length := by
  obtain ⟨x, a, b⟩ := h
  exact ⟨(List.getElem?_eq_some_iff.mp a).1, (List.getElem?_eq_some_iff.mp b).1⟩
theorem Mask.ker {α β : Type} {l : List (Option α)} {m : List (Option β)} (h : Mask l m) {i : Nat} (k : Ker l i i) : Ker m i i := by
  obtain ⟨x, a, _⟩ := k
  obtain ⟨y, e⟩ := h.some a
  exact ⟨y, e, e⟩
def aboveL (one other : List (Option Nat)) : List (Option Nat) := marked one (outerM one other one.length)
theorem above_join (hM : Mask one other) : IsJoin (aboveL one other) one other := by
  have hl : (outerM one other one.length).length = one.length := outerM_len _
  have lk : ∀ i j, (Ker one i j ∨ Ker other i j) → Sm (outerM one other one.length) i j := fun i j h => by
    have hij : i < one.length ∧ j < one.length := h.elim (fun z => z.lt) fun z => by rw [hM.len]; exact z.lt
    rcases Nat.lt_trichotomy i j with c | c | c
    · have z := outerM_link (k := one.length) c hij.2 (Nat.le_refl _) ((link_iff hM hij.2 hij.1).mpr (h.imp (fun z => z.symm) fun z => z.symm))
      obtain ⟨x, a, b⟩ := z
      exact ⟨x, b, a⟩
    · subst c
      exact ⟨_, getD_some (by omega), getD_some (by omega)⟩
    · exact outerM_link (k := one.length) c hij.1 (Nat.le_refl _) ((link_iff hM hij.1 hij.2).mpr h)
  refine ⟨?_, fun i j h => (ker_marked hl).mpr ⟨h.left, h.symm.left, lk i j (.inl h)⟩, fun i j h => (ker_marked hl).mpr ⟨hM.symm.ker h.left, hM.symm.ker h.symm.left, lk i j (.inr h)⟩, fun R s t f g i j h => ?_⟩
  · show (aboveL one other).map Option.isSome = one.map Option.isSome
    refine List.ext_getElem? fun i => ?_
    rw [List.getElem?_map, List.getElem?_map]
    by_cases hi : i < one.length
    · show ((marked one _)[i]?).map _ = _
      rw [marked_at hi, at_get hi]
      cases at_ one i <;> rfl
    · rw [List.getElem?_eq_none (by rw [show (aboveL one other).length = one.length from marked_len]; omega), List.getElem?_eq_none (by omega)]
  · obtain ⟨hi, hj, hs⟩ := (ker_marked hl).mp h
    have z := outerM_least (one := one) (other := other) (S := fun a b => a = b ∨ R a b) (fun a => .inl rfl) (fun a b z => z.imp (fun e => e.symm) (s a b)) (fun a b c z y => by
      rcases z with rfl | z
      · exact y
      · rcases y with rfl | y
        · exact .inr z
        · exact .inr (t _ _ _ z y)) (fun a b hb hab => by
      by_cases ha : a < one.length
      · exact .inr (((link_iff hM ha (by omega)).mp hab).elim (f a b) (g a b))
      · exfalso
        unfold linkB at hab
        have : at_ one a = none := by
          unfold at_
          rw [List.getD_eq_getElem?_getD, List.getElem?_eq_none (by omega)]
          rfl
        rw [this] at hab
        cases hab) one.length (Nat.le_refl _) i j hs
    rcases z with rfl | z
    · exact f _ _ hi
    · exact z
/-! ### the law's own meet, finer -/
def pairL (one other : List (Option Nat)) : List (Option (Nat × Nat)) := (List.range one.length).map fun i => match at_ one i, at_ other i with
  | some x, some y => some (x, y)
  | _, _ => none
theorem pair_at (hM : Mask one other) {i x y : Nat} : (pairL one other)[i]? = some (some (x, y)) ↔ (one[i]? = some (some x) ∧ other[i]? = some (some y)) := by
  unfold pairL
  rw [List.getElem?_map]
  have lo := hM.len
  by_cases hi : i < one.length
  · rw [List.getElem?_range hi, at_get hi, at_get (show i < other.length by omega)]
    cases e1 : at_ one i with
    | none => simp [e1]
    | some u =>
      cases e2 : at_ other i with
      | none => simp [e1, e2]
      | some v => simp [e1, e2]
  · rw [List.getElem?_eq_none (by rw [List.length_range]; omega), List.getElem?_eq_none (by omega)]
    simp
theorem beneath_meet (hM : Mask one other) : IsMeet (pairL one other) one other := by
  refine ⟨?_, fun i j => ⟨fun ⟨⟨x, y⟩, a, b⟩ => ?_, fun ⟨⟨x, a, b⟩, ⟨y, c, d⟩⟩ => ?_⟩⟩
  · show (pairL one other).map Option.isSome = one.map Option.isSome
    refine List.ext_getElem? fun i => ?_
    have lo := hM.len
    rw [List.getElem?_map, List.getElem?_map]
    unfold pairL
    rw [List.getElem?_map]
    by_cases hi : i < one.length
    · rw [List.getElem?_range hi, at_get hi]
      have m := hM.at_ i
      rw [at_get hi, at_get (show i < other.length by omega)] at m
      have m : (at_ one i).isSome = (at_ other i).isSome := Option.some.inj m
      cases e : at_ one i with
      | none => simp [e]
      | some u =>
        rw [e] at m
        cases e2 : at_ other i with
        | none => rw [e2] at m; cases m
        | some v => simp [e, e2]
    · rw [List.getElem?_eq_none (by rw [List.length_range]; omega), List.getElem?_eq_none (by omega)]
      rfl
  · obtain ⟨a1, a2⟩ := (pair_at hM).mp a
    obtain ⟨b1, b2⟩ := (pair_at hM).mp b
    exact ⟨⟨x, a1, b1⟩, ⟨y, a2, b2⟩⟩
  · exact ⟨(x, y), (pair_at hM).mpr ⟨a, c⟩, (pair_at hM).mpr ⟨b, d⟩⟩
def badB (one other : List (Option Nat)) (i j : Nat) : Bool := (at_ one i).isSome && (decide (at_ one i = at_ one j) && !decide (at_ other i = at_ other j))
theorem finer_iff (hM : Mask one other) : Finer one other ↔ ∀ i, i < one.length → ∀ j, j < i → badB one other i j = false := by
  have lo := hM.len
  constructor
  · intro f i hi j hj
    rw [Bool.eq_false_iff]
    intro h
    unfold badB at h
    rw [Bool.and_eq_true_iff, Bool.and_eq_true_iff, decide_eq_true_iff] at h
    obtain ⟨h1, h2, h3⟩ := h
    obtain ⟨x, hx⟩ := Option.isSome_iff_exists.mp h1
    obtain ⟨y, a, b⟩ := f i j ⟨x, by rw [at_get hi, hx], by rw [at_get (by omega), ← h2, hx]⟩
    rw [at_of a, at_of b, decide_eq_true rfl] at h3
    cases h3
  · intro h i j k
    have key : ∀ i j, j < i → Ker one i j → Ker other i j := fun i j hj ⟨x, a, b⟩ => by
      have z := h i (List.getElem?_eq_some_iff.mp a).1 j hj
      unfold badB at z
      rw [at_of a, at_of b] at z
      obtain ⟨u, hu⟩ := hM.some a
      obtain ⟨v, hv⟩ := hM.some b
      rw [at_of hu, at_of hv] at z
      have e : u = v := by simpa using z
      subst e
      exact ⟨u, hu, hv⟩
    rcases Nat.lt_trichotomy i j with c | c | c
    · exact (key j i c k.symm).symm
    · subst c
      exact hM.ker k
    · exact key i j c k
end
/-! ### how many pairs there are -/
theorem cover_len : ∀ (c : Nat) (l : List Nat), (∀ k, k < c → k ∈ l) → c ≤ l.length
  | 0, _, _ => Nat.zero_le _
  | c + 1, l, h => by
    have hc := h c (Nat.lt_succ_self c)
    have z := cover_len c (l.erase c) fun k hk => (List.mem_erase_of_ne (by omega)).mpr (h k (by omega))
    rw [List.length_erase_of_mem hc] at z
    have := List.length_pos_of_mem hc
    omega
theorem dup_of : ∀ (l : List Nat), ¬ l.Nodup → ∃ x, x ∈ l ∧ x ∈ l.erase x
  | [], h => absurd List.nodup_nil h
  | a :: t, h => by
    by_cases ha : a ∈ t
    · exact ⟨a, List.mem_cons_self, by rw [List.erase_cons_head]; exact ha⟩
    · obtain ⟨x, h1, h2⟩ := dup_of t fun z => h (List.nodup_cons.mpr ⟨ha, z⟩)
      have ne : a ≠ x := fun z => ha (z ▸ h1)
      exact ⟨x, List.mem_cons_of_mem _ h1, by rw [List.erase_cons_tail (by simpa using ne)]; exact List.mem_cons_of_mem _ h2⟩
theorem nodup_le : ∀ (l m : List Nat), l.Nodup → (∀ x ∈ l, x ∈ m) → l.length ≤ m.length
  | [], _, _, _ => Nat.zero_le _
  | a :: t, m, h, g => by
    obtain ⟨h1, h2⟩ := List.nodup_cons.mp h
    have ha := g a List.mem_cons_self
    have z := nodup_le t (m.erase a) h2 fun x hx => (List.mem_erase_of_ne (fun e => by rw [e] at hx; exact h1 hx)).mpr (g x (List.mem_cons_of_mem _ hx))
    rw [List.length_erase_of_mem ha] at z
    have := List.length_pos_of_mem ha
    rw [List.length_cons]
    omega
theorem len_nodup {l : List Nat} {c : Nat} (h : ∀ k, k ∈ l ↔ k < c) : l.length = c ↔ l.Nodup := by
  refine ⟨fun e => Decidable.byContradiction fun n => ?_, fun n => ?_⟩
  · obtain ⟨x, h1, h2⟩ := dup_of l n
    have z := cover_len c (l.erase x) fun k hk => by
      by_cases e : k = x
      · exact e ▸ h2
      · exact (List.mem_erase_of_ne e).mpr ((h k).mpr hk)
    rw [List.length_erase_of_mem h1] at z
    have := List.length_pos_of_mem h1
    omega
  · have a := cover_len c l fun k hk => (h k).mpr hk
    have b := nodup_le l (List.range c) n fun x hx => List.mem_range.mpr ((h x).mp hx)
    rw [List.length_range] at b
    omega
theorem nodup_map {α : Type} {f : α → Nat} : ∀ {l : List α}, l.Nodup → ((l.map f).Nodup ↔ ∀ a ∈ l, ∀ b ∈ l, f a = f b → a = b)
  | [], _ => ⟨fun _ a h => (by cases h), fun _ => List.nodup_nil⟩
  | x :: l, h => by
    obtain ⟨h1, h2⟩ := List.nodup_cons.mp h
    rw [List.map_cons, List.nodup_cons, nodup_map h2]
    constructor
    · rintro ⟨g1, g2⟩ a ha b hb e
      rcases List.mem_cons.mp ha with rfl | ha
      · rcases List.mem_cons.mp hb with rfl | hb
        · rfl
        · exact absurd (List.mem_map.mpr ⟨b, hb, e.symm⟩) g1
      · rcases List.mem_cons.mp hb with hb | hb
        · exact absurd (List.mem_map.mpr ⟨a, ha, by rw [e, hb]⟩) g1
        · exact g2 a ha b hb e
    · intro g
      refine ⟨fun z => ?_, fun a ha b hb e => g a (List.mem_cons_of_mem _ ha) b (List.mem_cons_of_mem _ hb) e⟩
      obtain ⟨b, hb, e⟩ := List.mem_map.mp z
      exact h1 ((g x List.mem_cons_self b (List.mem_cons_of_mem _ hb) e.symm) ▸ hb)
/-- as many pairs as classes: finer -/
theorem count_finer {one other : List (Option Nat)} (hM : Mask one other) {c : Nat} (hc : ∀ k, (∃ i : Nat, one[i]? = some (some k)) ↔ k < c) {L : List (Nat × Nat)} (nd : L.Nodup) (hL : ∀ x y, (x, y) ∈ L ↔ ∃ i : Nat, one[i]? = some (some x) ∧ other[i]? = some (some y)) :
    L.length = c ↔ Finer one other := by
  have e : (L.map (·.1)).length = L.length := List.length_map ..
  rw [← e, len_nodup (c := c) fun k => ?_, nodup_map nd]
  · constructor
    · rintro h i j ⟨x, a, b⟩
      obtain ⟨y, hy⟩ := hM.some a
      obtain ⟨y', hy'⟩ := hM.some b
      have z := h (x, y) ((hL x y).mpr ⟨i, a, hy⟩) (x, y') ((hL x y').mpr ⟨j, b, hy'⟩) rfl
      cases z
      exact ⟨y, hy, hy'⟩
    · rintro f ⟨x, y⟩ ha ⟨x', y'⟩ hb rfl
      obtain ⟨i, a1, a2⟩ := (hL _ _).mp ha
      obtain ⟨j, b1, b2⟩ := (hL _ _).mp hb
      obtain ⟨u, c1, c2⟩ := f i j ⟨_, a1, b1⟩
      rw [a2] at c1
      rw [b2] at c2
      cases c1
      cases c2
      rfl
  · rw [← hc k, List.mem_map]
    constructor
    · rintro ⟨⟨x, y⟩, h, rfl⟩
      obtain ⟨i, a, _⟩ := (hL x y).mp h
      exact ⟨i, a⟩
    · rintro ⟨i, a⟩
      obtain ⟨y, hy⟩ := hM.some a
      exact ⟨(k, y), (hL k y).mpr ⟨i, a, hy⟩, rfl⟩
end K25

namespace K25
open PySem PySem.Spec PyProof.Rows L2
/-! ### the hand from which a script is drawn -/
/-- what the hand's list holds: the cells' list, how many are taken, the rest of a great cell, the running number -/
abbrev handO (l : Addr) (i r t : Int) : HO := .lst [.ref l, .int i, .int r, .int t]
structure HandOk (cells : List Int) (i r t : Int) : Prop where
  len : cells.length ≤ 63
  pos : ∀ c ∈ cells, 0 ≤ c
  i0 : 0 ≤ i
  i1 : i ≤ 63
  r0 : 0 ≤ r
  t0 : 0 ≤ t
  t1 : t < 2147483629
def HandAt (H : Hp) (p l : Addr) (cells : List Int) (i r t : Int) : Prop := H p = some (handO l i r t) ∧ H l = some (.lst (cells.map V.int)) ∧ HandOk cells i r t
/-! ### promises -/
def spMix : Sp := fun vs H Q _ => ∃ n k : Int, vs = [.int n, .int k] ∧ 0 ≤ n ∧ n < 2147483647 ∧ 0 ≤ k ∧ k ≤ 64 ∧ ∀ d : Int, 0 ≤ d → Q (.int d) H
def spDraw : Sp := fun vs H Q _ => ∃ (p l : Addr) (cells : List Int) (i r t m : Int), vs = [.ref p, .int m] ∧ HandAt H p l cells i r t ∧ 0 < m ∧ m.natAbs < 2 ^ 8000 ∧
  ∀ d i' r' t' : Int, 0 ≤ d → d < m → HandOk cells i' r' t' → Q (.int d) (upd H p (handO l i' r' t'))
section
variable {P : Program} {w : World} {K : PySem.W.Frag} {mg : Str → Option Value} {base : Heap}
theorem scMix : FnScope ["_law_number", "_law_turn", "_law_once", "_law_twice"] ["_law_number", "_law_turn"] (defScope sMix) := ⟨rfl, rfl, rfl, by decide +kernel, rfl, by decide +kernel, by decide +kernel⟩
theorem pp31 : (2147483647 : Int) < 2 ^ 64 := by decide
theorem ok_mix {f : Addr} {fd : FuncData} (F : FnP K "_law_mix" sMix f fd) (zi : mg "int" = none) : FnOk P w K mg base CX0 1 f fd ["_law_number", "_law_turn"] spMix := by
  refine F.ok scMix (fun vs H Q E h => ?_) (fun cdv A outer s H vs Q E hr h => ?_)
  · obtain ⟨n, k, rfl, _⟩ := h
    rfl
  · obtain ⟨n, k, rfl, n0, n1, k0, k1, q⟩ := h
    refine ⟨_, PSs.nox (pss_cons (ps_set (i := 2) scMix.nd rfl (.inl rfl)
        (pe_op op_mod (pe_callTy call_int1 (by rfl) zi (by decide +kernel) (pa_cons
          (pe_op op_add (pe_op op_add (pe_op op_mul (pv 0) pe_int) (pe_op op_mul (pv 1) pe_int)) pe_int) pa_nil)) pe_int))
      (pss_cons (ps_set (i := 3) scMix.nd rfl (.inl rfl)
        (pe_op op_mod (pe_callTy call_int1 (by rfl) zi (by decide +kernel) (pa_cons
          (pe_op op_add (pe_op op_add (pe_op op_mul (pv 2) (pv 2)) (pe_op op_mul (pe_op op_fdiv (pv 2) pe_int) pe_int)) (pe_op op_mul (pv 1) pe_int)) pa_nil)) pe_int))
      (pss_one (ps_ret (pe_op op_fdiv (pe_op op_mod (pe_callTy call_int1 (by rfl) zi (by decide +kernel) (pa_cons
          (pe_op op_add (pe_op op_fdiv (pe_op op_mul (pv 3) (pv 3)) pe_int) (pv 2)) pa_nil)) pe_int) pe_int))))), ?_⟩
    refine ⟨_, rfl, _, _, rfl, rfl, .inl ⟨by omega, by omega⟩, _, rfl, _, _, rfl, rfl, .inl ⟨by omega, by omega⟩, _, _, rfl, rfl, _, _, rfl, rfl, .inl ⟨_, rfl, _, _, rfl, rfl, (by show (0 : Int) < 2147483647; decide), ?_⟩⟩
    refine ⟨_, rfl, _, rfl, _, _, rfl, rfl, .inl ⟨by omega, by omega⟩, _, rfl, _, _, rfl, rfl, ⟨by decide, by decide⟩, _, _, rfl, rfl, .inr ⟨by decide, by decide⟩, _, _, rfl, rfl, _, rfl, _, _, rfl, rfl, .inl ⟨by omega, by omega⟩, _, _, rfl, rfl, .inl ⟨_, rfl, _, _, rfl, rfl, (by show (0 : Int) < 2147483399; decide), ?_⟩⟩
    refine ⟨_, rfl, _, rfl, _, _, rfl, rfl, .inl ⟨by omega, by omega⟩, _, _, rfl, rfl, ⟨by decide, by decide⟩, _, rfl, _, _, rfl, rfl, .inl ⟨_, rfl, _, _, rfl, rfl, (by show (0 : Int) < 2147483563; decide), _, _, rfl, rfl, ⟨by decide, by decide⟩, ?_⟩⟩
    refine q _ ?_
    omega
theorem scDraw : FnScope ["_law_hand_here", "_law_many", "_law_cell", "_law_rest"] ["_law_hand_here", "_law_many"] (defScope sDraw) := ⟨rfl, rfl, rfl, by decide +kernel, rfl, by decide +kernel, by decide +kernel⟩
theorem ok_draw {f fM : Addr} {fd fdM : FuncData} (F : FnP K "_law_draw" sDraw f fd) (zi : mg "int" = none) (zl : mg "len" = none) (FM : FnP K "_law_mix" sMix fM fdM) (gM : mg "_law_mix" = some (.ref fM)) : FnOk P w K mg base CX0 2 f fd ["_law_hand_here", "_law_many"] spDraw := by
  have GM : FnOk P w K mg base CX0 1 fM fdM ["_law_number", "_law_turn"] spMix := ok_mix FM zi
  have bM : Binds K fdM ["_law_number", "_law_turn"] [] := FM.bindsN fun _ _ _ _ _ _ us hl => match us, hl with | [_, _], _ => rfl
  refine F.ok scDraw (fun vs H Q E h => ?_) (fun cdv A outer s H vs Q E hr h => ?_)
  · obtain ⟨p, l, cells, i, r, t, m, rfl, _⟩ := h
    rfl
  · obtain ⟨p, l, cells, i, r, t, m, rfl, ⟨hp, hl, ok⟩, m0, m1, q⟩ := h
    refine ⟨_, PSs.nox (pss_cons (ps_if (PW.pt (pw_and (pt_cmpR op_eq (pe_ix ix_list (pv 0) pe_int (fun _ _ => rfl)) pe_int (nomark _)) (pw_and1 (pt_cmpR op_lt (pe_ix ix_list (pv 0) pe_int (fun _ _ => rfl)) (pe_callB call_len_seq (by rfl) zl boot_len (pa_cons (pe_ix ix_list (pv 0) pe_int (fun _ _ => rfl)) pa_nil)) (nomark _)))))
          (pss_cons (ps_set (i := 2) scDraw.nd rfl (.inl rfl) (pe_ix ix_list (pe_ix ix_list (pv 0) pe_int (fun _ _ => rfl)) (pe_ix ix_list (pv 0) pe_int (fun _ _ => rfl)) (fun _ _ => rfl)))
          (pss_cons (ps_asg (pe_op op_add (pe_ix ix_list (pv 0) pe_int (fun _ _ => rfl)) pe_int) (pg_sub (pv 0) pe_int set_list))
          (pss_cons (ps_if (pt_cmpR op_lt (pv 2) (pe_op op_pow pe_int pe_int) (nomark _))
            (pss_one (ps_ret (pe_op op_mod (pe_callTy call_int1 (by rfl) zi (by decide +kernel) (pa_cons (pe_call GM hr (by rfl) gM FM.kp bM .nil pass0 (pa_cons (pe_op op_mod (pe_callTy call_int1 (by rfl) zi (by decide +kernel) (pa_cons (pv 2) pa_nil)) pe_int) (pa_cons (pe_ix ix_list (pv 0) pe_int (fun _ _ => rfl)) pa_nil))) pa_nil)) (pv 1)))) pss_nil)
          (pss_one (ps_asg (pv 2) (pg_sub (pv 0) pe_int set_list)))))) pss_nil)
      (pss_cons (ps_if (pt_cmpR op_gt (pe_ix ix_list (pv 0) pe_int (fun _ _ => rfl)) pe_int (nomark _))
          (pss_cons (ps_set (i := 3) scDraw.nd rfl (.inl rfl) (pe_ix ix_list (pv 0) pe_int (fun _ _ => rfl)))
          (pss_cons (ps_asg (pe_op op_fdivW (pv 3) (pv 1)) (pg_sub (pv 0) pe_int set_list))
          (pss_one (ps_ret (pe_op op_mod (pe_callTy call_int1 (by rfl) zi (by decide +kernel) (pa_cons (pv 3) pa_nil)) (pv 1)))))) pss_nil)
      (pss_cons (ps_asg (pe_op op_mod (pe_callTy call_int1 (by rfl) zi (by decide +kernel) (pa_cons (pe_op op_add (pe_ix ix_list (pv 0) pe_int (fun _ _ => rfl)) pe_int) pa_nil)) pe_int) (pg_sub (pv 0) pe_int set_list))
      (pss_one (ps_ret (pe_op op_mod (pe_callTy call_int1 (by rfl) zi (by decide +kernel) (pa_cons (pe_call GM hr (by rfl) gM FM.kp bM .nil pass0 (pa_cons (pe_ix ix_list (pv 0) pe_int (fun _ _ => rfl)) (pa_cons (pe_ix ix_list (pv 0) pe_int (fun _ _ => rfl)) pa_nil))) pa_nil)) (pv 1))))))), ?_⟩
    refine ⟨_, rfl, _, _, _, _, rfl, rfl, SqL.of hp, rfl, rfl, _, rfl, ?_⟩
    have mlog : m.natAbs.log2 < 9000 := Nat.lt_of_lt_of_le (PySem.Flt.log2_lt_of (by decide) m1) (by decide)
    have fin : ∀ (d i' r' t' : Int) (H2 : Hp), 0 ≤ d → d < m → HandOk cells i' r' t' → H2 = upd H p (handO l i' r' t') → Q (.int d) H2 := fun d i' r' t' H2 d0 d1 o e => by
      subst e
      exact q d i' r' t' d0 d1 o
    have npl : l ≠ p := fun z => by
      rw [z, hp] at hl
      have h2 := Option.some.inj hl
      injection h2 with h3
      have h4 := congrArg List.head? h3
      cases cells with
      | nil => cases h4
      | cons c cs => cases h4
    refine ite2 (fun e => ?_) (fun e => ?_)
    · refine ⟨_, rfl, _, _, _, _, rfl, rfl, SqL.of hp, rfl, _, rfl, _, _, _, _, rfl, rfl, SqL.of hp, rfl, _, _, rfl, .inl (SqL.of hl), _, _, rfl, rfl, _, rfl, ?_⟩
      refine ite2 (fun e1 => ?_) (fun e1 => ?_)
      · have HP0 := hp
        have hi0 : 0 ≤ i := ok.i0
        have hlen : ((cells.map V.int).length : Int) = (cells.length : Int) := by rw [List.length_map]
        have hlt : i < (cells.length : Int) := by
          have z : i < ((cells.map V.int).length : Int) := of_decide_eq_true e1
          omega
        have hnat : i.toNat < cells.length := by omega
        have hget : atI (cells.map V.int) i = some (.int cells[i.toNat]) := by
          have z := atI_nat (xs := cells.map V.int) (j := i.toNat) (v := .int cells[i.toNat]) (by rw [List.getElem?_map, List.getElem?_eq_getElem hnat]; rfl)
          rw [Int.toNat_of_nonneg hi0] at z
          exact z
        have c0 : 0 ≤ cells[i.toNat] := ok.pos _ (List.getElem_mem hnat)
        have hl63 := ok.len
        refine ⟨_, rfl, _, _, _, _, rfl, rfl, SqL.of hp, rfl, _, rfl, _, _, _, _, rfl, rfl, SqL.of hp, rfl, _, _, _, _, rfl, rfl, SqL.of hl, hget, ?_⟩
        generalize cells[i.toNat] = c at c0
        refine ⟨_, rfl, _, _, _, _, rfl, rfl, SqL.of hp, rfl, _, _, rfl, rfl, _, rfl, _, _, _, _, rfl, rfl, hp, rfl, ?_⟩
        have ok2 : HandOk cells (i + 1) c t := ⟨ok.len, ok.pos, by omega, by omega, c0, ok.t0, ok.t1⟩
        refine ⟨_, rfl, _, _, rfl, rfl, ⟨by decide, by decide, by decide⟩, _, _, rfl, rfl, _, rfl, ?_⟩
        refine ite2 (fun e2 => ?_) (fun e2 => ?_)
        · refine ⟨_, rfl, .inl ⟨_, rfl, _, _, rfl, rfl, (by show (0 : Int) < 2147483647; decide), _, rfl, _, _, _, _, rfl, rfl, SqL.of upd_same, rfl, _, _, rfl, Int.emod_nonneg _ (by decide), Int.emod_lt_of_pos _ (by decide), by omega, by omega, fun d d0 => ?_⟩⟩
          refine .inl ⟨_, rfl, _, rfl, _, _, rfl, rfl, m0, ?_⟩
          exact fin _ _ _ _ _ (Int.emod_nonneg _ (Int.ne_of_gt m0)) (Int.emod_lt_of_pos _ m0) ⟨ok.len, ok.pos, ok2.i0, ok2.i1, ok.r0, ok.t0, ok.t1⟩ (by simp only [upd_upd]; rfl)
        · refine ⟨_, rfl, _, rfl, _, _, _, _, rfl, rfl, upd_same, rfl, ?_⟩
          have HP : (upd (upd H p (.lst ([V.ref l, .int i, .int r, .int t].set 1 (.int (i + 1))))) p (.lst (([V.ref l, .int i, .int r, .int t].set 1 (.int (i + 1))).set 2 (.int c)))) p = some (handO l (i + 1) c t) := upd_same
          refine ⟨_, rfl, _, _, _, _, rfl, rfl, SqL.of HP, rfl, _, _, rfl, rfl, _, rfl, ?_⟩
          refine ite2 (fun e3 => ?_) (fun e3 => ?_)
          · refine ⟨_, rfl, _, _, _, _, rfl, rfl, SqL.of HP, rfl, ?_⟩
            refine ⟨_, rfl, _, rfl, _, _, rfl, rfl, ⟨m0, mlog⟩, _, rfl, _, _, _, _, rfl, rfl, HP, rfl, ?_⟩
            refine ⟨_, rfl, .inl ⟨_, rfl, _, rfl, _, _, rfl, rfl, m0, ?_⟩⟩
            exact fin _ _ _ _ _ (Int.emod_nonneg _ (Int.ne_of_gt m0)) (Int.emod_lt_of_pos _ m0) ⟨ok2.len, ok2.pos, ok2.i0, ok2.i1, Int.ediv_nonneg ok2.r0 (Int.le_of_lt m0), ok2.t0, ok2.t1⟩ (by simp only [upd_upd]; rfl)
          · refine ⟨_, rfl, _, _, _, _, rfl, rfl, SqL.of HP, rfl, _, _, rfl, rfl, .inl ⟨_, rfl, _, _, rfl, rfl, (by show (0 : Int) < 2147483629; decide), _, rfl, _, _, _, _, rfl, rfl, HP, rfl, ?_⟩⟩
            have u0 := ok2.i0
            have u1 := ok2.i1
            refine ⟨_, rfl, _, _, _, _, rfl, rfl, SqL.of upd_same, rfl, _, rfl, _, _, _, _, rfl, rfl, SqL.of upd_same, rfl, _, _, rfl, by omega, by omega, by omega, by omega, fun d d0 => ?_⟩
            refine .inl ⟨_, rfl, _, rfl, _, _, rfl, rfl, m0, ?_⟩
            exact fin _ _ _ _ _ (Int.emod_nonneg _ (Int.ne_of_gt m0)) (Int.emod_lt_of_pos _ m0) ⟨ok2.len, ok2.pos, ok2.i0, ok2.i1, ok2.r0, Int.emod_nonneg (t + 1) (show (2147483629 : Int) ≠ 0 by decide), Int.emod_lt_of_pos (t + 1) (show (0 : Int) < 2147483629 by decide)⟩ (by simp only [upd_upd]; rfl)
      · have HP := hp
        refine ⟨_, rfl, _, _, _, _, rfl, rfl, SqL.of HP, rfl, _, _, rfl, rfl, _, rfl, ?_⟩
        refine ite2 (fun e2 => ?_) (fun e2 => ?_)
        · refine ⟨_, rfl, _, _, _, _, rfl, rfl, SqL.of HP, rfl, ?_⟩
          refine ⟨_, rfl, _, rfl, _, _, rfl, rfl, ⟨m0, mlog⟩, _, rfl, _, _, _, _, rfl, rfl, HP, rfl, ?_⟩
          refine ⟨_, rfl, .inl ⟨_, rfl, _, rfl, _, _, rfl, rfl, m0, ?_⟩⟩
          exact fin _ _ _ _ _ (Int.emod_nonneg _ (Int.ne_of_gt m0)) (Int.emod_lt_of_pos _ m0) ⟨ok.len, ok.pos, ok.i0, ok.i1, Int.ediv_nonneg ok.r0 (Int.le_of_lt m0), ok.t0, ok.t1⟩ (by simp only [upd_upd]; rfl)
        · refine ⟨_, rfl, _, _, _, _, rfl, rfl, SqL.of HP, rfl, _, _, rfl, rfl, .inl ⟨_, rfl, _, _, rfl, rfl, (by show (0 : Int) < 2147483629; decide), _, rfl, _, _, _, _, rfl, rfl, HP, rfl, ?_⟩⟩
          have u0 := ok.i0
          have u1 := ok.i1
          refine ⟨_, rfl, _, _, _, _, rfl, rfl, SqL.of upd_same, rfl, _, rfl, _, _, _, _, rfl, rfl, SqL.of upd_same, rfl, _, _, rfl, by omega, by omega, by omega, by omega, fun d d0 => ?_⟩
          refine .inl ⟨_, rfl, _, rfl, _, _, rfl, rfl, m0, ?_⟩
          exact fin _ _ _ _ _ (Int.emod_nonneg _ (Int.ne_of_gt m0)) (Int.emod_lt_of_pos _ m0) ⟨ok.len, ok.pos, ok.i0, ok.i1, ok.r0, Int.emod_nonneg (t + 1) (show (2147483629 : Int) ≠ 0 by decide), Int.emod_lt_of_pos (t + 1) (show (0 : Int) < 2147483629 by decide)⟩ (by simp only [upd_upd]; rfl)
    · have HP := hp
      refine ⟨_, rfl, _, _, _, _, rfl, rfl, SqL.of HP, rfl, _, _, rfl, rfl, _, rfl, ?_⟩
      refine ite2 (fun e2 => ?_) (fun e2 => ?_)
      · refine ⟨_, rfl, _, _, _, _, rfl, rfl, SqL.of HP, rfl, ?_⟩
        refine ⟨_, rfl, _, rfl, _, _, rfl, rfl, ⟨m0, mlog⟩, _, rfl, _, _, _, _, rfl, rfl, HP, rfl, ?_⟩
        refine ⟨_, rfl, .inl ⟨_, rfl, _, rfl, _, _, rfl, rfl, m0, ?_⟩⟩
        exact fin _ _ _ _ _ (Int.emod_nonneg _ (Int.ne_of_gt m0)) (Int.emod_lt_of_pos _ m0) ⟨ok.len, ok.pos, ok.i0, ok.i1, Int.ediv_nonneg ok.r0 (Int.le_of_lt m0), ok.t0, ok.t1⟩ (by simp only [upd_upd]; rfl)
      · refine ⟨_, rfl, _, _, _, _, rfl, rfl, SqL.of HP, rfl, _, _, rfl, rfl, .inl ⟨_, rfl, _, _, rfl, rfl, (by show (0 : Int) < 2147483629; decide), _, rfl, _, _, _, _, rfl, rfl, HP, rfl, ?_⟩⟩
        have u0 := ok.i0
        have u1 := ok.i1
        refine ⟨_, rfl, _, _, _, _, rfl, rfl, SqL.of upd_same, rfl, _, rfl, _, _, _, _, rfl, rfl, SqL.of upd_same, rfl, _, _, rfl, by omega, by omega, by omega, by omega, fun d d0 => ?_⟩
        refine .inl ⟨_, rfl, _, rfl, _, _, rfl, rfl, m0, ?_⟩
        exact fin _ _ _ _ _ (Int.emod_nonneg _ (Int.ne_of_gt m0)) (Int.emod_lt_of_pos _ m0) ⟨ok.len, ok.pos, ok.i0, ok.i1, ok.r0, Int.emod_nonneg (t + 1) (show (2147483629 : Int) ≠ 0 by decide), Int.emod_lt_of_pos (t + 1) (show (0 : Int) < 2147483629 by decide)⟩ (by simp only [upd_upd]; rfl)
/-! ### the hand is made -/
def absI (c : Int) : Int := if c < 0 then -c else c
theorem absI_nonneg (c : Int) : 0 ≤ absI c := by
  unfold absI
  split <;> omega
theorem same_upd {H : Hp} {p : Addr} {o : HO} (h : H p = none) : Same H (upd H p o) := fun b x e => by
  rw [upd_ne (ne_of_none e h)]
  exact e
def spHand (K : PySem.W.Frag) : Sp := fun vs H Q _ => ∃ (a : Addr) (ns : List Int), vs = [.ref a] ∧ SqL K H a (ns.map V.int) ∧ ns.length ≤ 63 ∧
  ∀ (H' : Hp) (p l : Addr) (t : Int), Same H H' → H p = none → HandAt H' p l (ns.map absI) 0 0 t → Q (.ref p) H'
theorem scHand : FnScope ["_law_script", "_law_total", "_law_k", "_law_cell"] ["_law_script"] (defScope sHand) := ⟨rfl, rfl, rfl, by decide +kernel, rfl, by decide +kernel, by decide +kernel⟩
theorem ok_hand {f : Addr} {fd : FuncData} (F : FnP K "_law_hand" sHand f fd) (zi : mg "int" = none) (za : mg "abs" = none) (ze : mg "enumerate" = none) : FnOk P w K mg base CX0 1 f fd ["_law_script"] (spHand K) := by
  refine F.ok scHand (fun vs H Q E h => ?_) (fun cdv A outer s H vs Q E hr h => ?_)
  · obtain ⟨a, ns, rfl, _⟩ := h
    rfl
  · obtain ⟨a, ns, rfl, hS, hlen, q⟩ := h
    refine ⟨_, PSs.nox (pss_cons (ps_set (i := 1) scHand.nd rfl (.inl rfl) pe_int)
      (pss_cons (ps_for PassesOwn.never rfl (pi_enum (by rfl) ze (pa_cons (pv 0) pa_nil))
          (pg_tup (by rfl) (pgs_cons (pg_name (i := 2) scHand.nd rfl (.inl rfl)) (pgs_cons (pg_name (i := 3) scHand.nd rfl (.inl rfl)) pgs_nil)))
        (pss_one (ps_set (i := 1) scHand.nd rfl (.inl rfl) (pe_op op_mod (pe_callTy call_int1 (by rfl) zi (by decide +kernel) (pa_cons
          (pe_op op_add (pe_op op_mul (pv 1) pe_int) (pe_op op_mul (pe_callTy call_int1 (by rfl) zi (by decide +kernel) (pa_cons (pv 3) pa_nil)) (pe_op op_add (pv 2) pe_int))) pa_nil)) pe_int))))
      (pss_one (ps_ret (pe_lst (pa_cons
        (pe_lc (own := [("_law_cell", 3)]) (g := gName 3) (tt := tYes) rfl scHand.nd (pi_list (pv 0)) (blkOk_by (N := ["_law_script", "_law_total", "_law_k", "_law_cell"]) (sc := defScope sHand) (by decide +kernel)) (fun _ _ _ _ _ => pg_name (i := 3) scHand.nd rfl (Or.inl rfl)) (fun _ _ _ _ _ => pts_nil)
          (fun _ _ _ _ _ => pe_callB call_abs (by rfl) za (by decide +kernel) (pa_cons (pe_callTy call_int1 (by rfl) zi (by decide +kernel) (pa_cons (pv 3) pa_nil)) pa_nil)))
        (pa_cons pe_int (pa_cons pe_int (pa_cons (pv 1) pa_nil))))))))), ?_⟩
    refine ⟨_, rfl, a, _, rfl, hS, for_it walk_enum (fun _ σ H' => ∃ (t : Int) (x y : Option V), σ = [some (.ref a), some (.int t), x, y] ∧ 0 ≤ t ∧ t < 2147483629 ∧ Same H H') ⟨0, none, none, rfl, by decide, by decide, fun _ _ e => e⟩
      (fun i σ H' _ ⟨_, _, _, _, _, _, sm⟩ => sm.seq hS) ?_ ?_⟩
    · rintro i x σ H1 H2 hi ⟨t, x1, x2, rfl, t0, t1, sm⟩ ⟨T, u, v, rfl, nT, rfl, eu, ev⟩
      have hi' : i < ns.length := by
        rw [List.length_map] at hi
        exact hi
      obtain rfl : u = .int (i : Int) := (Option.some.inj eu).symm
      obtain rfl : v = .int ns[i] := by
        have e2 : (ns.map V.int)[i]? = some (.int ns[i]) := by rw [List.getElem?_map, List.getElem?_eq_getElem hi']; rfl
        exact Option.some.inj (ev.symm.trans e2)
      refine ⟨T, _, rfl, .inl (.inl upd_same), rfl, _, _, rfl, _, _, rfl, rfl, ?_⟩
      refine ⟨_, rfl, _, _, rfl, rfl, .inl ⟨by omega, by omega⟩, _, rfl, .inl ⟨_, rfl, _, rfl, _, _, rfl, rfl, _, _, rfl, rfl, .inr ⟨by omega, by omega⟩, _, _, rfl, rfl, .inl ⟨_, rfl, _, _, rfl, rfl, (by show (0 : Int) < 2147483629; decide), ?_⟩⟩⟩
      exact ⟨_, _, _, rfl, Int.emod_nonneg _ (by decide), Int.emod_lt_of_pos _ (by decide), fun b o e => same_upd nT _ _ (sm _ _ e)⟩
    · rintro σ H1 ⟨t, x1, x2, rfl, t0, t1, sm⟩
      refine ⟨_, rfl, a, rfl, ⟨_, sm.seq hS⟩, fun D nD => lc_it walk_list (fun i H' => Same H1 H' ∧ H' D = some (.lst (((ns.map absI).take i).map V.int))) ⟨same_upd nD, upd_same⟩
        (fun i H' _ ⟨s2, _⟩ => s2.seq (sm.seq hS)) ?_ ?_⟩
      · rintro i x H2 H3 hi ⟨s2, eD⟩ ⟨rfl, ex⟩
        have hi' : i < ns.length := by
          rw [List.length_map] at hi
          exact hi
        obtain rfl : x = .int ns[i] := by
          have e2 : (ns.map V.int)[i]? = some (.int ns[i]) := by rw [List.getElem?_map, List.getElem?_eq_getElem hi']; rfl
          exact Option.some.inj (ex.symm.trans e2)
        refine ⟨rfl, ?_⟩
        refine ⟨_, rfl, .inl ⟨_, rfl, _, rfl, _, eD, ?_, ?_⟩⟩
        · rw [List.length_map, List.length_take]
          exact Nat.lt_of_le_of_lt (Nat.min_le_left _ _) (Nat.lt_of_lt_of_le (Nat.lt_of_lt_of_le hi' hlen) (by decide))
        · refine ⟨fun b o e => ?_, ?_⟩
          · have nb : b ≠ D := ne_of_none e nD
            rw [upd_ne nb]
            exact s2 _ _ e
          · rw [upd_same, List.take_add_one, List.getElem?_map, List.getElem?_eq_getElem hi', List.map_append]
            rfl
      · rintro H2 ⟨s2, eD⟩
        have eall : ((ns.map absI).take (ns.map V.int).length) = ns.map absI := List.take_of_length_le (by rw [List.length_map, List.length_map]; exact Nat.le_refl _)
        rw [eall] at eD
        refine ⟨_, rfl, (by show 4 ≤ sizeLine; decide), fun p np => ?_⟩
        have npD : D ≠ p := ne_of_none eD np
        refine q _ p D t (fun b o e => same_upd np _ _ (s2 _ _ (sm _ _ e))) ?_ ⟨upd_same, ?_, ?_⟩
        · cases e : H p with
          | none => rfl
          | some o =>
            have e2 := s2 _ _ (sm _ _ e)
            rw [np] at e2
            cases e2
        · rw [upd_ne npD]
          exact eD
        · exact ⟨by rw [List.length_map]; exact hlen, fun c hc => by
            obtain ⟨y, _, rfl⟩ := List.mem_map.mp hc
            exact absI_nonneg y, by decide, by decide, by decide, t0, t1⟩
end
end K25

/-! the greatest of a list of whole numbers, with default= -/
namespace K25
open PySem PySem.Spec PyProof.Rows L2
def rMaxDef (K : PySem.W.Frag) : List V → List V → Hp → VK → Prop := fun vs zs H Q => ∃ (a : Addr) (ns : List Int) (d : Int), vs = [.ref a] ∧ zs = [.int d] ∧ SqL K H a (ns.map V.int) ∧ (ns = [] → Q (.int d) H) ∧
  ∀ m, m ∈ ns → (∀ y ∈ ns, y ≤ m) → Q (.int m) H
theorem readsInts {h : Heap} {vs : List Value} {ns : List Int} (r : IntsAre vs ns) : ReadsAll h vs (ns.map PyData.int) [] := by
  induction r with
  | nil => exact .nil
  | cons i t _ ih => exact .cons (.int _ _) ih
theorem depth_ints : ∀ ns : List Int, PyData.depthAll (ns.map PyData.int) ≤ 1
  | [] => Nat.zero_le _
  | n :: ns => Nat.max_le.mpr ⟨Nat.zero_le _, depth_ints ns⟩
theorem foldmax_mem (n : Int) : ∀ ns : List Int, (ns.foldl max n ∈ n :: ns) ∧ ∀ y ∈ n :: ns, y ≤ ns.foldl max n
  | [] => ⟨List.mem_cons_self, fun y h => by
    rcases List.mem_cons.mp h with rfl | h
    · exact Int.le_refl _
    · cases h⟩
  | k :: ns => by
    obtain ⟨h1, h2⟩ := foldmax_mem (max n k) ns
    rw [List.foldl_cons]
    have hm : max n k = n ∨ max n k = k := by omega
    refine ⟨?_, fun y h => ?_⟩
    · rcases List.mem_cons.mp h1 with e | h
      · rw [e]
        rcases hm with e2 | e2
        · rw [e2]; exact List.mem_cons_self
        · rw [e2]; exact List.mem_cons_of_mem _ List.mem_cons_self
      · exact List.mem_cons_of_mem _ (List.mem_cons_of_mem _ h)
    · have hmx := h2 (max n k) List.mem_cons_self
      rcases List.mem_cons.mp h with rfl | h
      · omega
      · rcases List.mem_cons.mp h with rfl | h
        · omega
        · exact h2 y (List.mem_cons_of_mem _ h)
theorem crk_max {X : Cx} (hc : X.calm = true) (hu : X.A.units + 3 < cLine) : CallRK X (.builtin "max") [Str.ofString "default"] (rMaxDef X.K) := by
  intro pins s σ H xs zs us ws Q I r rz h
  obtain ⟨a, ns, d, rfl, rfl, hS, q0, q⟩ := h
  obtain ⟨its, rv, hl, _⟩ := I.list hS
  rw [Vals.ref1 r]
  cases rz with
  | cons rd rr =>
    cases rr
    obtain ⟨t, rfl⟩ := rd
    have hi := rv.ints
    have hr := readsInts (h := s.heap) hi
    have hd : PyData.depthAll (ns.map PyData.int) ≤ 1 := depth_ints ns
    refine PySem.W.max_list_default (vs := its.toArray) (xs := ns.map PyData.int) (I.ok.hd hc) hl.isList hr ⟨fun x hx y hy => ?_, fun x hx => ?_⟩ (by show X.A.units + 1 + _ < _; omega) (fun e h' tk hk => ?_) (fun y ys i v h' tk bs e hv rd hk => ?_)
    · obtain ⟨i, _, rfl⟩ := List.mem_map.mp hx
      obtain ⟨j, _, rfl⟩ := List.mem_map.mp hy
      rfl
    · obtain ⟨i, _, rfl⟩ := List.mem_map.mp hx
      intro z
      cases z
    · have en : ns = [] := by
        cases ns with
        | nil => rfl
        | cons n ns => cases e
      exact ⟨.int d, H, I.kept hk, ⟨_, rfl⟩, q0 en⟩
    · cases ns with
      | nil => cases e
      | cons n ns =>
        injection e with e1 e2
        subst e1 e2
        rw [PySem.W.maxD_ints] at rd
        obtain ⟨h1, h2⟩ := foldmax_mem n ns
        cases rd with
        | int i t => exact ⟨.int _, H, I.kept hk, ⟨_, rfl⟩, q _ h1 h2⟩
end K25

/-! == by an own __eq__, with either answer; is between classes of either sort; type of either sort -/
namespace K25
open PySem PySem.Spec PyProof.Rows L2
/-- what stands right of the sign: its class -/
inductive TyR (H : Hp) : V → Value → Prop where
  | ins {a C dx : Addr} {fs : List (Str × V)} (e : H a = some (.ins C dx fs)) : TyR H (.ref a) (.ref C)
  | tup {a : Addr} {xs : List V} (e : H a = some (.tup xs)) : TyR H (.ref a) (.type "tuple")
  | lst {a : Addr} {xs : List V} (e : H a = some (.lst xs)) : TyR H (.ref a) (.type "list")
def rEqI (K : PySem.W.Frag) (C : Addr) (sp : Sp) : R2 := fun x y H Q => ∃ (a dx : Addr) (fs : List (Str × V)) (tb : Value), x = .ref a ∧ H a = some (.ins C dx fs) ∧ TyR H y tb ∧ PySem.W.notFirst K C tb = true ∧ sp [.ref a, y] H (fun v H' => ∃ b, v = .bl b ∧ Q (.bl b) H') E0
section
variable {X : Cx} {n : Nat}
theorem TyR.look {pins : List (Addr × Obj)} {s : Shared} {σ : L2.St} {H : Hp} {y : V} {v tb : Value} (I : Inv X pins σ H s) (t : TyR H y tb) (r : RelV y v) : PySem.W.Looks (model X.prog X.w) s.heap (typeOf v) tb := by
  cases t with
  | ins e =>
    cases r
    obtain ⟨mA, J, _⟩ := ins_get I.hok e
    obtain ⟨od, J, _⟩ := J.look
    exact J.type
  | tup e =>
    cases r
    obtain ⟨_, _, _, o, h1, h2, _⟩ := (show ObjOk X.prog X.w H s.heap _ (.tup _) from I.hok _ _ e)
    exact fun A Q E s k q => wpAny_typeOf_ref (k _ _ h1) (by rw [h2]; exact q)
  | lst e =>
    cases r
    obtain ⟨_, _, n, _, h1⟩ := (show ObjOk X.prog X.w H s.heap _ (.lst _) from I.hok _ _ e)
    exact fun A Q E s k q => wpAny_typeOf_ref (k _ _ h1) q
theorem op_eqI {CX : CXT} {C f : Addr} {fd : FuncData} {ps : List Str} {sp : Sp} (F : FnOk X.prog X.w X.K X.mg X.base CX n f fd ps sp)
    (hs : PySem.W.findIn X.K (.ref C) "__eq__" = some (some (.ref f))) (hf : PySem.W.isFn X.K (.ref f) = true) (hb : Binds X.K fd ps []) (hx : Passes CX X E0) (hr : Room n X.A) : OpR X (compareOp .Eq) (rEqI X.K C sp) := by
  intro pins s σ H x y u v Q I rx ry h
  obtain ⟨a, dx, fs, tb, rfl, ha, ty, nf, hsp⟩ := h
  cases rx
  obtain ⟨mA, J, _⟩ := ins_get I.hok ha
  obtain ⟨od, J, _⟩ := J.look
  obtain ⟨m, hF⟩ := I.fr
  refine PySem.W.cmp_K (op := .Eq) (tb := tb) hr.units0 hF I.ok.mod.kin J (ty.look I ry) nf hs hf ?_
  have e0 : Env0 X.prog X.w X.K X.mg X.base X.A X.stack s H := I.env0
  have hl := F.len _ _ _ _ hsp
  have r2 : Vals [V.ref a, y] [Value.ref a, v] := .cons rfl (.cons ry .nil)
  refine wpAny_call (codeAny_mono (F.run X.A X.stack s H ⟨[.ref a, v], []⟩ [.ref a, v] [.ref a, y] _ E0 hr e0 (by
    have := hb s [.ref a, v] I.kIn (by simpa using hl)
    simpa using this) r2 hsp) fun r s' hq => ?_)
  cases r with
  | error e => exact hx pins σ H s e s' I hq
  | ok fl =>
    cases fl with
    | ret w =>
      obtain ⟨z, H', I', rz, b, ez, q⟩ := I.after hq
      subst ez
      cases rz
      exact ⟨.bl b, H', I', rfl, q⟩
    | next => exact False.elim hq
    | brk => exact False.elim hq
    | cont => exact False.elim hq
/-! ### type(a) is type(b) -/
def rTyp2 : List V → Hp → VK → Prop := fun xs H Q => ∃ x, xs = [x] ∧ ((∃ a C dx fs, x = .ref a ∧ H a = some (.ins C dx fs) ∧ Q (.ref C) H) ∨ (∃ a us, x = .ref a ∧ (H a = some (.tup us)) ∧ Q (.ty "tuple") H))
theorem cr_type2 : CallR X (.type "type") rTyp2 := by
  intro pins s σ H xs us Q I r h
  obtain ⟨x, rfl, ⟨a, C, dx, fs, rfl, ha, q⟩ | ⟨a, zs, rfl, ha, q⟩⟩ := h
  · exact cr_type pins s σ H _ us Q I r ⟨a, C, dx, fs, rfl, ha, q⟩
  · rw [Vals.ref1 r]
    obtain ⟨hz, its, r', ob, g, c, k⟩ := (show ObjOk X.prog X.w H s.heap _ (.tup _) from I.hok _ _ ha)
    exact call_type_of (Tx := "tuple") ⟨ob, g, c⟩ (by decide +kernel) ⟨.ty "tuple", H, I, rfl, q⟩
def rIs2 (K : PySem.W.Frag) : R2 := fun x y H Q => ∃ a, x = .ref a ∧ ((y = .ref a ∧ Q (.bl true) H) ∨ (∃ b, y = .ref b ∧ a ≠ b ∧ PySem.W.makesIn K a = true ∧ PySem.W.makesIn K b = true ∧ Q (.bl false) H) ∨ (∃ t, y = .ty t ∧ Q (.bl false) H))
theorem op_is2 : OpR X (compareOp .Is) (rIs2 X.K) := by
  intro pins s σ H x y v u Q I rx ry h
  obtain ⟨a, rfl, ⟨rfl, q⟩ | ⟨b, rfl, ne, h1, h2, q⟩ | ⟨t, rfl, q⟩⟩ := h
  · exact op_is_cls pins s σ H _ _ v u Q I rx ry ⟨a, a, rfl, rfl, .inl rfl, by rw [decide_eq_true rfl]; exact q⟩
  · exact op_is_cls pins s σ H _ _ v u Q I rx ry ⟨a, b, rfl, rfl, .inr ⟨h1, h2⟩, by rw [decide_eq_false ne]; exact q⟩
  · cases rx
    cases ry
    exact wpAny_is_other rfl (by intro z; cases z) ⟨.bl false, H, I, rfl, q⟩
end
end K25

/-! own errors with an __init__: made where an except suite above may raise; isinstance of a caught one with fields; a def walked while one is handled -/
namespace K25
open PySem PySem.Spec PyProof.Rows L2
section
variable {X : Cx} {e : Expr} {es : List Expr} {ta : TA} {p pos : Pos}
theorem pmk_oexN {CX : CXT} {x : Str} {C fI : Addr} {k : Nat} {fd : FuncData} {ps : List Str} {sp : Sp} (T : OexC X.K C) (iC : PySem.W.findIn X.K (.ref C) "__init__" = some (some (.ref fI))) (tI : PySem.W.typeIn X.K (.ref fI) = some (.type "function"))
    (F1 : FnOk X.prog X.w X.K X.mg X.base CX k fI fd ps sp) (hr : Room (k + 1) X.A) (hb : Binds X.K fd ps []) (hx : Passes CX X (fun _ _ _ => False)) (hg : Gl X x) (hm : X.mg x = some (.ref C)) (ha : PA X (e :: es) ta)
    (hdb : (x == ("__debug__" : Str)) = false := by decide) (he : starEach (e :: es) X.env = (false, eval e X.env) :: starEach es X.env := by rfl) (hpl : (backTo pos (starEach es X.env)).any (·.1) = false := by rfl) :
    L2N.PMk X (.Call (.Name x p) (e :: es) [] pos) (tMkO C sp [] ta) := by
  intro pins s σ H Q I h
  obtain ⟨nm, q, N, bs, bm, sn, sub, ab, col, dd, k0, k1, k2, k3, k5, hC, hbm⟩ := T.cls
  refine wpAny_Call_Name_kw (ld_glob I hg hm ?_ hdb)
  refine PySem.W.callWith_K (h₀ := X.base) I.ok.mod.kin T.kC (thn (ha.run pos pins s σ H _ I h) fun us s1 ⟨vs, H1, I1, r1, hz, q1⟩ => ⟨I1.kIn, ?_⟩) he hpl
  show wpAny _ _ (call (.ref C) us) _ _ _
  obtain ⟨hp, g, dr, tk, os⟩ := s1
  have hsz : hp.objs.size ≤ hp.objs.size + 1 := Nat.le_succ _
  have hn : H1 (hp.objs.size + 1) = none := I1.hok.fresh hsz
  have hq := q1 (hp.objs.size + 1) hn
  have kk : ∀ b o, hp.get? b = some o → ((hp.push (PySem.W.kdv_tup us)).push (PySem.HandSPX.excO C hp.objs.size)).get? b = some o := fun b o e => Heap.get?_push_of_some _ (Heap.get?_push_of_some _ e)
  have hget : ((hp.push (PySem.W.kdv_tup us)).push (PySem.HandSPX.excO C hp.objs.size)).get? (hp.objs.size + 1) = some (PySem.HandSPX.excO C hp.objs.size) := by heap_get
  have I2 : Inv X pins σ (upd H1 (hp.objs.size + 1) (exo (hp.objs.size + 1) C none)) ⟨(hp.push (PySem.W.kdv_tup us)).push (PySem.HandSPX.excO C hp.objs.size), g, dr, tk, os⟩ :=
    I1.laid (t' := tk) (a := hp.objs.size + 1) (o := exo (hp.objs.size + 1) C none) (h' := (hp.push (PySem.W.kdv_tup us)).push (PySem.HandSPX.excO C hp.objs.size)) kk hsz (exo_ok hget)
  have r2 : Vals (V.ref (hp.objs.size + 1) :: (vs ++ [])) (Value.ref (hp.objs.size + 1) :: (us ++ [])) := .cons rfl (r1.append .nil)
  have hl : (Value.ref (hp.objs.size + 1) :: us ++ []).length = ps.length := by
    have e := r2.length
    rw [F1.len _ _ _ _ hq] at e
    exact e.symm
  have hus : us.length ≤ sizeLine := by
    rw [← Paired.length r1, sizeLine_eq]
    omega
  refine wpAny_call (PySem.HandSPX.call_own F.excBase_ValueError (fun Y => PySem.HandSPX.refsVE_contains Y bm hbm) (I1.kIn _ _ hC) (PySem.W.looks_findIn I1.kIn iC) (fun self => PySem.W.bind_fn I1.kIn self tI) hus
    (codeAny_mono (F1.run _ X.stack _ _ ⟨Value.ref (hp.objs.size + 1) :: us, []⟩ (Value.ref (hp.objs.size + 1) :: (us ++ [])) _ _ (fun _ _ _ => False) (hr.make C us []) (I2.env0.make C us []) (by rw [List.append_nil]; have z := hb _ (Value.ref (hp.objs.size + 1) :: us) I2.kIn hl; rw [List.append_nil] at z; exact z) r2 hq) fun r s' hq' => ?_))
  cases r with
  | error er => exact hx pins σ _ _ er s' I2 hq'
  | ok fl =>
    cases fl with
    | ret u =>
      obtain ⟨v, H2, os2, bare2, un2, hok2, rv, ev, d, fs, ea, ed, hd1, q2⟩ := hq'
      subst ev
      obtain ⟨h2, g2, d2, t2, os'⟩ := s'
      obtain ⟨t0, G, J, kG, ge, hoe, na⟩ := mk_end0 (d2 := d2) (t2 := t2) I1 hsz kk un2 hok2 os2 bare2 ea ed hd1
      exact ⟨rv, ⟨hp.objs.size + 1, _, _, ⟨G, g2, d2, t2, os'⟩, _, .ref C, some d, rfl, J, kG, ge, hoe, ⟨rfl, rfl, fun vs hv => by
        cases hv
        rfl⟩, rfl, rfl, na, rfl, bare2, raises_own T.exC T.tyC, q2⟩⟩
    | next => exact False.elim hq'
    | brk => exact False.elim hq'
    | cont => exact False.elim hq'
end
/-! ### isinstance of the error that a suite holds, with fields of its own -/
def rIsD (K : PySem.W.Frag) (D a : Addr) (cls : Value) (d : Option Addr) : List V → Hp → VK → Prop := fun xs H Q => ∃ (c : V) (cv : Value) (b : Bool) (dd : Addr) (fs : List (Str × V)), xs = [.ref a, c] ∧ cls = .ref D ∧ d = some dd ∧ H dd = some (.xd fs) ∧ (∀ u, RelV c u → u = cv) ∧ PySem.W.kitOne K (.ref D) cv = some b ∧ Q (.bl b) H
theorem clsIn_some {K : PySem.W.Frag} {D : Addr} (h : PySem.W.hasDictIn K D = true) : (PySem.W.clsIn K D).isSome = true := by
  obtain ⟨cd, hc, _⟩ := PySem.W.any_some h
  rw [hc]
  rfl
theorem call_isD {X : Cx} {a D : Addr} {oe : Obj} {cls : Value} {d : Option Addr} {pn : List (Addr × Obj)} (C : ExcC X.K D) (hz : Zc cls d oe) (hf : ∃ vs, oe.data = .fields vs) : CallR (X.suite a ((a, oe) :: pn)) (.builtin "isinstance") (rIsD X.K D a cls d) := by
  intro pins s σ H xs us Q I r h
  obtain ⟨c, cv, b, dd, fs, rfl, rfl, rfl, ed, hcv, e, q⟩ := h
  obtain ⟨u1, u2, rfl, r1, r2⟩ := vals2 r
  cases (show u1 = Value.ref a from r1)
  have ec := hcv _ r2
  subst ec
  obtain ⟨hget, _⟩ := I.pin (a, oe) (List.mem_append.mpr (.inl List.mem_cons_self))
  obtain ⟨vs, hv⟩ := hf
  have hx : ObjOk X.prog X.w H s.heap dd (.xd fs) := I.hok dd _ ed
  obtain ⟨mA, hns, hr⟩ := hx
  obtain ⟨od, ho, hl⟩ := lookIn_ns hns
  have J : PySem.W.InstAt s.heap a oe D (some od) := ⟨hget, hz.1, by unfold PySem.W.notCls; rw [hv] <;> rfl, by rw [hz.2]; exact ho⟩
  exact PySem.W.kia_one (PySem.W.kitx_exc (clsIn_some C.hd) C.hg C.hk C.hs C.ha C.hn C.ht C.hm) I.kIn J e (fun z => nomatch z) fun tk => ⟨.bl b, H, I.tok tk, rfl, q⟩
end K25
namespace L2H
open PySem PySem.Spec PyProof.Rows L2
/-! ### a def walked while an error is handled -/
theorem okH {P : Program} {w : World} {K : PySem.W.Frag} {mg : Str → Option Value} {base : Heap} {x qual : Str} {params : Arguments} {body : List Stmt} {scope : Scope} {dvs : List V} {kws : List (Str × V)} {f : Addr} {fd : FuncData}
    {CX : CXT} {N ps : List Str} {k : Nat} {sp : Sp} (F : FunD K x qual params body scope dvs kws f fd) (S : FnScope N ps scope) (len : ∀ vs H Q E, sp vs H Q E → vs.length = ps.length)
    (hbody : ∀ (cdv : Value) (A : Around) (outer : List Env) (s : Shared) (H : Hp) (vs : List V) (Q : VK) (E : XK) (p : Addr × Obj), Hot1 A p → RoomH k (A.deeper (envOfC qual scope s.heap.objs.size f cdv)) → sp vs H Q E →
      ∃ t, PSs (cxH CX P w K mg base N qual scope f cdv A outer s H E p) body t ∧ t { nx := fun _ H' => Q .non H', rt := Q } (L2.start N vs) H) : FnH P w K mg base CX (k + 1) f fd ps sp := by
  obtain ⟨oc, od, dV, kV, doc, pm, an, cdv, ct, osl, rfl, lk, hcd, _, _⟩ := F.ex
  exact fn_ofH lk hcd S len fun A outer s H vs Q E p hot hr hsp => hbody cdv A outer s H vs Q E p hot hr hsp
end L2H

/-! enumerate over a tuple -/
namespace K25
open PySem PySem.Spec PyProof.Rows
open AutoSeq1 (wpAny_loadPart')
theorem enum_new_tuple (l : Addr) (items : Array Value) (n : Nat) (dct : Option Addr) (sl : Array (Option Value)) :
    Meets (Builtin.«enumerate.__new__» ⟨[.type "enumerate", .ref l], []⟩) (fun _ R s => s.heap.get? l = some { cls := .type "tuple", dict := dct, data := .seq items n, slots := sl } ∧
      R (.ok (.ret (.ref (s.heap.push { cls := .type "tuple_iterator", data := .fields #[.ref l, .int 0 0] }).objs.size)))
        { s with heap := (s.heap.push { cls := .type "tuple_iterator", data := .fields #[.ref l, .int 0 0] }).push { cls := .type "enumerate", data := .fields #[.none, .bool false, .ref s.heap.objs.size, rawInt 0, .none, .none] } }) :=
  .of_wp fun prog w A R s h => by
    obtain ⟨hp, g, d, tk, os⟩ := s
    obtain ⟨hl, h⟩ := h
    have subE := sub_enumerate
    have isT : Heap.IsTuple (Shared.heap ⟨hp, g, d, tk, os⟩) l items := ⟨_, hl, rfl, n, rfl⟩
    wp_walk using wpAny_loadPart' hl
    refine wpAny_stack_any fun st => wpAny_pure ?_
    split
    · rename_i c _ _ _ _ _
      cases (c == Value.type "enumerate")
      · wp_walk using wpAny_loadPart' hl, wpAny_pyIter_tuple isT
        exact ⟨_, rfl, h⟩
      · wp_walk using wpAny_loadPart' hl, wpAny_pyIter_tuple isT
        exact ⟨_, rfl, h⟩
    · wp_walk using wpAny_loadPart' hl, wpAny_pyIter_tuple isT
      exact ⟨_, rfl, h⟩
section
variable {prog : Program} {w : World} {A : Around} {E : Value → Shared → Prop} {s : Shared}
theorem call_enum_tuple {l : Addr} {items : Array Value} {Q : Value → Shared → Prop} (hL : IsTup s.heap l items)
    (h : ∀ h', IsEnum h' (s.heap.objs.size + 1) s.heap.objs.size 0 .none → h'.IsTupleIter s.heap.objs.size l 0 → h'.objs.size = s.heap.objs.size + 2 →
      (∀ b o, s.heap.get? b = some o → h'.get? b = some o) → Q (.ref (s.heap.objs.size + 1)) { s with heap := h' }) :
    wpAny (model prog w) A (call (.type "enumerate") [.ref l]) Q E s := by
  obtain ⟨⟨c, dct, dt, sl⟩, hl, hc, n, hd⟩ := hL
  replace hc : c = .type "tuple" := hc
  replace hd : dt = .seq items n := hd
  subst hc hd
  refine callType_new F.called_enumerate (by decide) (F.typeCall_enumerate_1 _) (F.newCall_enumerate_1 _) (fun obj => F.args_object_init_2 obj _) F.entry_enumerate_new (enum_new_tuple l items n dct sl) ⟨hl, ?_⟩
  have hz : (s.heap.push { cls := .type "tuple_iterator", data := .fields #[.ref l, .int 0 0] }).objs.size = s.heap.objs.size + 1 := Heap.size_push ..
  show _ ∧ _
  rw [hz]
  have he : IsEnum ((s.heap.push { cls := .type "tuple_iterator", data := .fields #[.ref l, .int 0 0] }).push
      { cls := .type "enumerate", data := .fields #[.none, .bool false, .ref s.heap.objs.size, rawInt 0, .none, .none] }) (s.heap.objs.size + 1) s.heap.objs.size 0 .none := by
    have e0 := Heap.get?_push_size (s.heap.push { cls := .type "tuple_iterator", data := .fields #[.ref l, .int 0 0] })
      (o := { cls := .type "enumerate", data := .fields #[.none, .bool false, .ref s.heap.objs.size, rawInt 0, .none, .none] }) rfl
    rw [hz] at e0
    exact e0
  exact ⟨⟨_, he, rfl⟩, h _ he ⟨_, Heap.get?_push_of_some _ (Heap.get?_push_size _ rfl), rfl, rfl⟩ (by rw [Heap.size_push, hz]) fun b o x => Heap.get?_push_of_some _ (Heap.get?_push_of_some _ x)⟩
end
open L2
/-- the tuple at a, its items in new pairs with their numbers -/
def IteT (K : PySem.W.Frag) (a : Addr) : It :=
  ⟨fun i H => ∃ (xs : List V) (x : V), SqT K H a xs ∧ xs[i]? = some x, fun i H v H' => ∃ T x, v = .ref T ∧ H T = none ∧ H' = upd H T (.tup [.int (i : Nat), x]) ∧ ∀ xs, SqT K H a xs → xs[i]? = some x, fun i H => ∃ xs : List V, SqT K H a xs ∧ xs.length = i⟩
theorem turn_enumT {P : Program} {w : World} {K : PySem.W.Frag} {elts : List Expr} {kk : Nat} {tpos : Pos} (a e it : Addr) :
    Turn P w K (.Tuple elts kk tpos) (IteT K a) [e, it] e (fun i h => (∃ old, IsEnum h e it ((i : Nat) : Int) old) ∧ h.IsTupleIter it a i ∧ e ≠ it) where
  mem := by simp
  obj := fun i h st b hb => by
    obtain ⟨⟨old, he⟩, ⟨o, ho, hc, hd⟩, _⟩ := st
    have e' : b = e ∨ b = it := by simpa using hb
    rcases e' with z | z
    · rw [z]; exact ⟨_, he, fun v q => nomatch q⟩
    · rw [z]; exact ⟨o, ho, fun v q => by rw [hd] at q; cases q⟩
  keep := fun i h h' st k => let ⟨⟨old, he⟩, hi, hne⟩ := st; ⟨⟨old, k e (by simp) _ he⟩, hi.at fun o q => k it (by simp) o q, hne⟩
  item := by
    intro X hP hw hK hc i pins s σ H E I hf st hg
    subst hP hw hK
    obtain ⟨⟨old, he⟩, hit, hne⟩ := st
    obtain ⟨xs, x, hq, hx⟩ := hg
    obtain ⟨its, rv, p, hz⟩ := I.tuple hq
    obtain ⟨u, hu, ru⟩ := rv.get hx
    have hel : e < s.heap.objs.size := Heap.lt_size he
    have hil : it < s.heap.objs.size := by obtain ⟨_, q, _⟩ := hit; exact Heap.lt_size q
    have nae : e ≠ a := fun z => by
      obtain ⟨o, ho, hcl, _⟩ := p
      rw [← z, he] at ho
      have z2 := Option.some.inj ho
      subst z2
      exact absurd (Value.type.inj hcl) (by decide)
    have nai : a ≠ it := fun z => by
      obtain ⟨o, ho, hcl, _⟩ := p
      obtain ⟨o2, ho2, hc2, _⟩ := hit
      rw [z, ho2] at ho
      have z2 := Option.some.inj ho
      subst z2
      rw [hcl] at hc2
      exact absurd (Value.type.inj hc2) (by decide)
    have hi : i < its.toArray.size := by
      have z := (List.getElem?_eq_some_iff.mp hu).1
      simpa using z
    refine wpAny_pyNext_enum_itemD (Draws.tuple (A := X.A.in1) (I.ok.hd hc) it a nai its.toArray) he ⟨hit, show s.heap.IsTuple a its.toArray from p⟩ hi hne (by simp only [List.mem_cons, List.not_mem_nil, or_false, not_or]; exact ⟨hne, nae⟩) fun y h' tk hP ho hst' hT hsz hk => ?_
    have ey : y = u := by
      have z : its.toArray[i]? = some u := by simpa using hu
      exact Option.some.inj (hP.symm.trans z)
    subst ey
    refine ⟨_, rfl, wpAny_letOwnedTupleGo_enum (s := { s with heap := h', toks := tk + 1 }) ho fun h'' he' sb => ?_⟩
    have hT2 : h''.get? s.heap.objs.size = some { cls := .type "tuple", data := .seq #[.int i tk, y] } := (sb.2 _ (Nat.ne_of_gt hel)).trans hT
    have new : ObjOk X.prog X.w (upd H s.heap.objs.size (.tup [.int (i : Nat), x])) h'' s.heap.objs.size (.tup [.int (i : Nat), x]) :=
      ⟨by show 2 ≤ sizeLine; decide, [.int i tk, y], .cons ⟨_, rfl⟩ (.cons ru .nil), ⟨_, hT2, rfl, _, rfl⟩⟩
    have I1 : Inv X pins σ (upd H s.heap.objs.size (.tup [.int (i : Nat), x])) { s with heap := h'', toks := tk + 1 } :=
      I.turnedNew (ch := [e, it]) (fun b ob hb q => (sb.2 b (fun z => hb (by simp [z]))).trans (hk b ob (fun z => hb (by simp [z])) (fun z => hb (by simp [z])) q)) hf (Nat.le_refl _) new
    refine ⟨.ref s.heap.objs.size, _, I1, rfl, ⟨_, x, rfl, I.hok.fresh (Nat.le_refl _), rfl, fun ys hy => by rw [I.tuple_inj hy hq]; exact hx⟩, ⟨⟨y, ?_⟩, hst'.1.at fun o q => (sb.2 it (Ne.symm hne)).trans q, hne⟩, fun b hb => ?_⟩
    · have e1 : ((i + 1 : Nat) : Int) = (i : Int) + 1 := by omega
      rw [e1]; exact he'
    · have hb' : b < s.heap.objs.size := by
        have e' : b = e ∨ b = it := by simpa using hb
        rcases e' with z | z
        · rw [z]; exact hel
        · rw [z]; exact hil
      rw [upd_ne (Nat.ne_of_lt hb')]
      exact (hf b hb).1
  done := by
    intro X hP hw hK hc i pins s σ H E I hf st hg
    subst hP hw hK
    obtain ⟨⟨old, he⟩, hit, hne⟩ := st
    obtain ⟨xs, hq, hx⟩ := hg
    obtain ⟨its, rv, p, hz⟩ := I.tuple hq
    obtain ⟨f0, f1, f2, f3, f4, f5⟩ := hf it (by simp)
    have nai : a ≠ it := fun z => by
      obtain ⟨o, ho, hcl, _⟩ := p
      obtain ⟨o2, ho2, hc2, _⟩ := hit
      rw [z, ho2] at ho
      have z2 := Option.some.inj ho
      subst z2
      rw [hcl] at hc2
      exact absurd (Value.type.inj hc2) (by decide)
    have hn : its.toArray.size = i := by
      have hl := rv.length
      simp only [List.size_toArray]
      omega
    have D := Draws.tuple (prog := X.prog) (w := X.w) (A := X.A.in1) (I.ok.hd hc) it a nai its.toArray
    rw [hn] at D
    exact wpAny_pyNext_enum_endD D he ⟨hit, show s.heap.IsTuple a its.toArray from p⟩ fun h' eb => ⟨rfl, I.turned (t' := s.toks) (fun b o hb q => eb b o hb q) f0 f1 f3 f4 f5⟩
  self := fun A i s Q E st h => let ⟨⟨_, he⟩, _⟩ := st; wpAny_pyIter_enum he h
def iEnumT (K : PySem.W.Frag) (ta : TA) : TI := fun σ H R => ta σ H fun vs H1 => ∃ a xs, vs = [.ref a] ∧ SqT K H1 a xs ∧ R (IteT K a) H1
theorem pi_enumT {X : Cx} {e : Expr} {ta : TA} {p pos tpos : Pos} {elts : List Expr} {kk : Nat} (hg : Gl X "enumerate") (hm : X.mg "enumerate" = none) (ha : PA X [e] ta) (hs : starEach [e] X.env = [(false, eval e X.env)]) :
    PI X (.Tuple elts kk tpos) (.Call (.Name "enumerate" p) [e] [] pos) (iEnumT X.K ta) := by
  refine ⟨fun pins s σ H R I h => ?_⟩
  refine Call_ (ld_blt I hg hm boot_enumerate (PyProof.Rows.callWith_type1 (thn (ha.run pos pins s σ H _ I h) fun us s1 ⟨vs, H1, I1, r1, q1⟩ => ?_) hs rfl))
  obtain ⟨a, xs, rfl, hq, q⟩ := q1
  obtain ⟨u, rfl, rx⟩ := vals1 r1
  cases (show u = Value.ref a from rx)
  obtain ⟨its, rv, tp, hz⟩ := I1.tuple hq
  refine call_enum_tuple tp fun h' he hit hsz hk => wpAny_pyIter_enum he ?_
  have I2 : Inv X pins σ H1 { s1 with heap := h' } := I1.kept (t' := s1.toks) hk
  refine ⟨s1.heap.objs.size + 1, [s1.heap.objs.size + 1, s1.heap.objs.size], _, _, H1, rfl, I2, turn_enumT a (s1.heap.objs.size + 1) s1.heap.objs.size, ⟨⟨.none, he⟩, hit, Nat.succ_ne_self _⟩, fun b hb => ?_, q⟩
  have hle : s1.heap.objs.size ≤ b := by
    have e' : b = s1.heap.objs.size + 1 ∨ b = s1.heap.objs.size := by simpa using hb
    rcases e' with z | z
    · rw [z]
      exact Nat.le_succ _
    · rw [z]
      exact Nat.le_refl _
  exact I1.fpOk hle (I1.hok.fresh hle)
theorem walk_enumT {K : PySem.W.Frag} {a : Addr} {xs : List V} : Walk (IteT K a) xs.length (fun H => SqT K H a xs) (YPair (fun i => some (.int (i : Nat))) (fun i => xs[i]?)) := by
  refine ⟨fun i _ hi q => ⟨xs, xs[i], q, by simp [hi]⟩, fun _ q => ⟨xs, q, rfl⟩, fun i H v H' _ q y => ?_⟩
  obtain ⟨T, x, h1, h2, h3, h4⟩ := y
  exact ⟨T, .int (i : Nat), x, h1, h2, h3, rfl, h4 xs q⟩
/-- one walk or the other -/
theorem pi_or {X : Cx} {tg it : Expr} {w1 w2 : TI} (h1 : PI X tg it w1) (h2 : PI X tg it w2) : PI X tg it (fun σ H R => w1 σ H R ∨ w2 σ H R) :=
  ⟨fun pins s σ H R I h => h.elim (h1.run pins s σ H R I) (h2.run pins s σ H R I)⟩
end K25

/-! the questions: is it a whole number, a kind, a sequence -/
namespace K25
open PySem PySem.Spec PyProof.Rows L2
/-- any thing that the law draws: its type's name -/
inductive Odd (H : Hp) : V → String → Prop where
  | int (i : Int) : Odd H (.int i) "int"
  | bl (b : Bool) : Odd H (.bl b) "bool"
  | non : Odd H .non "NoneType"
  | str (x : Str) (hx : x.length ≤ 1000) (hs : (PyData.str x).canLay0 = true) : Odd H (.str x) "str"
  | tup {a : Addr} {xs : List V} (h : H a = some (.tup xs)) : Odd H (.ref a) "tuple"
  | lst {a : Addr} {xs : List V} (h : H a = some (.lst xs)) : Odd H (.ref a) "list"
  | dic {a : Addr} {kvs : List (Key × V)} (h : H a = some (.dK kvs)) : Odd H (.ref a) "dict"
theorem Odd.ty {K : PySem.W.Frag} {H : Hp} {v : V} {t : String} (o : Odd H v t) : TyX K H v (.type t) := by
  cases o with
  | int i => exact .base (.int i)
  | bl b => exact .base (.bl b)
  | non => exact .base .non
  | str x _ _ => exact .base (.str x)
  | tup h => exact .base (.tup h)
  | lst h => exact .base (.lst h)
  | dic h => exact .base (.dK h)
section
variable {P : Program} {w : World} {K : PySem.W.Frag} {mg : Str → Option Value} {base : Heap}
def seqT (t : String) : Bool := t == "list" || t == "tuple"
def spSeq : Sp := fun vs H Q _ => ∃ (v : V) (t : String), vs = [v] ∧ Odd H v t ∧ ∀ p, H p = none → Q (.bl (seqT t)) (upd H p (.tup [.ty "list", .ty "tuple"]))
theorem kit_seq {K : PySem.W.Frag} {t : String} {b1 b2 r : Bool} (h1 : kitB t "list" = some b1) (h2 : kitB t "tuple" = some b2) (e : (b1 || b2) = r) : PySem.W.kitAny K (.type t) [.type "list", .type "tuple"] = some r := by
  subst e
  refine kitAny_cons (kit_ty h1) (fun e1 => ?_) (fun e1 => by rw [e1]; rfl)
  subst e1
  refine kitAny_cons (kit_ty h2) (fun e2 => ?_) (fun e2 => by rw [e2]; rfl)
  subst e2
  exact kitAny_nil
theorem scSeq : FnScope ["thing"] ["thing"] (defScope sPIsSequence) := ⟨rfl, rfl, rfl, by decide +kernel, rfl, by decide +kernel, by decide +kernel⟩
theorem Odd.same {H H' : Hp} {v : V} {t : String} (o : Odd H v t) (s : Same H H') : Odd H' v t := by
  cases o with
  | int i => exact .int i
  | bl b => exact .bl b
  | non => exact .non
  | str x hx hs => exact .str x hx hs
  | tup h => exact .tup (s _ _ h)
  | lst h => exact .lst (s _ _ h)
  | dic h => exact .dic (s _ _ h)
theorem ok_seq {f : Addr} {fd : FuncData} (F : FnP K "is_sequence" sPIsSequence f fd) (zl : mg "list" = none) (zt : mg "tuple" = none) (zs : mg "isinstance" = none) : FnOk P w K mg base CX0 1 f fd ["thing"] spSeq := by
  refine F.ok scSeq (fun vs H Q E h => ?_) (fun cdv A outer s H vs Q E hr h => ?_)
  · obtain ⟨v, t, rfl, _⟩ := h
    rfl
  · obtain ⟨v, t, rfl, o, q⟩ := h
    refine ⟨_, PSs.nox (pss_one (ps_ret (pe_callB call_isiT (by rfl) zs (by decide +kernel) (pa_cons (pv 0) (pa_cons (pe_tup (pa_cons (pe_bltn (by rfl) zl (by decide +kernel) (v := .ty "list") rfl) (pa_cons (pe_bltn (by rfl) zt (by decide +kernel) (v := .ty "tuple") rfl) pa_nil))) pa_nil))))), ?_⟩
    refine ⟨_, rfl, (by show 2 ≤ sizeLine; decide), fun p np => ⟨_, p, _, _, [.type "list", .type "tuple"], seqT t, rfl, upd_same, .cons (.ty _) (.cons (.ty _) .nil), (o.same (same_upd np)).ty, ?_, q p np⟩⟩
    cases o with
    | tup _ => exact kit_seq (b1 := false) (b2 := true) (by decide +kernel) (by decide +kernel) (by decide +kernel)
    | lst _ => exact kit_seq (b1 := true) (b2 := false) (by decide +kernel) (by decide +kernel) (by decide +kernel)
    | _ => exact kit_seq (b1 := false) (b2 := false) (by decide +kernel) (by decide +kernel) (by decide +kernel)
end
end K25

set_option maxHeartbeats 1000000
/-! whole numbers, names -/
namespace K25
open PySem PySem.Spec PyProof.Rows L2
def wholeV (v : V) (lo hi : Int) : Bool := match v with
  | .int i => decide (lo ≤ i) && decide (i ≤ hi)
  | _ => false
def spWhole : Sp := fun vs H Q _ => ∃ (v : V) (t : String) (lo hi : Int), vs = [v, .int lo, .int hi] ∧ Odd H v t ∧ Q (.bl (wholeV v lo hi)) H
section
variable {P : Program} {w : World} {K : PySem.W.Frag} {mg : Str → Option Value} {base : Heap}
theorem scWhole : FnScope ["thing", "low", "high"] ["thing", "low", "high"] (defScope sPIsWhole) := ⟨rfl, rfl, rfl, by decide +kernel, rfl, by decide +kernel, by decide +kernel⟩
theorem ok_whole {f : Addr} {fd : FuncData} (F : FnP K "is_whole" sPIsWhole f fd) (zi : mg "int" = none) (zb : mg "bool" = none) (zs : mg "isinstance" = none) : FnOk P w K mg base CX0 1 f fd ["thing", "low", "high"] spWhole := by
  refine F.ok scWhole (fun vs H Q E h => ?_) (fun cdv A outer s H vs Q E hr h => ?_)
  · obtain ⟨v, t, lo, hi, rfl, _⟩ := h
    rfl
  · obtain ⟨v, t, lo, hi, rfl, o, q⟩ := h
    refine ⟨_, PSs.nox (pss_one (ps_ret (pe_and (pe_callB call_isi (by rfl) zs (by decide +kernel) (pa_cons (pv 0) (pa_cons (pe_bltn (by rfl) zi (by decide +kernel) (v := .ty "int") rfl) pa_nil)))
      (pe_and (pe_not (pe_callB call_isi (by rfl) zs (by decide +kernel) (pa_cons (pv 0) (pa_cons (pe_bltn (by rfl) zb (by decide +kernel) (v := .ty "bool") rfl) pa_nil)))) (pe_one (pe_chain op_le op_le (pv 1) (pv 0) (pv 2))))))), ?_⟩
    have ty := o.ty (K := K)
    cases o with
    | int i =>
      refine ⟨_, rfl, _, _, _, _, true, rfl, .ty _, ty, kit_ty (by decide +kernel), _, rfl, iteT ⟨_, rfl, _, _, _, _, false, rfl, .ty _, ty, kit_ty (by decide +kernel), _, rfl, _, rfl, iteT ⟨_, rfl, _, rfl, _, _, rfl, rfl, _, rfl, ?_⟩⟩⟩
      have e : wholeV (.int i) lo hi = (decide (lo ≤ i) && decide (i ≤ hi)) := rfl
      rw [e] at q
      refine ite2 (fun h => ?_) (fun h => ?_)
      · rw [h, Bool.true_and] at q
        exact ⟨_, rfl, _, _, rfl, rfl, q⟩
      · rw [Bool.eq_false_iff.mpr h, Bool.false_and] at q
        exact q
    | bl b => exact ⟨_, rfl, _, _, _, _, true, rfl, .ty _, ty, kit_ty (by decide +kernel), _, rfl, iteT ⟨_, rfl, _, _, _, _, true, rfl, .ty _, ty, kit_ty (by decide +kernel), _, rfl, _, rfl, iteF q⟩⟩
    | _ => exact ⟨_, rfl, _, _, _, _, false, rfl, .ty _, ty, kit_ty (by decide +kernel), _, rfl, iteF q⟩
/-! ### names, kinds, sequences -/
def spName : Sp := fun vs H Q _ => ∃ (v : V) (t : String), vs = [v] ∧ Odd H v t ∧ Q (.bl (wholeV v 0 (10 ^ 30))) H
theorem scName : FnScope ["thing"] ["thing"] (defScope sPIsName) := ⟨rfl, rfl, rfl, by decide +kernel, rfl, by decide +kernel, by decide +kernel⟩
theorem ok_name {f fW : Addr} {fd fdW : FuncData} (F : FnP K "is_name" sPIsName f fd) (GW : FnOk P w K mg base CX0 1 fW fdW ["thing", "low", "high"] spWhole) (bW : Binds K fdW ["thing", "low", "high"] []) (kW : PySem.W.keepIn K (.ref fW) = true) (gW : mg "is_whole" = some (.ref fW))
    (gN : ∃ t, mg "MOST_NAME" = some (.int (10 ^ 30) t)) : FnOk P w K mg base CX0 2 f fd ["thing"] spName := by
  obtain ⟨tk, gN⟩ := gN
  refine F.ok scName (fun vs H Q E h => ?_) (fun cdv A outer s H vs Q E hr h => ?_)
  · obtain ⟨v, t, rfl, _⟩ := h
    rfl
  · obtain ⟨v, t, rfl, o, q⟩ := h
    refine ⟨_, PSs.nox (pss_one (ps_ret (pe_call GW hr (by rfl) gW kW bW .nil pass0 (pa_cons (pv 0) (pa_cons pe_int (pa_cons (pe_glob (by rfl) gN (v := .int (10 ^ 30)) ⟨_, rfl⟩) pa_nil)))))), ?_⟩
    exact ⟨_, rfl, v, t, 0, _, rfl, o, q⟩
end
end K25

/-! a list or a tuple, walked; the model of patterns, lives, pairs -/
namespace K25
open PySem PySem.Spec PyProof.Rows L2
theorem not_t {b : Bool} (h : (!b) = true) : b = false := by
  cases b with
  | false => rfl
  | true => cases h
theorem not_f {b : Bool} (h : ¬ (!b) = true) : b = true := by
  cases b with
  | true => rfl
  | false => exact absurd rfl h
/-- at a stands a list or a tuple of xs -/
def Sq (H : Hp) (a : Addr) (xs : List V) : Prop := H a = some (.lst xs) ∨ H a = some (.tup xs)
def Kp (a : Addr) (H H' : Hp) : Prop := ∀ o, H a = some o → H' a = some o
theorem Same.kp {H H' : Hp} {a : Addr} (s : Same H H') : Kp a H H' := fun o e => s a o e
theorem Sq.kp {H H' : Hp} {a : Addr} {xs : List V} (h : Sq H a xs) (k : Kp a H H') : Sq H' a xs := h.elim (fun h => .inl (k _ h)) fun h => .inr (k _ h)
theorem Sq.same {H H' : Hp} {a : Addr} {xs : List V} (h : Sq H a xs) (s : Same H H') : Sq H' a xs := h.kp (Same.kp s)
theorem Sq.or {K : PySem.W.Frag} {H : Hp} {a : Addr} {xs : List V} (h : Sq H a xs) : SqL K H a xs ∨ SqT K H a xs := h.elim (fun h => .inl (SqL.of h)) fun h => .inr (SqT.of h)
theorem Sq.odd {H : Hp} {a : Addr} {xs : List V} (h : Sq H a xs) : ∃ t, Odd H (.ref a) t ∧ seqT t = true := h.elim (fun h => ⟨_, .lst h, by decide⟩) fun h => ⟨_, .tup h, by decide⟩
theorem enum_any {K : PySem.W.Frag} {σ : L2.St} {H : Hp} {R : It → Hp → Prop} {te : TE} {a : Addr} {xs : List V} (he : ∀ Q : VK, Q (.ref a) H → te σ H Q) (hS : Sq H a xs)
    (key : ∀ (it : It) (G : Hp → Prop), Walk it xs.length G (YPair (fun i => some (.int (i : Nat))) (fun i => xs[i]?)) → (∀ H', Kp a H H' → G H') → R it H) :
    iEnum K (tCons te tNil) σ H R ∨ iEnumT K (tCons te tNil) σ H R := by
  rcases hS with h | h
  · exact .inl (he _ ⟨a, xs, rfl, SqL.of h, key _ _ walk_enum fun H' k => SqL.of (k _ h)⟩)
  · exact .inr (he _ ⟨a, xs, rfl, SqT.of h, key _ _ walk_enumT fun H' k => SqT.of (k _ h)⟩)
theorem seq_any {K : PySem.W.Frag} {σ : L2.St} {H : Hp} {R : It → Hp → Prop} {te : TE} {a : Addr} {xs : List V} (he : ∀ Q : VK, Q (.ref a) H → te σ H Q) (hS : Sq H a xs)
    (key : ∀ (it : It) (G : Hp → Prop), Walk it xs.length G (YAt xs) → (∀ H', Kp a H H' → G H') → R it H) :
    iList K te σ H R ∨ iTup K te σ H R := by
  rcases hS with h | h
  · exact .inl (he _ ⟨a, rfl, ⟨_, SqL.of h⟩, key _ _ walk_list fun H' k => SqL.of (k _ h)⟩)
  · exact .inr (he _ ⟨a, rfl, ⟨_, SqT.of h⟩, key _ _ walk_tup fun H' k => SqT.of (k _ h)⟩)
theorem none_of {H H' : Hp} {y : Addr} (s : Same H H') (h : H' y = none) : H y = none := by
  cases e : H y with
  | none => rfl
  | some o =>
    have z := s _ _ e
    rw [h] at z
    cases z
def rTupS : List V → Hp → VK → Prop := fun vs H Q => ∃ (a : Addr) (xs : List V), vs = [.ref a] ∧ Sq H a xs ∧ ∀ (H2 : Hp) (t : Addr), Same H H2 → H2 t = some (.tup xs) → Q (.ref t) H2
theorem call_tupS {X : Cx} : CallR X (.type "tuple") rTupS := fun pins s σ H vs us Q I r h => by
  obtain ⟨a, xs, rfl, hS, k⟩ := h
  refine call_tuple_of pins s σ H _ us Q I r ⟨a, xs, rfl, ?_⟩
  exact hS.elim (fun h => .inl ⟨SqL.of h, fun l nl => k _ l (same_upd nl) upd_same⟩) fun h => .inr ⟨SqT.of h, k H a (Same.refl _) h⟩
/-! ### entries -/
def stepE (c : Nat) (v : V) : Option Nat := match v with
  | .non => some c
  | .int i => if i < 0 then none else if (c : Int) < i then none else if i = c then some (c + 1) else some c
  | _ => none
def cnt : Nat → List V → Option Nat
  | c, [] => some c
  | c, v :: vs => match stepE c v with
    | some c' => cnt c' vs
    | none => none
/-- flat values -/
inductive Fl : V → Prop where
  | non : Fl .non
  | bl (b : Bool) : Fl (.bl b)
  | int (i : Int) : Fl (.int i)
  | str (x : Str) (hx : x.length ≤ 1000) (hs : (PyData.str x).canLay0 = true) : Fl (.str x)
def tyF : V → String
  | .non => "NoneType"
  | .bl _ => "bool"
  | .int _ => "int"
  | _ => "str"
theorem Fl.odd {H : Hp} {v : V} (f : Fl v) : Odd H v (tyF v) := by
  cases f with
  | non => exact .non
  | bl b => exact .bl b
  | int i => exact .int i
  | str x h1 h2 => exact .str x h1 h2
theorem Fl.flat {v : V} (f : Fl v) : flatV v = true := by cases f <;> rfl
/-- what is handed as entries -/
inductive Nm (H : Hp) : V → List V → Option Nat → Prop where
  | seq {a : Addr} {xs : List V} (h : Sq H a xs) (hl : xs.length ≤ 40) (fl : ∀ x ∈ xs, Fl x) : Nm H (.ref a) xs (cnt 0 xs)
  | bad {v : V} {t : String} (o : Odd H v t) (ns : seqT t = false) : Nm H v [] none
theorem Nm.same {H H' : Hp} {v : V} {xs : List V} {o : Option Nat} (n : Nm H v xs o) (s : Same H H') : Nm H' v xs o := by
  cases n with
  | seq h hl fl => exact .seq (h.same s) hl fl
  | bad o ns => exact .bad (o.same s) ns
theorem cnt_cons (c : Nat) (v : V) (vs : List V) : cnt c (v :: vs) = (match stepE c v with | some c' => cnt c' vs | none => none) := rfl
theorem stepE_le {c c' : Nat} {v : V} (h : stepE c v = some c') : c ≤ c' := by
  unfold stepE at h
  split at h
  · injection h with h; omega
  · split at h
    · cases h
    · split at h
      · cases h
      · split at h <;> injection h with h <;> omega
  · cases h
theorem cnt_le : ∀ {vs : List V} {c c' : Nat}, cnt c vs = some c' → c ≤ c'
  | [], c, c', h => by
    injection h with h
    omega
  | v :: vs, c, c', h => by
    rw [cnt_cons] at h
    cases e : stepE c v with
    | none => rw [e] at h; cases h
    | some d =>
      rw [e] at h
      exact Nat.le_trans (stepE_le e) (cnt_le h)
/-- the whole numbers among the entries -/
def intsOf : List V → List Int
  | [] => []
  | .int i :: vs => i :: intsOf vs
  | _ :: vs => intsOf vs
theorem cnt_ints : ∀ {vs : List V} {c c' : Nat}, cnt c vs = some c' → (∀ y ∈ intsOf vs, y < c') ∧ (c < c' → ((c' : Int) - 1) ∈ intsOf vs)
  | [], c, c', h => by
    injection h with h
    exact ⟨fun y hy => (by cases hy), fun z => by omega⟩
  | v :: vs, c, c', h => by
    rw [cnt_cons] at h
    cases e : stepE c v with
    | none => rw [e] at h; cases h
    | some d =>
      rw [e] at h
      obtain ⟨h1, h2⟩ := cnt_ints h
      have hd := cnt_le h
      cases v with
      | int i =>
        have e' : (if i < 0 then none else if (c : Int) < i then none else if i = c then some (c + 1) else some c) = some d := e
        show (∀ y ∈ i :: intsOf vs, y < (c' : Int)) ∧ (c < c' → ((c' : Int) - 1) ∈ i :: intsOf vs)
        by_cases n0 : i < 0
        · rw [if_pos n0] at e'; cases e'
        rw [if_neg n0] at e'
        by_cases n1 : (c : Int) < i
        · rw [if_pos n1] at e'; cases e'
        rw [if_neg n1] at e'
        by_cases n2 : i = c
        · rw [if_pos n2] at e'
          injection e' with e'
          refine ⟨fun y hy => ?_, fun z => ?_⟩
          · rcases List.mem_cons.mp hy with rfl | hy
            · omega
            · exact h1 y hy
          · by_cases n3 : d < c'
            · exact List.mem_cons_of_mem _ (h2 n3)
            · have : (c' : Int) - 1 = i := by omega
              rw [this]
              exact List.mem_cons_self
        · rw [if_neg n2] at e'
          injection e' with e'
          refine ⟨fun y hy => ?_, fun z => List.mem_cons_of_mem _ (h2 (by omega))⟩
          rcases List.mem_cons.mp hy with rfl | hy
          · omega
          · exact h1 y hy
      | non =>
        have e' : some c = some d := e
        injection e' with e'
        subst e'
        exact ⟨h1, h2⟩
      | _ => cases e
theorem stepE_odd {c d : Nat} {v : V} (h : stepE c v = some d) : v = .non ∨ ∃ i, v = .int i := by
  cases v with
  | non => exact .inl rfl
  | int i => exact .inr ⟨i, rfl⟩
  | _ => cases h
end K25

/-! what is wrong with entries -/
namespace K25
open PySem PySem.Spec PyProof.Rows L2
structure Df (P : Program) (w : World) (K : PySem.W.Frag) (mg : Str → Option Value) (base : Heap) (x : Str) (k : Nat) (ps : List Str) (sp : Sp) (f : Addr) (fd : FuncData) : Prop where
  gl : mg x = some (.ref f)
  ok : FnOk P w K mg base CX0 k f fd ps sp
  bi : Binds K fd ps []
  kp : PySem.W.keepIn K (.ref f) = true
/-- things that are handed as rows: a sequence of anything, or no sequence -/
inductive Ns (H : Hp) : V → List V → Bool → Prop where
  | seq {a : Addr} {xs : List V} (h : Sq H a xs) (hl : xs.length ≤ 1000) (od : ∀ x ∈ xs, ∃ t, Odd H x t) : Ns H (.ref a) xs true
  | bad {v : V} {t : String} (o : Odd H v t) (ns : seqT t = false) : Ns H v [] false
theorem Ns.same {H H' : Hp} {v : V} {xs : List V} {b : Bool} (n : Ns H v xs b) (s : Same H H') : Ns H' v xs b := by
  cases n with
  | seq h hl od => exact .seq (h.same s) hl fun x hx => let ⟨t, o⟩ := od x hx; ⟨t, o.same s⟩
  | bad o ns => exact .bad (o.same s) ns
/-- the first fault of entries from place i on, c classes met -/
def efV (i c : Nat) : List V → Option (Nat × Str)
  | [] => none
  | .non :: xs => efV (i + 1) c xs
  | .int j :: xs => if j < 0 then some (i, "entry") else if (c : Int) < j then some (i, "order") else if j = c then efV (i + 1) (c + 1) xs else efV (i + 1) c xs
  | _ :: _ => some (i, "entry")
def ef (xs : List V) (b : Bool) : Option (Nat × Str) := if b = true ∧ xs.length ≤ 40 then efV 0 0 xs else some (0, "entries")
theorem ef_cnt : ∀ {xs : List V} {i c : Nat}, efV i c xs = none → ∃ d, cnt c xs = some d
  | [], _, c, _ => ⟨c, rfl⟩
  | v :: xs, i, c, h => by
    cases v with
    | non => exact ef_cnt (xs := xs) (i := i + 1) h
    | int j =>
      have h : (if j < 0 then some (i, ("entry" : Str)) else if (c : Int) < j then some (i, "order") else if j = c then efV (i + 1) (c + 1) xs else efV (i + 1) c xs) = none := h
      show ∃ d, (match (if j < 0 then none else if (c : Int) < j then none else if j = c then some (c + 1) else some c : Option Nat) with | some c' => cnt c' xs | none => none) = some d
      split at h
      · cases h
      · split at h
        · cases h
        · rename_i h1 h2
          rw [if_neg h1, if_neg h2]
          split at h
          · rename_i h3
            rw [if_pos h3]
            exact ef_cnt h
          · rename_i h3
            rw [if_neg h3]
            exact ef_cnt h
    | _ => cases h
theorem cnt_ef : ∀ {xs : List V} {i c d : Nat}, cnt c xs = some d → efV i c xs = none
  | [], _, _, _, _ => rfl
  | v :: xs, i, c, d, h => by
    cases v with
    | non => exact cnt_ef (xs := xs) (i := i + 1) h
    | int j =>
      have h : (match (if j < 0 then none else if (c : Int) < j then none else if j = c then some (c + 1) else some c : Option Nat) with | some c' => cnt c' xs | none => none) = some d := h
      show (if j < 0 then some (i, ("entry" : Str)) else if (c : Int) < j then some (i, "order") else if j = c then efV (i + 1) (c + 1) xs else efV (i + 1) c xs) = none
      split at h
      · rename_i e
        split at e
        · cases e
        · split at e
          · cases e
          · rename_i h1 h2
            rw [if_neg h1, if_neg h2]
            split at e
            · rename_i h3
              cases e
              rw [if_pos h3]
              exact cnt_ef h
            · rename_i h3
              cases e
              rw [if_neg h3]
              exact cnt_ef h
      · cases h
    | _ => cases h
def spEF : Sp := fun vs H Q _ => ∃ (v : V) (xs : List V) (b : Bool), vs = [v] ∧ Ns H v xs b ∧
  (∀ i z, ef xs b = some (i, z) → ∀ (H' : Hp) (t : Addr), Same H H' → H' t = some (.tup [.int (i : Nat), .str z]) → Q (.ref t) H') ∧ (ef xs b = none → ∀ H', Same H H' → Q .non H')
section
variable {P : Program} {w : World} {K : PySem.W.Frag} {mg : Str → Option Value} {base : Heap}
theorem scEF : FnScope ["entries", "classes", "index", "entry"] ["entries"] (defScope sPEntriesFault) := ⟨rfl, rfl, rfl, by decide +kernel, rfl, by decide +kernel, by decide +kernel⟩
theorem drop_cons {xs : List V} {i : Nat} {v : V} (h : xs[i]? = some v) : xs.drop i = v :: xs.drop (i + 1) := by
  obtain ⟨hi, e⟩ := List.getElem?_eq_some_iff.mp h
  rw [List.drop_eq_getElem_cons hi, e]
theorem ok_ef {f fS : Addr} {fd fdS : FuncData} (F : FnP K "_entries_fault" sPEntriesFault f fd) (z_len : mg "len" = none) (z_enumerate : mg "enumerate" = none) (z_isinstance : mg "isinstance" = none) (z_int : mg "int" = none) (z_bool : mg "bool" = none)
    (g_MOST_PLACES : ∃ t, mg "MOST_PLACES" = some (.int 40 t)) (dS : Df P w K mg base "is_sequence" 1 ["thing"] spSeq fS fdS) : FnOk P w K mg base CX0 2 f fd ["entries"] spEF := by
  obtain ⟨tk, g_MOST_PLACES⟩ := g_MOST_PLACES
  refine F.ok scEF (fun vs H Q E h => ?_) (fun cdv A outer s H vs Q E hr1 h => ?_)
  · obtain ⟨v, xs, b, rfl, _⟩ := h
    rfl
  · obtain ⟨v, xs, b, rfl, nm, q0, q1⟩ := h
    refine ⟨_, PSs.nox (pss_cons (ps_if (PW.pt (pw_or (pt_not (pt_val (pe_call dS.ok hr1 (by rfl) dS.gl dS.kp dS.bi .nil pass0 (pa_cons (pv 0) pa_nil)))) (pw_or1 (pt_cmpR op_gt (pe_callB call_len_seq (by rfl) z_len boot_len (pa_cons (pv 0) pa_nil)) (pe_glob (by rfl) g_MOST_PLACES (v := .int 40) ⟨_, rfl⟩) (nomark _)))))
      (pss_one (ps_ret (pe_tup (pa_cons pe_int (pa_cons pe_str pa_nil)))))
      pss_nil)
    (pss_cons (ps_set (i := 1) scEF.nd rfl (.inl rfl) pe_int)
    (pss_cons (ps_for PassesOwn.never rfl (pi_or (pi_enum (by rfl) z_enumerate (pa_cons (pv 0) pa_nil)) (pi_enumT (by rfl) z_enumerate (pa_cons (pv 0) pa_nil) rfl)) (pg_tup (by rfl) (pgs_cons (pg_name (i := 2) scEF.nd rfl (.inl rfl)) (pgs_cons (pg_name (i := 3) scEF.nd rfl (.inl rfl)) pgs_nil)))
      (pss_cons (ps_if (pt_cmpR op_isN (pv 3) pe_non (nomark _))
        (pss_one ps_continue)
        pss_nil)
      (pss_cons (ps_if (PW.pt (pw_or (pt_not (pt_val (pe_callB call_isi (by rfl) z_isinstance (by decide +kernel) (pa_cons (pv 3) (pa_cons (pe_bltn (by rfl) z_int (by decide +kernel) (v := .ty "int") rfl) pa_nil))))) (pw_or (pt_val (pe_callB call_isi (by rfl) z_isinstance (by decide +kernel) (pa_cons (pv 3) (pa_cons (pe_bltn (by rfl) z_bool (by decide +kernel) (v := .ty "bool") rfl) pa_nil)))) (pw_or1 (pt_cmpR op_lt (pv 3) pe_int (nomark _))))))
        (pss_one (ps_ret (pe_tup (pa_cons (pv 2) (pa_cons pe_str pa_nil)))))
        pss_nil)
      (pss_cons (ps_if (pt_cmpR op_gt (pv 3) (pv 1) (nomark _))
        (pss_one (ps_ret (pe_tup (pa_cons (pv 2) (pa_cons pe_str pa_nil)))))
        pss_nil)
      (pss_one (ps_if (pt_cmpR op_eq (pv 3) (pv 1) (nomark _))
        (pss_one (ps_aug (i := 1) scEF.nd rfl (.inl rfl) pe_int ip_add))
        pss_nil))))))
    (pss_one (ps_ret pe_non))))), ?_⟩
    cases nm with
    | bad o ns =>
      refine ⟨_, rfl, _, _, rfl, o, fun u nu => ?_⟩
      rw [ns]
      exact ⟨_, rfl, iteT ⟨(by show 2 ≤ sizeLine; decide), fun z nz => q0 0 _ rfl _ z ((same_upd nu).trans (same_upd nz)) upd_same⟩⟩
    | @seq a xs h hl od =>
      obtain ⟨t, o, hs⟩ := h.odd
      refine ⟨_, rfl, _, _, rfl, o, fun u nu => ?_⟩
      rw [hs]
      refine ⟨_, rfl, iteF ?_⟩
      have su := same_upd (o := .tup [.ty "list", .ty "tuple"]) nu
      have h1 := h.same su
      generalize upd H u (.tup [.ty "list", .ty "tuple"]) = H0 at su h1 ⊢
      refine ⟨_, rfl, _, _, rfl, h1.or, _, _, rfl, rfl, _, rfl, ite2 (fun z => ?_) (fun h40 => ?_)⟩
      · have h40 := of_decide_eq_true z
        exact ⟨(by show 2 ≤ sizeLine; decide), fun z nz => q0 0 _ (by unfold ef; rw [if_neg (fun w => by have := w.2; omega)]) _ z (su.trans (same_upd nz)) upd_same⟩
      have h40 : xs.length ≤ 40 := by
        have z : ¬ (40 : Int) < (xs.length : Int) := fun z => h40 (decide_eq_true z)
        omega
      unfold ef at q0 q1
      rw [if_pos ⟨rfl, h40⟩] at q0 q1
      refine enum_any (fun Q q => ⟨_, rfl, q⟩) h1 fun it G wk keep => for_it wk (fun i σ H' => ∃ (c : Nat) (x2 x3 : Option V), σ = [some (.ref a), some (.int (c : Int)), x2, x3] ∧ efV i c (xs.drop i) = efV 0 0 xs ∧ Same H0 H')
        ⟨0, none, none, rfl, by rw [List.drop_zero], Same.refl _⟩ (fun i σ H' _ ⟨_, _, _, _, _, s⟩ => keep _ (Same.kp s)) ?_ ?_
      · rintro i x σ H1 H2 hi ⟨c, x2, x3, rfl, hc, sm⟩ ⟨T, u', v, rfl, nT, rfl, eu, ev⟩
        obtain rfl : u' = .int (i : Int) := (Option.some.inj eu).symm
        obtain ⟨tv, ov⟩ := od v (List.mem_of_getElem? ev)
        rw [drop_cons ev] at hc
        have sT := sm.trans (same_upd (o := .tup [.int (i : Int), v]) nT)
        have sH := su.trans sT
        have oH := ov.same sH
        refine ⟨T, _, rfl, .inl (.inl upd_same), rfl, _, _, rfl, _, _, rfl, rfl, ?_⟩
        have ret : ∀ z : Str, efV 0 0 xs = some (i, z) → ∀ p, upd H1 T (.tup [.int (i : Int), v]) p = none → Q (.ref p) (upd (upd H1 T (.tup [.int (i : Int), v])) p (.tup [.int (i : Int), .str z])) := fun z e p np => q0 i z e _ p (sH.trans (same_upd np)) upd_same
        generalize upd H1 T (.tup [.int (i : Int), v]) = HT at sT sH oH ret ⊢
        cases ov with
        | non => exact ⟨_, rfl, rfl, _, rfl, iteT ⟨c, _, _, rfl, hc, sT⟩⟩
        | bl b =>
          refine ⟨_, rfl, rfl, _, rfl, iteF ?_⟩
          refine ⟨_, rfl, _, _, _, _, true, rfl, .ty _, .base (.bl b), kit_ty (by decide +kernel), _, rfl, iteF ⟨_, rfl, _, _, _, _, true, rfl, .ty _, .base (.bl b), kit_ty (by decide +kernel), _, rfl, iteT ?_⟩⟩
          exact ⟨_, rfl, (by show 2 ≤ sizeLine; decide), fun p np => ret _ hc.symm p np⟩
        | str x h1 h2 =>
          refine ⟨_, rfl, rfl, _, rfl, iteF ?_⟩
          refine ⟨_, rfl, _, _, _, _, false, rfl, .ty _, oH.ty, kit_ty (by decide +kernel), _, rfl, iteT ?_⟩
          exact ⟨_, rfl, (by show 2 ≤ sizeLine; decide), fun p np => ret _ hc.symm p np⟩
        | tup e =>
          refine ⟨_, rfl, rfl, _, rfl, iteF ?_⟩
          refine ⟨_, rfl, _, _, _, _, false, rfl, .ty _, oH.ty, kit_ty (by decide +kernel), _, rfl, iteT ?_⟩
          exact ⟨_, rfl, (by show 2 ≤ sizeLine; decide), fun p np => ret _ hc.symm p np⟩
        | lst e =>
          refine ⟨_, rfl, rfl, _, rfl, iteF ?_⟩
          refine ⟨_, rfl, _, _, _, _, false, rfl, .ty _, oH.ty, kit_ty (by decide +kernel), _, rfl, iteT ?_⟩
          exact ⟨_, rfl, (by show 2 ≤ sizeLine; decide), fun p np => ret _ hc.symm p np⟩
        | dic e =>
          refine ⟨_, rfl, rfl, _, rfl, iteF ?_⟩
          refine ⟨_, rfl, _, _, _, _, false, rfl, .ty _, oH.ty, kit_ty (by decide +kernel), _, rfl, iteT ?_⟩
          exact ⟨_, rfl, (by show 2 ≤ sizeLine; decide), fun p np => ret _ hc.symm p np⟩
        | int j =>
          refine ⟨_, rfl, rfl, _, rfl, iteF ?_⟩
          refine ⟨_, rfl, _, _, _, _, true, rfl, .ty _, .base (.int j), kit_ty (by decide +kernel), _, rfl, iteF ⟨_, rfl, _, _, _, _, false, rfl, .ty _, .base (.int j), kit_ty (by decide +kernel), _, rfl, iteF ?_⟩⟩
          have hc' : (if j < 0 then some (i, ("entry" : Str)) else if (c : Int) < j then some (i, "order") else if j = c then efV (i + 1) (c + 1) (xs.drop (i + 1)) else efV (i + 1) c (xs.drop (i + 1))) = efV 0 0 xs := hc
          refine ⟨_, rfl, _, _, rfl, rfl, _, rfl, ite2 (fun g => ?_) (fun g => ?_)⟩
          · rw [if_pos (of_decide_eq_true g)] at hc'
            exact ⟨_, rfl, (by show 2 ≤ sizeLine; decide), fun p np => ret _ hc'.symm p np⟩
          rw [if_neg (fun z => g (decide_eq_true z))] at hc'
          refine ⟨_, rfl, _, rfl, _, _, rfl, rfl, _, rfl, ite2 (fun g => ?_) (fun g => ?_)⟩
          · rw [if_pos (of_decide_eq_true g)] at hc'
            exact ⟨_, rfl, (by show 2 ≤ sizeLine; decide), fun p np => ret _ hc'.symm p np⟩
          rw [if_neg (fun z => g (decide_eq_true z))] at hc'
          refine ⟨_, rfl, _, rfl, rfl, _, rfl, ite2 (fun g => ?_) (fun g => ?_)⟩
          · have ej : j = (c : Int) := V.int.inj (of_decide_eq_true g)
            rw [if_pos ej] at hc'
            refine ⟨_, rfl, _, _, rfl, rfl, ⟨c + 1, _, _, rfl, hc', sT⟩⟩
          · rw [if_neg (fun z => g (decide_eq_true (by rw [z])))] at hc'
            exact ⟨c, _, _, rfl, hc', sT⟩
      · rintro σ H1 ⟨c, x2, x3, rfl, hc, sm⟩
        rw [List.drop_of_length_le (Nat.le_refl _)] at hc
        exact q1 hc.symm H1 (su.trans sm)
end
end K25

/-! the errors' __init__ -/
namespace K25
open PySem PySem.Spec PyProof.Rows L2 L2H
abbrev sPatErr : Stmt := inClass (top 2) 0
abbrev sMtErr : Stmt := inClass (top 6) 0
abbrev NoF (K : PySem.W.Frag) (C : Addr) (f : Str) : Prop := PySem.W.findIn K (.ref C) f = some none
abbrev patF (i : Int) (x : Str) : List (Str × V) := [("what", .str x), ("index", .int i)]
abbrev stF (x : Str) : List (Str × V) := [("what", .str x)]
theorem keep_new {H : Hp} {a d : Addr} {o u : HO} (nd : H d = none) : ∀ b x, b ≠ a → H b = some x → (upd (upd H d u) a o) b = some x := fun b x n e => by
  rw [upd_ne n, upd_ne (ne_of_none e nd)]
  exact e
theorem keep_dict {H H1 : Hp} {a d : Addr} {o : HO} (nd : H d = none) (k : ∀ b x, b ≠ a → H b = some x → H1 b = some x) : ∀ b x, b ≠ a → H b = some x → (upd H1 d o) b = some x := fun b x n e => by
  rw [upd_ne (ne_of_none e nd)]
  exact k b x n e
def spPatErr (C : Addr) : Sp := fun vs H Q _ => ∃ (a : Addr) (i : Int) (x : Str), vs = [.ref a, .int i, .str x] ∧ H a = some (exo a C none) ∧
  ∀ (H' : Hp) (d : Addr), H d = none → H' a = some (exo a C (some d)) → H' d = some (exd d (patF i x)) → (∀ b o, b ≠ a → H b = some o → H' b = some o) → Q .non H'
def spMtErr (C : Addr) : Sp := fun vs H Q _ => ∃ (a : Addr) (x : Str), vs = [.ref a, .str x] ∧ H a = some (exo a C none) ∧
  ∀ (H' : Hp) (d : Addr), H d = none → H' a = some (exo a C (some d)) → H' d = some (exd d (stF x)) → (∀ b o, b ≠ a → H b = some o → H' b = some o) → Q .non H'
section
variable {P : Program} {w : World} {K : PySem.W.Frag} {mg : Str → Option Value} {base : Heap}
theorem ok_patErr {f C : Addr} {fd : FuncData} (F : FunD K "__init__" "BadPattern.__init__" (defArgs sPatErr) (defBody sPatErr) (defScope sPatErr) [] [] f fd) (T : OexC K C) (n0 : NoF K C "index") (n1 : NoF K C "what") :
    FnOk P w K mg base CX0 1 f fd ["self", "index", "what"] (spPatErr C) := by
  have sc : FnScope ["self", "index", "what"] ["self", "index", "what"] (defScope sPatErr) := ⟨rfl, rfl, rfl, by decide +kernel, rfl, by decide +kernel, by decide +kernel⟩
  refine F.ok sc (fun vs H Q E h => ?_) (fun cdv A outer s H vs Q E hr h => ?_)
  · obtain ⟨a, i, x, rfl, _⟩ := h
    rfl
  · obtain ⟨a, i, x, rfl, ea, q⟩ := h
    refine ⟨_, PSs.nox (pss_cons (ps_ost (pv 0) (pv 1)) (pss_one (ps_ost (pv 0) (pv 2)))), ?_⟩
    refine ⟨_, rfl, _, rfl, a, C, rfl, T, n0, .inl ⟨ea, fun d nd ne => ?_⟩⟩
    refine ⟨_, rfl, _, rfl, a, C, rfl, T, n1, .inr ⟨d, _, upd_same, Eq.trans (upd_ne ne) upd_same, (by show 1 ≤ 900; decide), ?_⟩⟩
    exact q _ d nd (Eq.trans (upd_ne (Ne.symm ne)) upd_same) upd_same (keep_dict nd (keep_new nd))
theorem ok_mtErr {f C : Addr} {fd : FuncData} (F : FunD K "__init__" "BadMatch.__init__" (defArgs sMtErr) (defBody sMtErr) (defScope sMtErr) [] [] f fd) (T : OexC K C) (n1 : NoF K C "what") :
    FnOk P w K mg base CX0 1 f fd ["self", "what"] (spMtErr C) := by
  have sc : FnScope ["self", "what"] ["self", "what"] (defScope sMtErr) := ⟨rfl, rfl, rfl, by decide +kernel, rfl, by decide +kernel, by decide +kernel⟩
  refine F.ok sc (fun vs H Q E h => ?_) (fun cdv A outer s H vs Q E hr h => ?_)
  · obtain ⟨a, x, rfl, _⟩ := h
    rfl
  · obtain ⟨a, x, rfl, ea, q⟩ := h
    refine ⟨_, PSs.nox (pss_one (ps_ost (pv 0) (pv 1))), ?_⟩
    refine ⟨_, rfl, _, rfl, a, C, rfl, T, n1, .inl ⟨ea, fun d nd ne => ?_⟩⟩
    exact q _ d nd upd_same (Eq.trans (upd_ne ne) upd_same) (keep_new nd)
theorem ok_mtErrH {f C : Addr} {fd : FuncData} (F : FunD K "__init__" "BadMatch.__init__" (defArgs sMtErr) (defBody sMtErr) (defScope sMtErr) [] [] f fd) (T : OexC K C) (n1 : NoF K C "what") :
    FnH P w K mg base CX0 1 f fd ["self", "what"] (spMtErr C) := by
  have sc : FnScope ["self", "what"] ["self", "what"] (defScope sMtErr) := ⟨rfl, rfl, rfl, by decide +kernel, rfl, by decide +kernel, by decide +kernel⟩
  refine okH F sc (fun vs H Q E h => ?_) (fun cdv A outer s H vs Q E p hot hr h => ?_)
  · obtain ⟨a, x, rfl, _⟩ := h
    rfl
  · obtain ⟨a, x, rfl, ea, q⟩ := h
    refine ⟨_, PSs.nox (pss_one (ps_ost (pv 0) (pv 1))), ?_⟩
    refine ⟨_, rfl, _, rfl, a, C, rfl, T, n1, .inl ⟨ea, fun d nd ne => ?_⟩⟩
    exact q _ d nd upd_same (Eq.trans (upd_ne ne) upd_same) (keep_new nd)
end
end K25

/-! a pattern is made, or refused -/
namespace K25
open PySem PySem.Spec PyProof.Rows L2
abbrev sPInit : Stmt := inClass (top 16) 0
theorem intsOf_app : ∀ (xs ys : List V), intsOf (xs ++ ys) = intsOf xs ++ intsOf ys
  | [], ys => rfl
  | v :: vs, ys => by
    have ih := intsOf_app vs ys
    cases v with
    | int i => exact congrArg (List.cons i) ih
    | _ => exact ih
theorem cnt_kinds : ∀ {vs : List V} {c c' : Nat}, cnt c vs = some c' → ∀ v ∈ vs, v = .non ∨ ∃ i : Int, v = .int i ∧ 0 ≤ i
  | [], c, c', h => fun v hv => by cases hv
  | v :: vs, c, c', h => by
    rw [cnt_cons] at h
    cases e : stepE c v with
    | none => rw [e] at h; cases h
    | some d =>
      rw [e] at h
      intro u hu
      rcases List.mem_cons.mp hu with rfl | hu
      · cases u with
        | non => exact .inl rfl
        | int i =>
          refine .inr ⟨i, rfl, ?_⟩
          have e' : (if i < 0 then none else if (c : Int) < i then none else if i = c then some (c + 1) else some c : Option Nat) = some d := e
          by_cases n0 : i < 0
          · rw [if_pos n0] at e'; cases e'
          · omega
        | _ => cases e
      · exact cnt_kinds h u hu
theorem len_intsOf : ∀ vs : List V, (intsOf vs).length ≤ vs.length
  | [] => Nat.le_refl _
  | v :: vs => by
    have ih := len_intsOf vs
    cases v with
    | int i => exact Nat.succ_le_succ ih
    | _ => exact Nat.le_succ_of_le ih
theorem mem_intsOf : ∀ {vs : List V} {i : Int}, i ∈ intsOf vs → V.int i ∈ vs
  | [], i, h => by cases h
  | v :: vs, i, h => by
    cases v with
    | int j =>
      rcases List.mem_cons.mp h with rfl | h
      · exact List.mem_cons_self
      · exact List.mem_cons_of_mem _ (mem_intsOf h)
    | _ => exact List.mem_cons_of_mem _ (mem_intsOf (show i ∈ intsOf vs from h))
theorem cnt_max {vs : List V} {c : Nat} (h : cnt 0 vs = some c) {m : Int} (hm : m ∈ intsOf vs) (hle : ∀ y ∈ intsOf vs, y ≤ m) : 1 + m = c := by
  obtain ⟨h1, h2⟩ := cnt_ints h
  have z1 := h1 m hm
  have z0 : 0 ≤ m := by
    rcases cnt_kinds h _ (mem_intsOf hm) with e | ⟨i, e, hi⟩
    · cases e
    · injection e with e
      omega
  have z2 := hle _ (h2 (by omega))
  omega
theorem cnt_none {vs : List V} {c : Nat} (h : cnt 0 vs = some c) (hn : intsOf vs = []) : c = 0 := by
  obtain ⟨h1, h2⟩ := cnt_ints h
  by_cases z : 0 < c
  · have y := h2 z
    rw [hn] at y
    cases y
  · omega
/-- the class of patterns -/
structure PatC (K : PySem.W.Frag) (CP : Addr) : Prop where
  cl : Cls K CP
  nE : NoAttr K CP "entries"
  nC : NoAttr K CP "_classes"
/-- BadPattern(..), BadState(..) -/
structure ErrC (P : Program) (w : World) (K : PySem.W.Frag) (mg : Str → Option Value) (base : Heap) (x : Str) (ps : List Str) (sp : Addr → Sp) (C fI : Addr) (fd : FuncData) : Prop where
  cl : OexC K C
  ini : PySem.W.findIn K (.ref C) "__init__" = some (some (.ref fI))
  ty : PySem.W.typeIn K (.ref fI) = some (.type "function")
  gl : mg x = some (.ref C)
  ok : FnOk P w K mg base CX0 1 fI fd ps (sp C)
  bi : Binds K fd ps []
abbrev patO (t : Addr) (c : Nat) : List (Str × V) := [("entries", .ref t), ("_classes", .int c)]
def spPat (CP CE : Addr) : Sp := fun vs H Q E => ∃ (x dx : Addr) (v : V) (xs : List V) (b : Bool), vs = [.ref x, v] ∧ H x = some (.ins CP dx []) ∧ Ns H v xs b ∧
  (∀ c, ef xs b = none → cnt 0 xs = some c → ∀ (H' : Hp) (t : Addr), H' x = some (.ins CP dx (patO t c)) → H' t = some (.tup xs) → (∀ z u, H z = some u → z ≠ x → H' z = some u) → Q .non H') ∧
  (∀ i z, ef xs b = some (i, z) → ∀ (H' : Hp) (d : Addr), H d = none → H' d = some (.xd (patF (i : Nat) z)) → Same H H' → E (.ref CE) (some d) H')
section
variable {P : Program} {w : World} {K : PySem.W.Frag} {mg : Str → Option Value} {base : Heap}
abbrev nmPI : List Str := ["self", "entries", "fault", "entry"]
theorem scPI : FnScope nmPI ["self", "entries"] (defScope sPInit) := ⟨rfl, rfl, rfl, by decide +kernel, rfl, by decide +kernel, by decide +kernel⟩
theorem ok_pat {f fE fX CP CE : Addr} {fd fdE fdX : FuncData} (F : FunD K "__init__" "Pattern.__init__" (defArgs sPInit) (defBody sPInit) (defScope sPInit) [] [] f fd) (T : PatC K CP) (z_tuple : mg "tuple" = none) (z_max : mg "max" = none)
    (dE : Df P w K mg base "_entries_fault" 2 ["entries"] spEF fE fdE) (X : ErrC P w K mg base "BadPattern" ["self", "index", "what"] spPatErr CE fX fdX) : FnOk P w K mg base (L2.CX P w) 3 f fd ["self", "entries"] (spPat CP CE) := by
  refine F.ok scPI (fun vs H Q E h => ?_) (fun cdv A outer s H vs Q E hr h => ?_)
  · obtain ⟨x, dx, v, xs, b, rfl, _⟩ := h
    rfl
  · obtain ⟨x, dx, v, xs, b, rfl, hx, nm, q1, q0⟩ := h
    have hu := hu_of hr
    refine ⟨_, pss_cons (ps_set (i := 2) scPI.nd rfl (.inl rfl) (pe_call dE.ok hr (by rfl) dE.gl dE.kp dE.bi .nil pass0 (pa_cons (pv 1) pa_nil)))
      (pss_cons (ps_if (pt_cmpR op_notN (pv 2) pe_non (nomark _))
          (pss_one (ps_raise rfl (takes_of rfl rfl rfl rfl) (pmk_oex X.cl X.ini X.ty X.ok hr X.bi .nil pass0 (by rfl) X.gl (pa_cons (pe_ix ix_tup (pv 2) pe_int (fun _ _ => rfl)) (pa_cons (pe_ix ix_tup (pv 2) pe_int (fun _ _ => rfl)) pa_nil))))) pss_nil)
      (PSs.nox (pss_cons (ps_fld (pv 0) (pe_callTy call_tupS (by rfl) z_tuple (by decide +kernel) (pa_cons (pv 1) pa_nil)) rfl)
      (pss_one (ps_fld (pv 0) (pe_op op_add pe_int (pe_callBK (crk_max rfl (Nat.lt_of_le_of_lt (Nat.add_le_add_left (by decide : 3 ≤ 64) _) hr.units)) (by rfl) z_max (by decide +kernel)
        (pa_cons (pe_lc (own := [("entry", 3)]) (g := gName 3) rfl scPI.nd (pi_or (pi_list (pv 1)) (pi_tup (pv 1))) (blkOk_by (N := nmPI) (sc := defScope sPInit) (by decide +kernel))
          (fun _ _ _ _ _ => pg_name (i := 3) scPI.nd rfl (Or.inl rfl)) (fun _ _ _ _ _ => pts_one (pt_cmpR op_notN (pv 3) pe_non (nomark _))) (fun _ _ _ _ _ => pv 3)) pa_nil) (pk_cons (pe_un un_neg pe_int) pk_nil))) rfl))))), ?_⟩
    refine ⟨_, rfl, v, xs, b, rfl, nm, fun i z eo H1 t s1 ht => ?_, fun eo0 H1 s1 => ?_⟩
    · refine ⟨_, rfl, rfl, _, rfl, iteT ?_⟩
      refine ⟨_, rfl, _, _, _, _, rfl, rfl, SqT.of ht, rfl, _, rfl, _, _, _, _, rfl, rfl, SqT.of ht, rfl, (by show 2 ≤ 1000; decide), fun av nav => ⟨av, (i : Int), z, rfl, upd_same, fun H3 dd nd3 ha3 hd3 kp => ⟨rfl, dd, _, ha3, hd3, ?_, ?_⟩⟩⟩
      · exact none_of (same_upd nav) nd3
      · refine q0 i z eo _ dd (none_of s1 (none_of (same_upd nav) nd3)) upd_same fun y' o' e' => ?_
        have e2 := s1 _ _ e'
        rw [upd_ne (ne_of_none e2 (none_of (same_upd nav) nd3)), del_ne (ne_of_none e2 nav)]
        exact kp _ _ (ne_of_none e2 nav) (same_upd nav _ _ e2)
    · refine ⟨_, rfl, rfl, _, rfl, iteF ?_⟩
      cases nm with
      | bad o ns => cases eo0
      | @seq a xs h hl0 fl =>
        have hl : xs.length ≤ 40 := Nat.le_of_not_lt fun z => by
          unfold ef at eo0
          rw [if_neg (fun w => by have := w.2; omega)] at eo0
          cases eo0
        obtain ⟨c, eo⟩ : ∃ c, cnt 0 xs = some c := by
          have z := eo0
          unfold ef at z
          rw [if_pos ⟨rfl, hl⟩] at z
          exact ef_cnt z
        have h1 := h.same s1
        have hx1 := s1 _ _ hx
        have ax : a ≠ x := h.elim (fun e => ne_of e hx (by intro z; cases z)) fun e => ne_of e hx (by intro z; cases z)
        refine ⟨_, rfl, a, xs, rfl, h1, fun H2 t s2 ht => ?_⟩
        have hx2 := s2 _ _ hx1
        have tx : t ≠ x := ne_of ht hx2 (by intro z; cases z)
        refine ⟨_, rfl, x, CP, dx, _, rfl, hx2, T.cl, T.nE, by decide, ?_⟩
        have hx3 : upd H2 x (.ins CP dx (putF "entries" (.ref t) [])) x = some (.ins CP dx (putF "entries" (.ref t) [])) := upd_same
        have ht3 : upd H2 x (.ins CP dx (putF "entries" (.ref t) [])) t = some (.tup xs) := (upd_ne tx).trans ht
        have k3 : ∀ z u, H z = some u → z ≠ x → upd H2 x (.ins CP dx (putF "entries" (.ref t) [])) z = some u := fun z u e ne => (upd_ne ne).trans (s2 _ _ (s1 _ _ e))
        have h3 : Sq (upd H2 x (.ins CP dx (putF "entries" (.ref t) []))) a xs := (h1.same s2).elim (fun e => .inl ((upd_ne ax).trans e)) fun e => .inr ((upd_ne ax).trans e)
        generalize upd H2 x (.ins CP dx (putF "entries" (.ref t) [])) = H3 at hx3 ht3 k3 h3
        refine seq_any (fun Q q => ⟨_, rfl, q⟩) h3 fun it G wk keep D nD => lc_it wk (fun i H' => Same H3 H' ∧ H' D = some (.lst ((intsOf (xs.take i)).map V.int))) ⟨same_upd nD, upd_same⟩ (fun i H' _ ⟨s, _⟩ => keep _ (Same.kp s)) ?_ ?_
        · rintro i y H4 H5 hi ⟨s4, eD⟩ ⟨rfl, ev⟩
          have et : xs.take (i + 1) = xs.take i ++ [y] := by rw [List.take_add_one, ev]; rfl
          have hlen : ((intsOf (xs.take i)).map V.int).length < sizeLine := by
            rw [List.length_map]
            refine Nat.lt_of_le_of_lt (Nat.le_trans (len_intsOf _) ?_) (show 40 < sizeLine by decide)
            rw [List.length_take]
            exact Nat.le_trans (Nat.min_le_right _ _) hl
          rcases cnt_kinds eo y (List.mem_of_getElem? ev) with rfl | ⟨j, rfl, _⟩
          · refine ⟨rfl, _, rfl, rfl, _, rfl, iteF ⟨s4, ?_⟩⟩
            rw [et, intsOf_app]
            show H5 D = some (.lst ((intsOf (xs.take i) ++ []).map V.int))
            rw [List.append_nil]
            exact eD
          · refine ⟨rfl, _, rfl, rfl, _, rfl, iteT ⟨_, rfl, _, eD, hlen, fun b o e => ?_, ?_⟩⟩
            · rw [upd_ne (ne_of_none e nD)]
              exact s4 _ _ e
            · rw [upd_same, et, intsOf_app, List.map_append]
              rfl
        · rintro H4 ⟨s4, eD⟩
          rw [List.take_of_length_le (Nat.le_refl _)] at eD
          refine ⟨_, rfl, D, intsOf xs, -1, rfl, rfl, SqL.of eD, fun en => ?_, fun m hm hle => ?_⟩
          · have ec := cnt_none eo en
            subst ec
            refine ⟨_, _, rfl, rfl, _, rfl, x, CP, dx, _, rfl, s4 _ _ hx3, T.cl, T.nC, (show 1 < 1000 by decide), ?_⟩
            exact q1 0 eo0 eo _ t upd_same ((upd_ne tx).trans (s4 _ _ ht3)) fun z u e ne => (upd_ne ne).trans (s4 _ _ (k3 z u e ne))
          · have ec := cnt_max eo hm hle
            refine ⟨_, _, rfl, rfl, _, rfl, x, CP, dx, _, rfl, s4 _ _ hx3, T.cl, T.nC, (show 1 < 1000 by decide), ?_⟩
            exact q1 c eo0 eo _ t (by rw [upd_same]; show some (HO.ins CP dx [("entries", V.ref t), ("_classes", V.int (1 + m))]) = _; rw [ec]) ((upd_ne tx).trans (s4 _ _ ht3)) fun z u e ne => (upd_ne ne).trans (s4 _ _ (k3 z u e ne))
end
end K25

/-! C(..) where its __init__ may raise -/
namespace K25
open PySem PySem.Spec PyProof.Rows L2 L2H
/-- C(..) in a try: its __init__ may raise -/
def tMakeS (C : Addr) (sp : Sp) (E : L2.St → XK) (t : TA) : TE := fun σ H Q => t σ H fun vs H1 => ∀ x dx, H1 x = none → H1 dx = none → dx ≠ x →
  sp (.ref x :: vs) (upd (upd H1 dx (.own x)) x (.ins C dx [])) (fun v H2 => v = .non ∧ Q (.ref x) H2) (E σ)
section
variable {X : Cx} {CX : CXT} {k : Nat} {f C : Addr} {fd : FuncData} {ps : List Str} {sp : Sp} {E : L2.St → XK} {x : Str} {p pos : Pos} {e : Expr} {es : List Expr} {t : TA}
theorem run_makeS {pins : List (Addr × Obj)} {σ : L2.St} {H : Hp} {s : Shared} {Q : VK} {us : List Value} {vs : List V} (M : Mk X.K C f) (F : FnOk X.prog X.w X.K X.mg X.base CX k f fd ps sp) (hr : Room (k + 1) X.A) (hb : Binds X.K fd ps [])
    (hx : PassesAt CX X σ (E σ)) (I : Inv X pins σ H s) (r : Vals vs us)
    (h : ∀ x dx, H x = none → H dx = none → dx ≠ x → sp (.ref x :: vs) (upd (upd H dx (.own x)) x (.ins C dx [])) (fun v H2 => v = .non ∧ Q (.ref x) H2) (E σ)) :
    wpAny (model X.prog X.w) X.A (call (.ref C) us) (EP X pins σ Q) X.xe s := by
  have hq := h (s.heap.objs.size + 1) s.heap.objs.size (I.hok.fresh (Nat.le_succ _)) (I.hok.fresh (Nat.le_refl _)) (Nat.ne_of_lt (Nat.lt_succ_self _))
  have I2 := Inv.made (C := C) I
  have r2 : Vals (V.ref (s.heap.objs.size + 1) :: vs) (Value.ref (s.heap.objs.size + 1) :: us) := .cons rfl r
  have hl : (Value.ref (s.heap.objs.size + 1) :: us ++ []).length = ps.length := by
    have e := r2.length
    rw [F.len _ _ _ _ hq] at e
    rw [List.append_nil]
    exact e.symm
  have hbb := hb _ (Value.ref (s.heap.objs.size + 1) :: us) I2.kIn hl
  rw [List.append_nil] at hbb
  refine wpAny_call (make_map (f := f) I.kIn M.makes M.init (beq_iff_eq.mp M.fn) (codeAny_mono (F.run _ X.stack _ _ ⟨Value.ref (s.heap.objs.size + 1) :: us, []⟩ (Value.ref (s.heap.objs.size + 1) :: us) _ _ (E σ) (hr.make C us [])
    (I2.env0.make C us []) hbb r2 hq) fun r s' hq' => ?_))
  cases r with
  | error e => exact hx pins _ _ e s' I2 hq'
  | ok fl =>
    cases fl with
    | ret u =>
      obtain ⟨v, H', I3, rv, ev, q3⟩ := I2.after hq'
      subst ev
      exact ⟨rv, ⟨V.ref (s.heap.objs.size + 1), H', I3, rfl, q3⟩⟩
    | next => exact False.elim hq'
    | brk => exact False.elim hq'
    | cont => exact False.elim hq'
theorem pe_makeS (M : Mk X.K C f) (F : FnOk X.prog X.w X.K X.mg X.base CX k f fd ps sp) (hr : Room (k + 1) X.A) (hg : Gl X x) (hm : X.mg x = some (.ref C)) (hb : Binds X.K fd ps []) (hx : ∀ σ, PassesAt CX X σ (E σ))
    (ha : PA X (e :: es) t) (hdb : (x == ("__debug__" : Str)) = false := by decide) (he : starEach (e :: es) X.env = (false, eval e X.env) :: starEach es X.env := by rfl) (hpl : (backTo pos (starEach es X.env)).any (·.1) = false := by rfl) :
    PE X (.Call (.Name x p) (e :: es) [] pos) (tMakeS C sp E t) := by
  refine ⟨fun pins s σ H Q I h => ?_⟩
  refine wpAny_Call_Name_kw (ld_glob I hg hm ?_ hdb)
  refine PySem.W.callWith_K (h₀ := X.base) I.ok.mod.kin M.kp (thn (ha.run pos pins s σ H _ I h) fun us s1 ⟨vs, H1, I1, r, q⟩ => ⟨I1.kIn, ?_⟩) he hpl
  exact run_makeS M F hr hb (hx σ) I1 r q
end
end K25

/-! odd things are drawn -/
namespace K25
open PySem PySem.Spec PyProof.Rows L2
def Kept (p : Addr) (H H' : Hp) : Prop := ∀ b o, b ≠ p → H b = some o → H' b = some o
theorem Kept.upd {p : Addr} {H : Hp} {o : HO} : Kept p H (upd H p o) := fun b u n e => by
  rw [upd_ne n]
  exact e
theorem Kept.refl {p : Addr} {H : Hp} : Kept p H H := fun b u n e => e
theorem Kept.trans {p : Addr} {H H1 H2 : Hp} (a : Kept p H H1) (b : Kept p H1 H2) : Kept p H H2 := fun c o n e => b c o n (a c o n e)
theorem Kept.same {p : Addr} {H H1 : Hp} (a : Same H H1) : Kept p H H1 := fun c o _ e => a c o e
theorem Kept.seq {p : Addr} {H H1 : Hp} {K : PySem.W.Frag} {a : Addr} {xs : List V} (k : Kept p H H1) (n : a ≠ p) (h : SqL K H a xs) : SqL K H1 a xs := by
  rcases h with (h | ⟨o, h⟩) | h
  · exact .inl (.inl (k _ _ n h))
  · exact .inl (.inr ⟨o, k _ _ n h⟩)
  · exact .inr h
theorem hand_apart {H : Hp} {p l : Addr} {cells : List Int} {i r t : Int} (h : HandAt H p l cells i r t) : l ≠ p := fun z => by
  have h1 := h.1
  have h2 := h.2.1
  rw [z, h1] at h2
  have h3 := Option.some.inj h2
  injection h3 with h4
  have h5 := congrArg List.head? h4
  cases cells with
  | nil => cases h5
  | cons c cs => cases h5
theorem hand_upd {H : Hp} {p l : Addr} {cells : List Int} {i r t i' r' t' : Int} (h : HandAt H p l cells i r t) (o : HandOk cells i' r' t') : HandAt (upd H p (handO l i' r' t')) p l cells i' r' t' := by
  refine ⟨upd_same, ?_, o⟩
  rw [upd_ne (hand_apart h)]
  exact h.2.1
theorem hand_same {H H' : Hp} {p l : Addr} {cells : List Int} {i r t : Int} (h : HandAt H p l cells i r t) (s : Same H H') : HandAt H' p l cells i r t := ⟨s _ _ h.1, s _ _ h.2.1, h.2.2⟩
theorem callR_or {X : Cx} {f : Value} {r1 r2 : List V → Hp → VK → Prop} (h1 : CallR X f r1) (h2 : CallR X f r2) : CallR X f (fun xs H Q => r1 xs H Q ∨ r2 xs H Q) := fun pins s σ H xs us Q I rv h => h.elim (h1 pins s σ H xs us Q I rv) (h2 pins s σ H xs us Q I rv)
/-- a list's item, or a text's sign -/
def spPick (K : PySem.W.Frag) : Sp := fun vs H Q _ => ∃ (p l : Addr) (cells : List Int) (i r t : Int), HandAt H p l cells i r t ∧
  ((∃ (a : Addr) (xs : List V), vs = [.ref p, .ref a] ∧ SqL K H a xs ∧ a ≠ p ∧ 0 < xs.length ∧ xs.length ≤ 1000 ∧ ∀ (v : V) (i' r' t' : Int), v ∈ xs → HandOk cells i' r' t' → Q v (upd H p (handO l i' r' t'))) ∨
   (∃ z : Str, vs = [.ref p, .str z] ∧ 0 < z.length ∧ z.length ≤ 1000 ∧ ∀ (c : Nat) (i' r' t' : Int), c ∈ z.cps.toList → HandOk cells i' r' t' → Q (.str ⟨#[c]⟩) (upd H p (handO l i' r' t'))))
section
variable {P : Program} {w : World} {K : PySem.W.Frag} {mg : Str → Option Value} {base : Heap}
theorem scPick : FnScope ["_law_hand_here", "_law_things"] ["_law_hand_here", "_law_things"] (defScope sPick) := ⟨rfl, rfl, rfl, by decide +kernel, rfl, by decide +kernel, by decide +kernel⟩
theorem ok_pick {f fD : Addr} {fd fdD : FuncData} (F : FnP K "_law_pick" sPick f fd) (zl : mg "len" = none) (dD : Df P w K mg base "_law_draw" 2 ["_law_hand_here", "_law_many"] spDraw fD fdD) : FnOk P w K mg base CX0 3 f fd ["_law_hand_here", "_law_things"] (spPick K) := by
  refine F.ok scPick (fun vs H Q E h => ?_) (fun cdv A outer s H vs Q E hr h => ?_)
  · obtain ⟨p, l, cells, i, r, t, hh, (⟨a, xs, rfl, _⟩ | ⟨z, rfl, _⟩)⟩ := h <;> rfl
  · obtain ⟨p, l, cells, i, r, t, hh, h⟩ := h
    refine ⟨_, PSs.nox (pss_one (ps_ret (pe_ix ix_seq (pv 1) (pe_call dD.ok hr (by rfl) dD.gl dD.kp dD.bi .nil pass0 (pa_cons (pv 0) (pa_cons (pe_callB (callR_or call_len_seq call_len_str) (by rfl) zl boot_len (pa_cons (pv 1) pa_nil)) pa_nil))) (fun _ _ => rfl)))), ?_⟩
    rcases h with ⟨a, xs, rfl, hS, nap, h0, h1, q⟩ | ⟨z, rfl, h0, h1, q⟩
    · refine ⟨_, rfl, _, rfl, _, rfl, .inl ⟨_, _, rfl, .inl hS, p, l, cells, i, r, t, _, rfl, hh, by omega, ?_, fun d i' r' t' d0 d1 ok' => ?_⟩⟩
      · have e : ((xs.length : Int)).natAbs = xs.length := by omega
        rw [e]
        exact Nat.lt_of_le_of_lt h1 (Nat.lt_of_lt_of_le (m := 2 ^ 20) (by decide) (Nat.pow_le_pow_right (by decide) (by decide)))
      · have hd : d.toNat < xs.length := by omega
        have hget : atI xs d = some xs[d.toNat] := by
          have z := atI_nat (xs := xs) (j := d.toNat) (v := xs[d.toNat]) (List.getElem?_eq_getElem hd)
          rw [Int.toNat_of_nonneg d0] at z
          exact z
        exact .inl ⟨_, _, _, _, rfl, rfl, Kept.upd.seq nap hS, hget, q _ i' r' t' (List.getElem_mem hd) ok'⟩
    · refine ⟨_, rfl, _, rfl, _, rfl, .inr ⟨z, rfl, Nat.le_trans h1 (by decide), p, l, cells, i, r, t, _, rfl, hh, by omega, ?_, fun d i' r' t' d0 d1 ok' => ?_⟩⟩
      · have e : ((z.length : Int)).natAbs = z.length := by omega
        rw [e]
        exact Nat.lt_of_le_of_lt h1 (Nat.lt_of_lt_of_le (m := 2 ^ 20) (by decide) (Nat.pow_le_pow_right (by decide) (by decide)))
      · have hl : z.cps.toList.length = z.length := Array.length_toList
        have hd : d.toNat < z.cps.toList.length := by omega
        have hget : atI z.cps.toList d = some (z.cps.toList[d.toNat]) := by
          have y := atI_nat (xs := z.cps.toList) (j := d.toNat) (v := z.cps.toList[d.toNat]) (List.getElem?_eq_getElem hd)
          rw [Int.toNat_of_nonneg d0] at y
          exact y
        exact .inr (.inr ⟨z, d, _, rfl, rfl, Nat.le_trans h1 (by decide), hget, q _ i' r' t' (List.getElem_mem hd) ok'⟩)
def layS (x : Str) : Prop := (PyData.str x).canLay0 = true
theorem lay_app {x : Str} {c : Nat} (h : layS x) (hc : c < 0x110000) : layS (x ++ ⟨#[c]⟩) := by
  have h1 : x.cps.all (fun c => decide (c < 0x110000)) = true := h
  show (x.cps ++ #[c]).all (fun c => decide (c < 0x110000)) = true
  rw [← Array.all_toList] at h1 ⊢
  rw [Array.toList_append, List.all_append, h1, Bool.true_and]
  show (List.all [c] _) = true
  rw [List.all_cons, decide_eq_true hc]
  rfl
theorem len_app {x : Str} {c : Nat} : (x ++ (⟨#[c]⟩ : Str)).length = x.length + 1 := by
  show (x.cps ++ #[c]).size = x.cps.size + 1
  rw [Array.size_append]
  rfl
theorem small2 {m : Int} (h : m.natAbs < 2 ^ 200) : m.natAbs < 2 ^ 8000 := Nat.lt_of_lt_of_le h (Nat.pow_le_pow_right (by decide) (by decide))
end
end K25

/-! things as data; the hand; written things -/
namespace K25
open PySem PySem.Spec PyProof.Rows L2
mutual
/-- d stands at v, all its objects are in S -/
inductive Dt (S : Addr → Prop) (H : Hp) : V → PyData → Prop
  | non : Dt S H .non .none
  | bl (b : Bool) : Dt S H (.bl b) (.bool b)
  | int (i : Int) : Dt S H (.int i) (.int i)
  | str (x : Str) (hx : x.length ≤ 1000) (hs : (PyData.str x).canLay0 = true) : Dt S H (.str x) (.str x)
  | lst {a : Addr} {xs : List V} {ds : List PyData} : S a → H a = some (.lst xs) → DtAll S H xs ds → Dt S H (.ref a) (.list ds)
  | tup {a : Addr} {xs : List V} {ds : List PyData} : S a → H a = some (.tup xs) → DtAll S H xs ds → Dt S H (.ref a) (.tuple ds)
inductive DtAll (S : Addr → Prop) (H : Hp) : List V → List PyData → Prop
  | nil : DtAll S H [] []
  | cons {v : V} {vs : List V} {d : PyData} {ds : List PyData} : Dt S H v d → DtAll S H vs ds → DtAll S H (v :: vs) (d :: ds)
end
section
variable {S S' : Addr → Prop} {H H' : Hp} {K : PySem.W.Frag}
mutual
theorem Dt.dp {v : V} {d : PyData} (h : Dt S H v d) : Dp K H v d := by
  cases h with
  | non => exact .non
  | bl b => exact .bl b
  | int i => exact .int i
  | str x _ _ => exact .str x
  | lst _ e r => exact .lst (SqL.of e) r.dp
  | tup _ e r => exact .tup (SqT.of e) r.dp
theorem DtAll.dp {vs : List V} {ds : List PyData} (h : DtAll S H vs ds) : DpAll K H vs ds := by
  cases h with
  | nil => exact .nil
  | cons a b => exact .cons a.dp b.dp
end
mutual
/-- carried to another heap -/
theorem Dt.to {v : V} {d : PyData} (h : Dt S H v d) (hS : ∀ a, S a → S' a) (k : ∀ a o, S a → H a = some o → H' a = some o) : Dt S' H' v d := by
  cases h with
  | non => exact .non
  | bl b => exact .bl b
  | int i => exact .int i
  | str x h1 h2 => exact .str x h1 h2
  | lst s e r => exact .lst (hS _ s) (k _ _ s e) (r.to hS k)
  | tup s e r => exact .tup (hS _ s) (k _ _ s e) (r.to hS k)
theorem DtAll.to {vs : List V} {ds : List PyData} (h : DtAll S H vs ds) (hS : ∀ a, S a → S' a) (k : ∀ a o, S a → H a = some o → H' a = some o) : DtAll S' H' vs ds := by
  cases h with
  | nil => exact .nil
  | cons a b => exact .cons (a.to hS k) (b.to hS k)
end
theorem Dt.same {v : V} {d : PyData} (h : Dt S H v d) (s : Same H H') : Dt S H' v d := h.to (fun _ z => z) fun a o _ e => s _ _ e
theorem DtAll.same {vs : List V} {ds : List PyData} (h : DtAll S H vs ds) (s : Same H H') : DtAll S H' vs ds := h.to (fun _ z => z) fun a o _ e => s _ _ e
abbrev Any : Addr → Prop := fun _ => True
theorem Dt.any {v : V} {d : PyData} (h : Dt S H v d) : Dt Any H v d := h.to (fun _ _ => trivial) fun _ _ _ e => e
theorem DtAll.any {vs : List V} {ds : List PyData} (h : DtAll S H vs ds) : DtAll Any H vs ds := h.to (fun _ _ => trivial) fun _ _ _ e => e
/-- another place than p, changed -/
theorem Dt.kept {v : V} {d : PyData} {p : Addr} (h : Dt S H v d) (np : ¬ S p) (k : Kept p H H') : Dt S H' v d := h.to (fun _ z => z) fun a o s e => k _ _ (fun z => np (z ▸ s)) e
theorem DtAll.kept {vs : List V} {ds : List PyData} {p : Addr} (h : DtAll S H vs ds) (np : ¬ S p) (k : Kept p H H') : DtAll S H' vs ds := h.to (fun _ z => z) fun a o s e => k _ _ (fun z => np (z ▸ s)) e
theorem DtAll.len {vs : List V} {ds : List PyData} (h : DtAll S H vs ds) : vs.length = ds.length := by
  induction ds generalizing vs with
  | nil => cases h; rfl
  | cons d ds ih => cases h with | cons a b => exact congrArg Nat.succ (ih b)
theorem DtAll.get {vs : List V} {ds : List PyData} (h : DtAll S H vs ds) {i : Nat} {v : V} (e : vs[i]? = some v) : ∃ d, ds[i]? = some d ∧ Dt S H v d := by
  induction ds generalizing vs i with
  | nil => cases h; cases e
  | cons d ds ih =>
    cases h with
    | cons a b =>
      cases i with
      | zero => cases e; exact ⟨d, rfl, a⟩
      | succ i => exact ih b e
theorem DtAll.app {vs us : List V} {ds es : List PyData} (h : DtAll S H vs ds) (g : DtAll S H us es) : DtAll S H (vs ++ us) (ds ++ es) := by
  induction ds generalizing vs with
  | nil => cases h; exact g
  | cons d ds ih => cases h with | cons a b => exact .cons a (ih b)
theorem DtAll.take {vs : List V} {ds : List PyData} (h : DtAll S H vs ds) (n : Nat) : DtAll S H (vs.take n) (ds.take n) := by
  induction ds generalizing vs n with
  | nil => cases h; cases n <;> exact .nil
  | cons d ds ih =>
    cases h with
    | cons a b =>
      cases n with
      | zero => exact .nil
      | succ n => exact .cons a (ih b n)
theorem DtAll.drop {vs : List V} {ds : List PyData} (h : DtAll S H vs ds) (n : Nat) : DtAll S H (vs.drop n) (ds.drop n) := by
  induction ds generalizing vs n with
  | nil => cases h; cases n <;> exact .nil
  | cons d ds ih =>
    cases h with
    | cons a b =>
      cases n with
      | zero => exact .cons a b
      | succ n => exact ih b n
def tyD : PyData → String
  | .none => "NoneType"
  | .bool _ => "bool"
  | .int _ => "int"
  | .str _ => "str"
  | .list _ => "list"
  | .tuple _ => "tuple"
  | .dict _ => "dict"
theorem Dt.odd {v : V} {d : PyData} (h : Dt S H v d) : Odd H v (tyD d) := by
  cases h with
  | non => exact .non
  | bl b => exact .bl b
  | int i => exact .int i
  | str x h1 h2 => exact .str x h1 h2
  | lst _ e r => exact .lst e
  | tup _ e r => exact .tup e
end
section
variable {S : Addr → Prop} {H : Hp}
mutual
theorem Dt.lay {v : V} {d : PyData} (h : Dt S H v d) : d.canLay0 = true := by
  cases h with
  | non => rfl
  | bl b => rfl
  | int i => rfl
  | str x h1 h2 => exact h2
  | lst s e r => exact r.lay
  | tup s e r => exact r.lay
theorem DtAll.lay {vs : List V} {ds : List PyData} (h : DtAll S H vs ds) : PyData.canLayAll0 ds = true := by
  cases h with
  | nil => rfl
  | cons a b => exact Bool.and_eq_true_iff.mpr ⟨a.lay, b.lay⟩
end
end
theorem shaped_of {d : PyData} (h : d.canLay0 = true) (k : d.depth ≤ 64) : SeqAt.shaped d = true := Bool.and_eq_true_iff.mpr ⟨h, decide_eq_true k⟩
/-- the hand stands at p -/
def Hand (p l : Addr) (H : Hp) : Prop := ∃ (cells : List Int) (i r t : Int), HandAt H p l cells i r t
theorem Hand.same {p l : Addr} {H H' : Hp} (h : Hand p l H) (s : Same H H') : Hand p l H' := by
  obtain ⟨cells, i, r, t, h⟩ := h
  exact ⟨cells, i, r, t, hand_same h s⟩
theorem Hand.at_ {p l : Addr} {H : Hp} (h : Hand p l H) : ∃ xs, H p = some (.lst xs) := by
  obtain ⟨cells, i, r, t, h⟩ := h
  exact ⟨_, h.1⟩
theorem Hand.nn {p l : Addr} {H : Hp} (h : Hand p l H) {a : Addr} (n : H a = none) : a ≠ p := fun z => by
  obtain ⟨xs, e⟩ := h.at_
  rw [z, e] at n
  cases n
theorem Hand.app {p l a : Addr} {H : Hp} {o : HO} (h : Hand p l H) (n1 : a ≠ p) (n2 : a ≠ l) : Hand p l (upd H a o) := by
  obtain ⟨cells, i, r, t, h⟩ := h
  exact ⟨cells, i, r, t, (upd_ne (Ne.symm n1)).trans h.1, (upd_ne (Ne.symm n2)).trans h.2.1, h.2.2⟩
theorem Hand.nl {p l : Addr} {H : Hp} (h : Hand p l H) {a : Addr} (n : H a = none) : a ≠ l := fun z => by
  obtain ⟨cells, i, r, t, h⟩ := h
  rw [z, h.2.1] at n
  cases n
theorem Hand.back {p l : Addr} {H H' : Hp} (h : Hand p l H') (k : Kept p H H') {a : Addr} (n : H' a = none) : H a = none := by
  cases e : H a with
  | none => rfl
  | some o =>
    have z := k _ _ (h.nn n) e
    rw [n] at z
    cases z
abbrev New (H : Hp) : Addr → Prop := fun a => H a = none
theorem Dt.newer {H H1 H' : Hp} {v : V} {d : PyData} {p l : Addr} (h : Dt (New H1) H' v d) (hp : Hand p l H1) (k : Kept p H H1) : Dt (New H) H' v d := h.to (fun a n => hp.back k n) fun _ _ _ e => e
theorem Dt.new_kept {H H1 H' : Hp} {v : V} {d : PyData} {p l : Addr} (h : Dt (New H) H1 v d) (hp : Hand p l H) (k : Kept p H1 H') : Dt (New H) H' v d := h.kept (fun n => (hp.nn n) rfl) k
theorem DtAll.newer {H H1 H' : Hp} {v : List V} {d : List PyData} {p l : Addr} (h : DtAll (New H1) H' v d) (hp : Hand p l H1) (k : Kept p H H1) : DtAll (New H) H' v d := h.to (fun a n => hp.back k n) fun _ _ _ e => e
theorem DtAll.new_kept {H H1 H' : Hp} {v : List V} {d : List PyData} {p l : Addr} (h : DtAll (New H) H1 v d) (hp : Hand p l H) (k : Kept p H1 H') : DtAll (New H) H' v d := h.kept (fun n => (hp.nn n) rfl) k
def spDr : Sp := fun vs H Q _ => ∃ (p l : Addr) (m : Int), vs = [.ref p, .int m] ∧ Hand p l H ∧ 0 < m ∧ m.natAbs < 2 ^ 200 ∧ ∀ (d : Int) (H' : Hp), 0 ≤ d → d < m → Kept p H H' → Hand p l H' → Q (.int d) H'
def spPk : Sp := fun vs H Q _ => ∃ (p l a : Addr) (xs : List V), vs = [.ref p, .ref a] ∧ Hand p l H ∧ H a = some (.lst xs) ∧ a ≠ p ∧ 0 < xs.length ∧ xs.length ≤ 1000 ∧ ∀ (v : V) (H' : Hp), v ∈ xs → Kept p H H' → Hand p l H' → Q v H'
section
variable {P : Program} {w : World} {K : PySem.W.Frag} {mg : Str → Option Value} {base : Heap}
theorem Df.draw {f : Addr} {fd : FuncData} (d : Df P w K mg base "_law_draw" 2 ["_law_hand_here", "_law_many"] spDraw f fd) : Df P w K mg base "_law_draw" 2 ["_law_hand_here", "_law_many"] spDr f fd :=
  ⟨d.gl, d.ok.imp fun vs H Q E ⟨p, l, m, e, ⟨cells, i, r, t, h⟩, h0, h1, q⟩ => ⟨p, l, cells, i, r, t, m, e, h, h0, small2 h1, fun d i' r' t' d0 d1 ok => q _ _ d0 d1 Kept.upd ⟨cells, i', r', t', hand_upd h ok⟩⟩, d.bi, d.kp⟩
theorem Df.pick {f : Addr} {fd : FuncData} (d : Df P w K mg base "_law_pick" 3 ["_law_hand_here", "_law_things"] (spPick K) f fd) : Df P w K mg base "_law_pick" 3 ["_law_hand_here", "_law_things"] spPk f fd :=
  ⟨d.gl, d.ok.imp fun vs H Q E ⟨p, l, a, xs, e, ⟨cells, i, r, t, h⟩, ha, nap, h0, h1, q⟩ => ⟨p, l, cells, i, r, t, h, .inl ⟨a, xs, e, SqL.of ha, nap, h0, h1, fun v i' r' t' hv ok => q _ _ hv Kept.upd ⟨cells, i', r', t', hand_upd h ok⟩⟩⟩, d.bi, d.kp⟩
end
/-! ### written things -/
def DtE (t : TE) (d : PyData) : Prop := ∀ (σ : L2.St) (H : Hp) (Q : VK), (∀ v H', Same H H' → Dt (New H) H' v d → Q v H') → t σ H Q
def DtA (t : TA) (ds : List PyData) : Prop := ∀ (σ : L2.St) (H : Hp) (Q : List V → Hp → Prop), (∀ vs H', Same H H' → DtAll (New H) H' vs ds → Q vs H') → t σ H Q
theorem deN : DtE (tC .non) .none := fun σ H Q q => q _ _ (Same.refl _) .non
theorem deB {b : Bool} : DtE (tC (.bl b)) (.bool b) := fun σ H Q q => q _ _ (Same.refl _) (.bl b)
theorem deI {i : Int} : DtE (tC (.int i)) (.int i) := fun σ H Q q => q _ _ (Same.refl _) (.int i)
def okS (x : Str) : Bool := decide (x.length ≤ 1000) && (PyData.str x).canLay0
theorem okS_dt {S : Addr → Prop} {H : Hp} {x : Str} (h : okS x = true) : Dt S H (.str x) (.str x) := by
  obtain ⟨a, b⟩ := Bool.and_eq_true_iff.mp h
  exact .str x (of_decide_eq_true a) b
theorem deS {x : Str} (h : okS x = true) : DtE (tC (.str x)) (.str x) := fun σ H Q q => q _ _ (Same.refl _) (okS_dt h)
theorem deU {i : Int} : DtE (tUn (rU fun i => .int (-i)) (tC (.int i))) (.int (-i)) := fun σ H Q q => ⟨i, rfl, q _ _ (Same.refl _) (.int _)⟩
theorem deP {i j : Int} (h : 0 ≤ j ∧ j ≤ 1000000 ∧ i.natAbs < 2 ^ 64) : DtE (tOp (rI CPow fun i j => .int (i ^ j.toNat)) (tC (.int i)) (tC (.int j))) (.int (i ^ j.toNat)) := fun σ H Q q => ⟨_, _, rfl, rfl, h, q _ _ (Same.refl _) (.int _)⟩
theorem dePA {i j k : Int} (h : 0 ≤ j ∧ j ≤ 1000000 ∧ i.natAbs < 2 ^ 64) : DtE (tOp (rI0 fun i j => .int (i + j)) (tOp (rI CPow fun i j => .int (i ^ j.toNat)) (tC (.int i)) (tC (.int j))) (tC (.int k))) (.int (i ^ j.toNat + k)) := fun σ H Q q => ⟨_, _, rfl, rfl, h, _, _, rfl, rfl, q _ _ (Same.refl _) (.int _)⟩
theorem daN : DtA tNil [] := fun σ H Q q => q [] H (Same.refl _) .nil
theorem Dt.from {H H1 H2 : Hp} {v : V} {d : PyData} (h : Dt (New H1) H2 v d) (s : Same H H1) : Dt (New H) H2 v d := h.to (fun a n => none_of s n) fun _ _ _ e => e
theorem DtAll.from {H H1 H2 : Hp} {v : List V} {d : List PyData} (h : DtAll (New H1) H2 v d) (s : Same H H1) : DtAll (New H) H2 v d := h.to (fun a n => none_of s n) fun _ _ _ e => e
theorem daK {t : TE} {d : PyData} {ta : TA} {ds : List PyData} (h : DtE t d) (r : DtA ta ds) : DtA (tCons t ta) (d :: ds) := fun σ H Q q => h σ H _ fun v H1 s1 h1 => r σ H1 _ fun vs H2 s2 h2 => q _ _ (s1.trans s2) (.cons (h1.same s2) (h2.from s1))
theorem deL {t : TA} {ds : List PyData} (h : DtA t ds) (hl : ds.length ≤ 1000) : DtE (tLst t) (.list ds) := fun σ H Q q => h σ H _ fun vs H1 s1 h1 => ⟨by rw [h1.len]; exact Nat.le_trans hl (by decide), fun p np => q _ _ (s1.trans (same_upd np)) (.lst (none_of s1 np) upd_same (h1.same (same_upd np)))⟩
theorem deT {t : TA} {ds : List PyData} (h : DtA t ds) (hl : ds.length ≤ 1000) : DtE (tTup t) (.tuple ds) := fun σ H Q q => h σ H _ fun vs H1 s1 h1 => ⟨by rw [h1.len]; exact Nat.le_trans hl (by decide), fun p np => q _ _ (s1.trans (same_upd np)) (.tup (none_of s1 np) upd_same (h1.same (same_upd np)))⟩
theorem DtAll.mem {S : Addr → Prop} {H : Hp} {vs : List V} {ds : List PyData} (h : DtAll S H vs ds) {v : V} (hv : v ∈ vs) : ∃ d ∈ ds, Dt S H v d := by
  obtain ⟨i, hi, e⟩ := List.mem_iff_getElem.mp hv
  obtain ⟨d, ed, hd⟩ := h.get (i := i) (v := v) (by rw [List.getElem?_eq_getElem hi, e])
  exact ⟨d, List.mem_of_getElem? ed, hd⟩
/-- one of a written list is picked -/
theorem pick_menu {j : Nat} {p l : Addr} {tl : TE} {ds : List PyData} {σ : L2.St} {H : Hp} {Q : VK} (e : σ[j]? = some (some (.ref p))) (hp : Hand p l H) (hl : DtE tl (.list ds)) (h0 : 0 < ds.length) (h1 : ds.length ≤ 1000)
    (q : ∀ v d H', d ∈ ds → Dt (New H) H' v d → Kept p H H' → Hand p l H' → Q v H') : tCall spPk [] E0 (tCons (tVar j) (tCons tl tNil)) σ H Q := by
  refine ⟨_, e, hl σ H _ fun v H1 s1 hd => ?_⟩
  cases hd with
  | @lst a xs _ na ea hx =>
    have el := hx.len
    refine ⟨p, l, a, xs, rfl, hp.same s1, ea, hp.nn na, by omega, by omega, fun v H2 hv k h2 => ?_⟩
    obtain ⟨d, hd, hvd⟩ := hx.mem hv
    exact q v d H2 hd (hvd.new_kept hp k) ((Kept.same s1).trans k) h2
end K25

/-! d.get(None), d with ints or with pairs of ints for keys -/
namespace K25
open PySem PySem.Spec PyProof.Rows L2
section
variable {prog : Program} {w : World} {A : Around} {E : Value → Shared → Prop} {s : Shared}
/-- a stored key that is quiet and not None -/
def NotNone (prog : Program) (w : World) (A : Around) (s : Shared) (v : Value) : Prop :=
  carriedByValue v = false ∧ (∀ (E : Value → Shared → Prop) (Q : Bool → Shared → Prop), Q true s → wpAny (model prog w) A (eqIsQuiet 8 v) Q E s) ∧ SeqAt.EqAt A s v .none false
theorem tells_none {stored : List Value} {Q : Bool → Shared → Prop} (hk : ∀ v ∈ stored, NotNone prog w A s v) (h : Q false s) : wpAny (model prog w) A (tableMayTell .none stored) Q E s := by
  unfold tableMayTell
  split
  · exact wpAny_pure h
  · refine wpAny_bind ?_
    show wpAny _ _ (pure true) _ _ _
    refine wpAny_pure ?_
    simp only [Bool.not_true, Bool.false_eq_true, if_false]
    refine wpAny_bind (wpAny_forIn_list _ (fun rest r s' => s' = s ∧ r = (none, ()) ∧ ∀ v ∈ rest, v ∈ stored) _ ?_ ?_ _ _ ⟨rfl, rfl, fun v hv => hv⟩)
    · rintro x rest r s' ⟨rfl, rfl, hr⟩
      refine wpAny_bind ((hk x (hr x List.mem_cons_self)).2.1 _ _ ?_)
      simp only [Bool.not_true, Bool.false_eq_true, if_false]
      exact wpAny_pure ⟨rfl, rfl, fun v hv => hr v (List.mem_cons_of_mem _ hv)⟩
    · rintro r s' ⟨rfl, rfl, _⟩
      exact wpAny_pure h
theorem find_none {d : Addr} {o : Obj} {es : Array DictEntry} {ep : Nat} {hs : Int} {Q : Option Nat → Shared → Prop} (ho : s.heap.get? d = some o) (hd : o.data = .dict es ep) (hk : ∀ e ∈ es, NotNone prog w A s e.key) (h : Q none s) :
    wpAny (model prog w) A (dictFind d .none hs) Q E s := by
  have hst : ∀ v ∈ (placesWithHash es.size (fun i => es[i]?.map (·.hash)) hs).filterMap (fun i => es[i]?.map (·.key)), NotNone prog w A s v := by
    intro v hv
    obtain ⟨i, _, hi⟩ := List.mem_filterMap.mp hv
    cases hei : es[i]? with
    | none => rw [hei] at hi; cases hi
    | some e =>
      rw [hei] at hi
      obtain rfl : e.key = v := by simpa using hi
      exact hk e (Array.mem_of_getElem? hei)
  have hpl : ∀ i ∈ placesWithHash es.size (fun i => es[i]?.map (·.hash)) hs, ∃ e, es[i]? = some e ∧ e.hash = hs := by
    intro i hi
    have z : ((es[i]?.map (·.hash)) == some hs) = true := by
      unfold placesWithHash at hi
      exact (List.mem_filter.mp hi).2
    cases hei : es[i]? with
    | none => rw [hei] at z; cases z
    | some e =>
      rw [hei] at z
      exact ⟨e, rfl, by simpa using z⟩
  unfold dictFind
  try with_reducible refine wpAny_holding ?_
  refine wpAny_bind (wpAny_dictEntries ho hd ?_)
  dsimp only
  generalize placesWithHash es.size (fun i => es[i]?.map (·.hash)) hs = places at hst hpl ⊢
  by_cases hall : ((Value.none :: places.filterMap (fun i => es[i]?.map (·.key))).all carriedByValue) = true
  · rw [if_pos hall]
    have emp : places = [] := by
      cases hp : places with
      | nil => rfl
      | cons i rest =>
        exfalso
        obtain ⟨e, he, _⟩ := hpl i (by rw [hp]; exact List.mem_cons_self)
        have hm : e.key ∈ places.filterMap (fun i => es[i]?.map (·.key)) := List.mem_filterMap.mpr ⟨i, by rw [hp]; exact List.mem_cons_self, by rw [he]; rfl⟩
        have c := List.all_eq_true.mp hall e.key (List.mem_cons_of_mem _ hm)
        rw [(hst _ hm).1] at c
        cases c
    rw [emp]
    unfold dictWalkPlain
    exact wpAny_bind (wpAny_pure (wpAny_bind (wpAny_pure (wpAny_pure h))))
  · rw [if_neg hall]
    by_cases hone : (places.filterMap (fun i => es[i]?.map (·.key)) == [Value.none]) = true <;>
    (first | rw [if_pos hone] | rw [if_neg hone]) <;> (first | refine wpAny_bind (wpAny_pure ?_) | refine wpAny_bind (tells_none hst ?_)) <;> (
      rw [if_neg (by simp)]
      refine wpAny_bind (wpAny_forIn_list _ (fun rest b s' => s' = s ∧ b = (none, none) ∧ ∀ i ∈ rest, i ∈ places) _ ?_ ?_ _ _ ⟨rfl, rfl, fun i hi => hi⟩)
      · rintro i rest b s' ⟨rfl, rfl, hr⟩
        obtain ⟨e, he, eh⟩ := hpl i (hr i List.mem_cons_self)
        have hn := hk e (Array.mem_of_getElem? he)
        rw [he]
        dsimp only
        rw [if_pos (by rw [eh]; simp)]
        refine wpAny_bind (wpAny_dictEpoch ho hd (wpAny_bind (hn.2.2 _ _ _ _ (wpAny_bind (wpAny_dictEpoch ho hd ?_)))))
        show wpAny _ _ (if (ep != ep) = true then _ else _) _ E _
        rw [if_neg (by simp)]
        simp only [Bool.false_eq_true, if_false, Bool.false_and]
        exact wpAny_bind (wpAny_rule (wpAny_pure ⟨rfl, rfl, fun j hj => hr j (List.mem_cons_of_mem _ hj)⟩))
      · rintro b s' ⟨rfl, rfl, _⟩
        exact wpAny_pure h)
/-- what is told of None -/
theorem meets_getNone {d : Addr} (hd : (d == sysModules) = false) :
    MeetsIn prog w (Builtin.«dict.get» ⟨[.ref d, .none], []⟩) (fun A R s => (∃ o es ep, s.heap.get? d = some o ∧ o.data = .dict es ep ∧ ∀ e ∈ es, ∀ s', s'.heap = s.heap → NotNone prog w A.in1 s' e.key) ∧ ∀ t, R (.ok (.ret .none)) { s with toks := t }) :=
  .of_wp fun A R s ⟨⟨o, es, ep, ho, hdt, hk⟩, h⟩ => by
    show wpAny _ _ (dictGet d .none >>= _) _ _ s
    unfold dictGet
    try with_reducible refine wpAny_bind (wpAny_holding ?_)
    refine wpAny_bind (PySem.W.pyHash_slot (T := "NoneType") rfl PySem.F.slot_NoneType_hash PySem.F.entry_NoneType_hash (PySem.F.args_NoneType_hash_1 _) (beq_builtin_none _) (.inl rfl) (wpAny_bind (wpAny_pure (wpAny_bind (wpAny_mkInt (wpAny_pure ⟨_, _, rfl, ?_⟩))))))
    refine wpAny_bind (find_none (s := { s with toks := s.toks + 1 }) ho hdt (fun e he => hk e he _ rfl) (wpAny_pure ?_))
    dsimp only
    show wpAny _ _ (Builtin.Dict.missed d .none >>= _) _ _ _
    exact wpAny_bind (wpAny_missed_other hd (wpAny_pure ⟨.none, rfl, h _⟩))
end
section
variable {X : Cx} {pins : List (Addr × Obj)} {σ : L2.St} {H : Hp} {s : Shared} {a : Addr} {A : Around} {E : Value → Shared → Prop}
/-- the keys of d, as pairs of whole numbers -/
def Pairs (kvs : List (List Key × V)) : Prop := ∀ kv ∈ kvs, ∃ x y : Int, kv.1 = [Sum.inl x, Sum.inl y]
theorem paired_mem {α β : Type} {R : α → β → Prop} : ∀ {l : List α} {m : List β}, Paired R l m → ∀ y ∈ m, ∃ x ∈ l, R x y
  | _, _, .nil, y, h => by cases h
  | _, _, .cons r t, y, h => by
    rcases List.mem_cons.mp h with rfl | h
    · exact ⟨_, List.mem_cons_self, r⟩
    · obtain ⟨x, hx, rx⟩ := paired_mem t y h
      exact ⟨x, List.mem_cons_of_mem _ hx, rx⟩
theorem getNone_run {Q : Value → Shared → Prop} (hu : A.units + 64 < cLine) (I : Inv X pins σ H s) (g : (∃ kvs, Rd H a (.dK kvs)) ∨ ∃ kvs, Rd H a (.dT kvs) ∧ Pairs kvs) (h : ∀ s', Inv X pins σ H s' → Q .none s') :
    wpAny (model X.prog X.w) A (call (.builtin "dict.get") [.ref a, .none]) Q E s := by
  rcases g with ⟨kvs, e⟩ | ⟨kvs, e, hp⟩
  · obtain ⟨_, hd, vs, _, dd⟩ := dk_rd I.hok e
    obtain ⟨f, hm, hf⟩ := none_map dd
    have kn : (noneKind X.prog X.w).is none .none = true := rfl
    refine call_meetsIn PySem.F.slot_dict_get dd.typeIs PySem.F.entry_dict_get (PySem.F.args_dict_get_2 _ _) (meets_dict_get (noneKind X.prog X.w) a kn hd) ⟨f, hm, ?_⟩
    rw [hf]
    exact h _ (I.tok _)
  · obtain ⟨_, hd, xs, rel, dd⟩ := dt_rd I.hok e
    have ty := dd.typeIs
    obtain ⟨o, es, ep, ho, _, hdt, he, his, _⟩ := dd
    refine call_meetsIn PySem.F.slot_dict_get ty PySem.F.entry_dict_get (PySem.F.args_dict_get_2 _ _) (meets_getNone hd) ⟨⟨o, es, ep, ho, hdt, fun en hen s' hs' => ?_⟩, fun t => h _ (I.tok _)⟩
    have hm : en ∈ xs.map (entryOfKey (tupleKind (mixKind X.prog X.w))) := he ▸ Array.mem_toList_iff.mpr hen
    obtain ⟨x, hx, rfl⟩ := List.mem_map.mp hm
    obtain ⟨kv, hkv, r1, r2, _⟩ := paired_mem rel x hx
    obtain ⟨i, j, ek⟩ := hp kv hkv
    have ht : H x.2.1 = some (.tup [.int i, .int j]) := by
      have z := r2
      first | (rw [ek] at z; exact z) | (rw [← r1, ek] at z; exact z)
    have d : Dp X.K H (.ref x.2.1) (.tuple [.int i, .int j]) := .tup (SqT.of ht) (.cons (.int i) (.cons (.int j) .nil))
    obtain ⟨as, rd⟩ := Dp.reads I _ _ (.ref x.2.1) d rfl
    obtain ⟨bs, rn⟩ := Dp.reads I .none .non .none .non rfl
    have key := his x hx
    refine ⟨rfl, fun E' Q' q => ?_, ?_⟩
    · refine (tupleKind (mixKind X.prog X.w)).quiet (k := x.1) ?_ q
      rw [hs']
      exact key
    · have z := SeqAt.eqAt_reads (.tuple [.int i, .int j]) .none A.in1 s' (.ref x.2.1) .none as bs (by rw [hs']; exact rd) (by rw [hs']; exact rn) rfl rfl (by
        show A.in1.units + min _ _ < cLine
        have e1 : A.in1.units = A.units + 1 := rfl
        have e2 : min (PyData.tuple [.int i, .int j]).depth PyData.none.depth ≤ (PyData.tuple [.int i, .int j]).depth := Nat.min_le_left _ _
        have e3 : (PyData.tuple [.int i, .int j]).depth = 1 := rfl
        omega)
      exact z
/-- d.get(x), x among the keys or None -/
def tGetN (td ty : TE) : TE := fun σ H Q => td σ H fun x H1 => ∃ a, x = .ref a ∧ IsD H1 a ∧ ty σ H1 fun y H2 =>
  (∃ o, DGet H2 a y o ∧ Q (o.getD .non) H2) ∨ (y = .non ∧ ((∃ kvs, Rd H2 a (.dK kvs)) ∨ ∃ kvs, Rd H2 a (.dT kvs) ∧ Pairs kvs) ∧ Q .non H2)
theorem pe_getN {o e : Expr} {apos cpos : Pos} {td ty : TE} (hu : X.A.units + 64 < cLine) (ho : PE X o td) (he : PE X e ty) (m : M1 X o "get" apos e cpos) : PE X (.Call (.Attribute o "get" apos) [e] [] cpos) (tGetN td ty) := by
  constructor
  intro pins s σ H Q I h
  refine wpAny_Call_method m.base m.few m.line PySem.F.plainAttrs_dict PySem.F.slot_dict_get PySem.F.type_dict_get (thn (ho.run pins s σ H _ I h) ?_)
  rintro u s1 ⟨x, H1, I1, rx, a, rfl, d, q1⟩
  cases rx
  obtain ⟨t1, t2, _⟩ := isD_at I1 d
  refine ⟨t1, t2, ?_⟩
  rw [m.trees]
  refine Calls.callWith_builtin rfl (Calls.evalArgs_plain (Calls.spliced_cons (thn (he.run pins s1 σ H1 _ I1 q1) ?_)))
  rintro iv s2 ⟨y, H2, I2, ry, ⟨ov, g, q2⟩ | ⟨rfl, g, q2⟩⟩
  · refine Calls.spliced_nil ?_
    exact d_get1 (by omega) I2 g ry fun w' s3 I3 rw' => ⟨_, H2, I3, rw', q2⟩
  · refine Calls.spliced_nil ?_
    cases ry
    exact getNone_run hu I2 g fun s3 I3 => ⟨V.non, H2, I3, rfl, q2⟩
end
end K25

/-! entries as values; a pattern, as it stands; numbers in a dict -/
namespace K25
open PySem PySem.Spec PyProof.Rows L2
def optV : Option Nat → V
  | none => .non
  | some n => .int (n : Int)
abbrev vals (p : List (Option Nat)) : List V := p.map optV
theorem optV_inj {a b : Option Nat} (h : optV a = optV b) : a = b := by
  cases a with
  | none => cases b with
    | none => rfl
    | some n => cases h
  | some m => cases b with
    | none => cases h
    | some n =>
      have := V.int.inj h
      rw [show m = n by omega]
theorem vals_inj {p q : List (Option Nat)} (h : vals p = vals q) : p = q := (List.map_inj_right fun _ _ z => optV_inj z).mp h
theorem vals_get {p : List (Option Nat)} {i : Nat} : (vals p)[i]? = (p[i]?).map optV := List.getElem?_map ..
theorem vals_app (p q : List (Option Nat)) : vals (p ++ q) = vals p ++ vals q := List.map_append
theorem fl_opt (o : Option Nat) : Fl (optV o) := by
  cases o with
  | none => exact .non
  | some n => exact .int _
theorem fl_vals {p : List (Option Nat)} : ∀ v ∈ vals p, Fl v := fun v hv => by
  obtain ⟨o, _, rfl⟩ := List.mem_map.mp hv
  exact fl_opt o
def datO : Option Nat → PyData
  | none => .none
  | some n => .int (n : Int)
theorem dt_opt {S : Addr → Prop} {H : Hp} (o : Option Nat) : Dt S H (optV o) (datO o) := by
  cases o with
  | none => exact .non
  | some n => exact .int _
theorem dt_vals {S : Addr → Prop} {H : Hp} : ∀ p : List (Option Nat), DtAll S H (vals p) (p.map datO)
  | [] => .nil
  | o :: p => .cons (dt_opt o) (dt_vals p)
theorem stepE_some {c k : Nat} : stepE c (optV (some k)) = if c < k then none else if k = c then some (c + 1) else some c := by
  show (if (k : Int) < 0 then none else if (c : Int) < (k : Int) then none else if (k : Int) = (c : Int) then some (c + 1) else some c) = _
  rw [if_neg (by omega)]
  by_cases h : c < k
  · rw [if_pos (by omega), if_pos h]
  · rw [if_neg (by omega), if_neg h]
    by_cases h2 : k = c
    · rw [if_pos (by omega), if_pos h2]
    · rw [if_neg (by omega), if_neg h2]
/-- what is counted is numbered -/
theorem cnt_numA : ∀ {p : List (Option Nat)} {c c' : Nat}, cnt c (vals p) = some c' → numA (List.range c) p = p
  | [], _, _, _ => rfl
  | none :: p, c, c', h => congrArg (List.cons none) (cnt_numA (p := p) h)
  | some k :: p, c, c', h => by
    have h : (match stepE c (optV (some k)) with | some d => cnt d (vals p) | none => none) = some c' := h
    rw [stepE_some] at h
    by_cases h1 : c < k
    · rw [if_pos h1] at h; cases h
    rw [if_neg h1] at h
    unfold numA
    by_cases h2 : k = c
    · rw [if_pos h2] at h
      subst h2
      have z := cnt_numA h
      rw [List.range_succ] at z
      rw [if_neg (by rw [List.mem_range]; omega), List.length_range, z]
    · rw [if_neg h2] at h
      have hk : k ∈ List.range c := List.mem_range.mpr (by omega)
      have e : (List.range c).idxOf k = k := by
        have z := idx_of hk
        obtain ⟨hl, e⟩ := List.getElem?_eq_some_iff.mp z
        rw [List.getElem_range] at e
        exact e
      rw [if_pos hk, e, cnt_numA h]
theorem pt_of_cnt {p : List (Option Nat)} {c : Nat} (h : cnt 0 (vals p) = some c) : Pt p := cnt_numA (c := 0) h
/-- numbers are counted: how many there are -/
theorem cnt_of_numA {α : Type} [DecidableEq α] : ∀ (l : List (Option α)) (met : List α), met.Nodup → ∃ c', cnt met.length (vals (numA met l)) = some c' ∧ met.length ≤ c' ∧ ∀ k, (k < met.length ∨ ∃ i : Nat, (numA met l)[i]? = some (some k)) ↔ k < c'
  | [], met, _ => ⟨met.length, rfl, Nat.le_refl _, fun k => ⟨fun h => h.elim id fun ⟨i, e⟩ => (by cases e), .inl⟩⟩
  | none :: r, met, nd => by
    obtain ⟨c', h1, h2, h3⟩ := cnt_of_numA r met nd
    refine ⟨c', h1, h2, fun k => (h3 k).symm.trans (or_congr Iff.rfl ?_) |>.symm⟩
    exact ⟨fun ⟨i, e⟩ => ⟨i + 1, e⟩, fun ⟨i, e⟩ => by
      cases i with
      | zero => cases e
      | succ i => exact ⟨i, e⟩⟩
  | some x :: r, met, nd => by
    unfold numA
    by_cases hx : x ∈ met
    · rw [if_pos hx]
      obtain ⟨c', h1, h2, h3⟩ := cnt_of_numA r met nd
      have il := List.idxOf_lt_length_of_mem hx
      refine ⟨c', ?_, h2, fun k => ?_⟩
      · show (match stepE met.length (optV (some (met.idxOf x))) with | some d => cnt d (vals (numA met r)) | none => none) = some c'
        rw [stepE_some, if_neg (by omega), if_neg (by omega)]
        exact h1
      · rw [← h3 k]
        constructor
        · rintro (h | ⟨i, e⟩)
          · exact .inl h
          · cases i with
            | zero => cases e; exact .inl il
            | succ i => exact .inr ⟨i, e⟩
        · rintro (h | ⟨i, e⟩)
          · exact .inl h
          · exact .inr ⟨i + 1, e⟩
    · rw [if_neg hx]
      have nd2 : (met ++ [x]).Nodup := by
        rw [List.nodup_append]
        refine ⟨nd, by simp, fun a ha b hb => ?_⟩
        rw [List.mem_singleton.mp hb]
        exact fun z => hx (z ▸ ha)
      obtain ⟨c', h1, h2, h3⟩ := cnt_of_numA r (met ++ [x]) nd2
      have el : (met ++ [x]).length = met.length + 1 := by simp
      rw [el] at h1 h2 h3
      refine ⟨c', ?_, by omega, fun k => ?_⟩
      · show (match stepE met.length (optV (some met.length)) with | some d => cnt d (vals (numA (met ++ [x]) r)) | none => none) = some c'
        rw [stepE_some, if_neg (Nat.lt_irrefl _), if_pos rfl]
        exact h1
      · rw [← h3 k]
        constructor
        · rintro (h | ⟨i, e⟩)
          · exact .inl (by omega)
          · cases i with
            | zero => cases e; exact .inl (by omega)
            | succ i => exact .inr ⟨i, e⟩
        · rintro (h | ⟨i, e⟩)
          · rcases Nat.lt_succ_iff_lt_or_eq.mp h with h | rfl
            · exact .inl h
            · exact .inr ⟨0, rfl⟩
          · exact .inr ⟨i + 1, e⟩
theorem cnt_num {α : Type} [DecidableEq α] (l : List (Option α)) : ∃ c, cnt 0 (vals (num l)) = some c := by
  obtain ⟨c, h, _⟩ := cnt_of_numA l [] List.nodup_nil
  exact ⟨c, h⟩
theorem Pt.cnt {p : List (Option Nat)} (h : Pt p) : ∃ c, K25.cnt 0 (vals p) = some c := by
  obtain ⟨c, e⟩ := cnt_num p
  rw [h] at e
  exact ⟨c, e⟩
theorem Pt.classes {p : List (Option Nat)} {c : Nat} (h : Pt p) (e : K25.cnt 0 (vals p) = some c) : ∀ k, (∃ i : Nat, p[i]? = some (some k)) ↔ k < c := by
  obtain ⟨c', h1, _, h3⟩ := cnt_of_numA p [] List.nodup_nil
  have e2 : numA [] p = p := h
  rw [e2] at h1 h3
  have h1 : K25.cnt 0 (vals p) = some c' := h1
  rw [e] at h1
  cases h1
  intro k
  rw [← h3 k]
  exact ⟨.inr, fun z => z.elim (fun y => absurd y (Nat.not_lt_zero _)) id⟩
/-- a pattern of these entries stands at x -/
def PatAt (CP : Addr) (H : Hp) (x : Addr) (p : List (Option Nat)) : Prop := ∃ (dx t : Addr) (c : Nat), H x = some (.ins CP dx (patO t c)) ∧ H t = some (.tup (vals p)) ∧ p.length ≤ 40 ∧ cnt 0 (vals p) = some c
theorem PatAt.same {CP : Addr} {H H' : Hp} {x : Addr} {p : List (Option Nat)} (h : PatAt CP H x p) (s : ∀ b o, H b = some o → (∀ ps, o ≠ .tbl ps) → H' b = some o) : PatAt CP H' x p := by
  obtain ⟨dx, t, c, h1, h2, h3⟩ := h
  exact ⟨dx, t, c, s _ _ h1 (fun ps z => by cases z), s _ _ h2 (fun ps z => by cases z), h3⟩
theorem PatAt.sm {CP : Addr} {H H' : Hp} {x : Addr} {p : List (Option Nat)} (h : PatAt CP H x p) (s : Same H H') : PatAt CP H' x p := h.same fun b o e _ => s b o e
theorem PatAt.pt {CP : Addr} {H : Hp} {x : Addr} {p : List (Option Nat)} (h : PatAt CP H x p) : Pt p := by
  obtain ⟨_, _, _, _, _, _, e⟩ := h
  exact pt_of_cnt e
theorem PatAt.len {CP : Addr} {H : Hp} {x : Addr} {p : List (Option Nat)} (h : PatAt CP H x p) : p.length ≤ 40 := by
  obtain ⟨_, _, _, _, _, e, _⟩ := h
  exact e
/-! ### met things and their numbers, in a dict -/
section
variable {α κ : Type} [DecidableEq α] [DecidableEq κ]
def encM (f : α → κ) : Nat → List α → List (κ × V)
  | _, [] => []
  | n, x :: r => (f x, .int (n : Int)) :: encM f (n + 1) r
theorem encM_len (f : α → κ) : ∀ (n : Nat) (l : List α), (encM f n l).length = l.length
  | _, [] => rfl
  | n, x :: r => congrArg Nat.succ (encM_len f (n + 1) r)
theorem encM_app (f : α → κ) (x : α) : ∀ (n : Nat) (l : List α), encM f n (l ++ [x]) = encM f n l ++ [(f x, V.int ((n + l.length : Nat) : Int))]
  | n, [] => rfl
  | n, y :: r => by
    show (f y, V.int (n : Int)) :: encM f (n + 1) (r ++ [x]) = _
    rw [encM_app f x (n + 1) r]
    show _ = (f y, V.int (n : Int)) :: (encM f (n + 1) r ++ [(f x, V.int ((n + (r.length + 1) : Nat) : Int))])
    rw [show n + 1 + r.length = n + (r.length + 1) by omega]
theorem valV_encM {f : α → κ} (inj : ∀ a b, f a = f b → a = b) (x : α) : ∀ (n : Nat) (l : List α), valV (encM f n l) (f x) = if x ∈ l then some (V.int ((n + l.idxOf x : Nat) : Int)) else none
  | n, [] => rfl
  | n, y :: r => by
    show valV ((f y, V.int (n : Int)) :: encM f (n + 1) r) (f x) = _
    by_cases h : y = x
    · subst h
      rw [valV_pos rfl, if_pos List.mem_cons_self, List.idxOf_cons_self]
      rfl
    · rw [valV_neg (fun z => h (inj _ _ z)), valV_encM inj x (n + 1) r]
      by_cases h2 : x ∈ r
      · have e : (y :: r).idxOf x = r.idxOf x + 1 := by
          rw [List.idxOf_cons, beq_false_of_ne h]
          rfl
        rw [if_pos h2, if_pos (List.mem_cons_of_mem _ h2), e]
        rw [show n + 1 + r.idxOf x = n + (r.idxOf x + 1) by omega]
      · rw [if_neg h2, if_neg (by rw [List.mem_cons]; exact fun z => z.elim (fun e => h e.symm) h2)]
theorem putK_encM {f : α → κ} (inj : ∀ a b, f a = f b → a = b) {x : α} {l : List α} (h : ¬ x ∈ l) : putK (encM f 0 l) (f x) (V.int (l.length : Int)) = encM f 0 (l ++ [x]) := by
  rw [putK_new _ (by rw [valV_encM inj, if_neg h]), encM_app, Nat.zero_add]
end
/-- one more is numbered -/
def metN {α : Type} [DecidableEq α] (met : List α) : Option α → List α
  | none => met
  | some x => if x ∈ met then met else met ++ [x]
def oneN {α : Type} [DecidableEq α] (met : List α) : Option α → Option Nat
  | none => none
  | some x => if x ∈ met then some (met.idxOf x) else some met.length
theorem numA_cons {α : Type} [DecidableEq α] (met : List α) (o : Option α) (r : List (Option α)) : numA met (o :: r) = oneN met o :: numA (metN met o) r := by
  cases o with
  | none => rfl
  | some x =>
    by_cases h : x ∈ met
    · have e1 : oneN met (some x) = some (met.idxOf x) := if_pos h
      have e2 : metN met (some x) = met := if_pos h
      rw [e1, e2]
      show (if x ∈ met then some (met.idxOf x) :: numA met r else some met.length :: numA (met ++ [x]) r) = _
      rw [if_pos h]
    · have e1 : oneN met (some x) = some met.length := if_neg h
      have e2 : metN met (some x) = met ++ [x] := if_neg h
      rw [e1, e2]
      show (if x ∈ met then some (met.idxOf x) :: numA met r else some met.length :: numA (met ++ [x]) r) = _
      rw [if_neg h]
theorem metN_len {α : Type} [DecidableEq α] (met : List α) (o : Option α) : (metN met o).length ≤ met.length + 1 := by
  cases o with
  | none => exact Nat.le_succ _
  | some x =>
    show (if x ∈ met then met else met ++ [x]).length ≤ _
    split
    · exact Nat.le_succ _
    · rw [List.length_append]
      exact Nat.le_refl _
theorem get_met {α κ : Type} [DecidableEq α] [DecidableEq κ] {f : α → κ} (inj : ∀ a b, f a = f b → a = b) (met : List α) (x : α) : valV (encM f 0 (metN met (some x))) (f x) = some (optV (oneN met (some x))) := by
  rw [valV_encM inj]
  by_cases h : x ∈ met
  · have e1 : oneN met (some x) = some (met.idxOf x) := if_pos h
    have e2 : metN met (some x) = met := if_pos h
    rw [e1, e2, if_pos h, Nat.zero_add]
    rfl
  · have e1 : oneN met (some x) = some met.length := if_neg h
    have e2 : metN met (some x) = met ++ [x] := if_neg h
    rw [e1, e2, if_pos (List.mem_append.mpr (.inr List.mem_cons_self)), List.idxOf_append, if_neg h, List.idxOf_cons_self]
    show some (V.int ((0 + (0 + met.length) : Nat) : Int)) = some (V.int (met.length : Int))
    rw [Nat.zero_add, Nat.zero_add]
theorem drop_cons' {α : Type} {xs : List α} {i : Nat} {v : α} (h : xs[i]? = some v) : xs.drop i = v :: xs.drop (i + 1) := by
  obtain ⟨hi, e⟩ := List.getElem?_eq_some_iff.mp h
  rw [List.drop_eq_getElem_cons hi, e]
theorem take_snoc' {α : Type} {xs : List α} {i : Nat} {v : α} (h : xs[i]? = some v) : xs.take (i + 1) = xs.take i ++ [v] := by
  rw [List.take_add_one, h]
  rfl
/-- one turn -/
theorem num_turn {α : Type} [DecidableEq α] {l : List (Option α)} {met : List α} {i : Nat} {o : Option α} (e : numA met (l.drop i) = (num l).drop i) (h : l[i]? = some o) : (num l)[i]? = some (oneN met o) ∧ numA (metN met o) (l.drop (i + 1)) = (num l).drop (i + 1) := by
  rw [drop_cons' h, numA_cons] at e
  have e1 := congrArg (fun z => z[0]?) e
  have e2 := congrArg (fun z => z.drop 1) e
  refine ⟨?_, ?_⟩
  · have z : ((num l).drop i)[0]? = (num l)[i]? := by simp
    rw [← z]
    exact e1.symm
  · have z : ((num l).drop i).drop 1 = (num l).drop (i + 1) := by rw [List.drop_drop]
    rw [← z]
    exact e2
end K25

/-! rows of names, checked -/
namespace K25
open PySem PySem.Spec PyProof.Rows L2
abbrev sNmErr : Stmt := inClass (top 3) 0
abbrev sNoErr : Stmt := inClass (top 6) 0
/-- what is handed as names -/
abbrev nameV (v : V) : Bool := wholeV v 0 (10 ^ 30)
def badAt (i : Nat) : List V → Option (Nat × Str)
  | [] => none
  | x :: xs => if x = .non ∨ nameV x = true then badAt (i + 1) xs else some (i, "name")
def nf (xs : List V) (b : Bool) : Option (Nat × Str) := if b = true ∧ xs.length ≤ 40 then badAt 0 xs else some (0, "names")
def spCN (CN : Addr) : Sp := fun vs H Q E => ∃ (v : V) (xs : List V) (b : Bool), vs = [v] ∧ Ns H v xs b ∧ (nf xs b = none → ∀ H', Same H H' → Q .non H') ∧
  ∀ i z, nf xs b = some (i, z) → ∀ (H' : Hp) (d : Addr), H d = none → H' d = some (.xd (patF (i : Nat) z)) → Same H H' → E (.ref CN) (some d) H'
section
variable {P : Program} {w : World} {K : PySem.W.Frag} {mg : Str → Option Value} {base : Heap}
theorem ok_nmErr {f C : Addr} {fd : FuncData} (F : FunD K "__init__" "BadNames.__init__" (defArgs sNmErr) (defBody sNmErr) (defScope sNmErr) [] [] f fd) (T : OexC K C) (n0 : NoF K C "index") (n1 : NoF K C "what") :
    FnOk P w K mg base CX0 1 f fd ["self", "index", "what"] (spPatErr C) := by
  have sc : FnScope ["self", "index", "what"] ["self", "index", "what"] (defScope sNmErr) := ⟨rfl, rfl, rfl, by decide +kernel, rfl, by decide +kernel, by decide +kernel⟩
  refine F.ok sc (fun vs H Q E h => ?_) (fun cdv A outer s H vs Q E hr h => ?_)
  · obtain ⟨a, i, x, rfl, _⟩ := h
    rfl
  · obtain ⟨a, i, x, rfl, ea, q⟩ := h
    refine ⟨_, PSs.nox (pss_cons (ps_ost (pv 0) (pv 1)) (pss_one (ps_ost (pv 0) (pv 2)))), ?_⟩
    refine ⟨_, rfl, _, rfl, a, C, rfl, T, n0, .inl ⟨ea, fun d nd ne => ?_⟩⟩
    refine ⟨_, rfl, _, rfl, a, C, rfl, T, n1, .inr ⟨d, _, upd_same, Eq.trans (upd_ne ne) upd_same, (by show 1 ≤ 900; decide), ?_⟩⟩
    exact q _ d nd (Eq.trans (upd_ne (Ne.symm ne)) upd_same) upd_same (keep_dict nd (keep_new nd))
/-- the error is laid -/
theorem fail_nm {CN : Addr} {H H0 : Hp} {i : Nat} {z : Str} {E : XK} (q0 : ∀ (H' : Hp) (d : Addr), H d = none → H' d = some (.xd (patF (i : Nat) z)) → Same H H' → E (.ref CN) (some d) H') (s0 : Same H H0) :
    ∀ av, H0 av = none → spPatErr CN [.ref av, .int (i : Int), .str z] (upd H0 av (exo av CN none)) (fun v H3 => v = .non ∧ ∃ dd fs, H3 av = some (exo av CN (some dd)) ∧ H3 dd = some (exd dd fs) ∧ H0 dd = none ∧ E (.ref CN) (some dd) (upd (del H3 av) dd (.xd fs))) E0 := fun av nav =>
      ⟨av, i, z, rfl, upd_same, fun H3 dd nd3 ha3 hd3 kp => ⟨rfl, dd, _, ha3, hd3, none_of (same_upd nav) nd3, q0 _ dd (none_of s0 (none_of (same_upd nav) nd3)) upd_same fun y' o' e' => by
        have e2 := s0 _ _ e'
        rw [upd_ne (ne_of_none e2 (none_of (same_upd nav) nd3)), del_ne (ne_of_none e2 nav)]
        exact kp _ _ (ne_of_none e2 nav) (same_upd nav _ _ e2)⟩⟩
theorem ok_cn {f fS fN fX CN : Addr} {fd fdS fdN fdX : FuncData} (F : FnP K "check_names" sPCheckNames f fd) (z_len : mg "len" = none) (z_enumerate : mg "enumerate" = none) (g_MOST_PLACES : ∃ t, mg "MOST_PLACES" = some (.int 40 t)) (dS : Df P w K mg base "is_sequence" 1 ["thing"] spSeq fS fdS)
    (dNm : Df P w K mg base "is_name" 2 ["thing"] spName fN fdN) (X : ErrC P w K mg base "BadNames" ["self", "index", "what"] spPatErr CN fX fdX) : FnOk P w K mg base (L2.CX P w) 3 f fd ["names"] (spCN CN) := by
  obtain ⟨tk, g_MOST_PLACES⟩ := g_MOST_PLACES
  have sc : FnScope ["names", "index", "name"] ["names"] (defScope sPCheckNames) := ⟨rfl, rfl, rfl, by decide +kernel, rfl, by decide +kernel, by decide +kernel⟩
  refine F.ok sc (fun vs H Q E h => ?_) (fun cdv A outer s H vs Q E hr2 h => ?_)
  · obtain ⟨v, xs, b, rfl, _⟩ := h
    rfl
  · obtain ⟨v, xs, b, rfl, nm, q1, q0⟩ := h
    have hr1 := hr2.mono (show 1 ≤ 2 by decide)
    refine ⟨_, (pss_cons (ps_if (PW.pt (pw_or (pt_not (pt_val (pe_call dS.ok hr1 (by rfl) dS.gl dS.kp dS.bi .nil pass0 (pa_cons (pv 0) pa_nil)))) (pw_or1 (pt_cmpR op_gt (pe_callB call_len_seq (by rfl) z_len boot_len (pa_cons (pv 0) pa_nil)) (pe_glob (by rfl) g_MOST_PLACES (v := .int 40) ⟨_, rfl⟩) (nomark _)))))
      (pss_one (ps_raise rfl (takes_of rfl rfl rfl rfl) (pmk_oex X.cl X.ini X.ty X.ok hr2 X.bi .nil pass0 (by rfl) X.gl (pa_cons pe_int (pa_cons pe_str pa_nil)))))
      pss_nil)
    (pss_one (ps_for PassesOwn.leaving rfl (pi_or (pi_enum (by rfl) z_enumerate (pa_cons (pv 0) pa_nil)) (pi_enumT (by rfl) z_enumerate (pa_cons (pv 0) pa_nil) rfl)) (pg_tup (by rfl) (pgs_cons (pg_name (i := 1) sc.nd rfl (.inl rfl)) (pgs_cons (pg_name (i := 2) sc.nd rfl (.inl rfl)) pgs_nil)))
      (pss_one (ps_if (PW.pt (pw_and (pt_cmpR op_notN (pv 2) pe_non (nomark _)) (pw_and1 (pt_not (pt_val (pe_call dNm.ok hr2 (by rfl) dNm.gl dNm.kp dNm.bi .nil pass0 (pa_cons (pv 2) pa_nil)))))))
        (pss_one (ps_raise rfl (takes_of rfl rfl rfl rfl) (pmk_oex X.cl X.ini X.ty X.ok hr2 X.bi .nil pass0 (by rfl) X.gl (pa_cons (pv 1) (pa_cons pe_str pa_nil)))))
        pss_nil))))), ?_⟩
    cases nm with
    | bad o ns =>
      refine ⟨_, rfl, _, _, rfl, o, fun u nu => ?_⟩
      rw [ns]
      exact ⟨_, rfl, iteT (iteT ⟨(by show 2 ≤ 1000; decide), fun av nav => fail_nm (i := 0) (q0 0 _ rfl) (same_upd nu) av nav⟩)⟩
    | @seq a xs h hl od =>
      obtain ⟨t, o, hs⟩ := h.odd
      refine ⟨_, rfl, _, _, rfl, o, fun u nu => ?_⟩
      rw [hs]
      refine ⟨_, rfl, iteF ?_⟩
      have su := same_upd (o := .tup [.ty "list", .ty "tuple"]) nu
      have h1 := h.same su
      generalize upd H u (.tup [.ty "list", .ty "tuple"]) = H0 at su h1 ⊢
      refine ⟨_, rfl, _, _, rfl, h1.or, _, _, rfl, rfl, _, rfl, ?_⟩
      by_cases h40 : xs.length ≤ 40
      · rw [decide_eq_false (show ¬ (40 : Int) < (xs.length : Int) by omega)]
        refine iteF ?_
        dsimp only [tNext]
        unfold nf at q1 q0
        rw [if_pos ⟨rfl, h40⟩] at q1 q0
        refine enum_any (fun Q q => ⟨_, rfl, q⟩) h1 fun it G wk keep => for_it wk (fun i σ H' => ∃ (x1 x2 : Option V), σ = [some (.ref a), x1, x2] ∧ badAt i (xs.drop i) = badAt 0 xs ∧ Same H0 H')
          ⟨none, none, rfl, by rw [List.drop_zero], Same.refl _⟩ (fun i σ H' _ ⟨_, _, _, _, s⟩ => keep _ (Same.kp s)) ?_ ?_
        · rintro i x σ H1 H2 hi ⟨x1, x2, rfl, hc, sm⟩ ⟨T, u', v, rfl, nT, rfl, eu, ev⟩
          obtain rfl : u' = .int (i : Int) := (Option.some.inj eu).symm
          obtain ⟨tv, ov⟩ := od v (List.mem_of_getElem? ev)
          have ev : xs[i]? = some v := ev
          rw [drop_cons' ev] at hc
          have hc : (if v = .non ∨ nameV v = true then badAt (i + 1) (xs.drop (i + 1)) else some (i, "name")) = badAt 0 xs := hc
          have sT := sm.trans (same_upd (o := .tup [.int (i : Int), v]) nT)
          have sH := su.trans sT
          refine ⟨T, _, rfl, .inl (.inl upd_same), rfl, _, _, rfl, _, _, rfl, rfl, ?_⟩
          generalize upd H1 T (.tup [.int (i : Int), v]) = H3 at sT sH ⊢
          refine ⟨_, rfl, rfl, _, rfl, ?_⟩
          by_cases hv : v = .non
          · rw [decide_eq_true hv]
            rw [if_pos (.inl hv)] at hc
            exact iteF (iteF ⟨_, _, rfl, hc, sT⟩)
          · rw [decide_eq_false hv]
            refine iteT ⟨_, rfl, v, tv, rfl, ov.same sH, ?_⟩
            cases hn : wholeV v 0 (10 ^ 30) with
            | true =>
              rw [if_pos (.inr hn)] at hc
              exact ⟨_, rfl, iteF ⟨_, _, rfl, hc, sT⟩⟩
            | false =>
              rw [if_neg (fun z => z.elim hv fun y => by rw [show nameV v = false from hn] at y; cases y)] at hc
              exact ⟨_, rfl, iteT ⟨_, rfl, (by show 2 ≤ 1000; decide), fun av nav => fail_nm (q0 i _ hc.symm) sH av nav⟩⟩
        · rintro σ H1 ⟨x1, x2, rfl, hc, sm⟩
          rw [List.drop_of_length_le (Nat.le_refl _)] at hc
          exact q1 hc.symm H1 (su.trans sm)
      · rw [decide_eq_true (show (40 : Int) < (xs.length : Int) by omega)]
        unfold nf at q0
        rw [if_neg (fun z => h40 z.2)] at q0
        exact iteT ⟨(by show 2 ≤ 1000; decide), fun av nav => fail_nm (i := 0) (q0 0 _ rfl) su av nav⟩
end
end K25

/-! whole numbers, numbered: a list or a tuple of them -/
namespace K25
open PySem PySem.Spec PyProof.Rows L2
def keyI (n : Nat) : Key := Sum.inl (n : Int)
theorem keyI_inj (a b : Nat) (h : keyI a = keyI b) : a = b := by
  have := Sum.inl.inj h
  omega
/-- a list of them; nobody's stay -/
def spNbS : Sp := fun vs H Q _ => ∃ (a : Addr) (l : List (Option Nat)), vs = [.ref a] ∧ Sq H a (vals l) ∧ l.length ≤ 64 ∧ ∀ (H' : Hp) (z : Addr), Same H H' → H z = none → H' z = some (.lst (vals (num l))) → Q (.ref z) H'
section
variable {P : Program} {w : World} {K : PySem.W.Frag} {mg : Str → Option Value} {base : Heap}
theorem ok_nbS {f : Addr} {fd : FuncData} (F : FnP K "numbered" sPNumbered f fd) (z_len : mg "len" = none) : FnOk P w K mg base CX0 1 f fd ["values"] spNbS := by
  have sc : FnScope ["values", "numbers", "found", "value"] ["values"] (defScope sPNumbered) := ⟨rfl, rfl, rfl, by decide +kernel, rfl, by decide +kernel, by decide +kernel⟩
  refine F.ok sc (fun vs H Q E h => ?_) (fun cdv A outer s H vs Q E hr h => ?_)
  · obtain ⟨a, l, rfl, _⟩ := h
    rfl
  · obtain ⟨a, l, rfl, ha, hl, q⟩ := h
    have hu := hu_of hr
    refine ⟨_, PSs.nox (pss_cons (ps_set (i := 1) sc.nd rfl (.inl rfl) pe_dnewK)
    (pss_cons (ps_set (i := 2) sc.nd rfl (.inl rfl) (pe_lst pa_nil))
    (pss_cons (ps_for PassesOwn.never rfl (pi_or (pi_list (pv 0)) (pi_tup (pv 0))) (pg_name (i := 3) sc.nd rfl (.inl rfl))
      (pss_cons (ps_if (PW.pt (pw_and (pt_cmpR op_notN (pv 3) pe_non (nomark _)) (pw_and1 (pt_cmp (pc_dnotin hu (pv 3) (pv 1))))))
        (pss_one (ps_dput hu (pv 1) (pv 3) (pe_callB call_lenD (by rfl) z_len boot_len (pa_cons (pv 1) pa_nil)) rfl))
        pss_nil)
      (pss_one (ps_expr (pe_bm PySem.F.plainAttrs_list PySem.F.slot_list_append PySem.F.type_list_append mt_append (pv 2) (pa_cons (pe_getN hr.units (pv 1) (pv 3) ⟨by rfl, by rfl, by rfl, by rfl⟩) pa_nil))))))
    (pss_one (ps_ret (pv 2)))))), ?_⟩
    intro d nd
    have sd := same_upd (o := .dK []) nd
    refine ⟨(by show 0 ≤ sizeLine; decide), fun g ng => ?_⟩
    have sg := same_upd (o := .lst []) ng
    have dg : d ≠ g := ne_of_none upd_same ng
    have ng0 : H g = none := by rw [upd_ne (Ne.symm dg)] at ng; exact ng
    have kp : ∀ {H' : Hp}, Same H H' → Kp a (upd (upd H d (.dK [])) g (.lst [])) H' := fun {H'} s o e => by
      rcases ha with h | h
      · exact (s _ _ h).trans ((sg _ _ (sd _ _ h)).symm.trans e)
      · exact (s _ _ h).trans ((sg _ _ (sd _ _ h)).symm.trans e)
    refine seq_any (fun Q q => ⟨_, rfl, q⟩) (ha.same (sd.trans sg)) fun it G wk keep => for_it (by rw [List.length_map] at wk; exact wk) (fun i σ H' => ∃ (met : List Nat) (x3 : Option V), σ = [some (.ref a), some (.ref d), some (.ref g), x3] ∧ numA met (l.drop i) = (num l).drop i ∧ met.length ≤ i ∧ H' d = some (.dK (encM keyI 0 met)) ∧ H' g = some (.lst (vals ((num l).take i))) ∧ Same H H')
      ⟨[], none, rfl, rfl, Nat.le_refl _, sg _ _ upd_same, upd_same, sd.trans sg⟩ (fun i σ H' _ ⟨_, _, _, _, _, _, _, s'⟩ => keep _ (kp s')) ?_ ?_
    · rintro i y σ H1 H2 hi ⟨met, x3, rfl, en, ml, hd, hg, s1⟩ ⟨rfl, ev⟩
      rw [vals_get] at ev
      obtain ⟨o, eo, rfl⟩ := Option.map_eq_some_iff.mp ev
      obtain ⟨t1, t2⟩ := num_turn en eo
      have il : i < l.length := (List.getElem?_eq_some_iff.mp eo).1
      have fin : ∀ H3 : Hp, H3 d = some (.dK (encM keyI 0 (metN met o))) → H3 g = some (.lst (vals ((num l).take i))) → Same H H3 →
          ∃ (met' : List Nat) (x3 : Option V), [some (V.ref a), some (.ref d), some (.ref g), some (optV o)] = [some (.ref a), some (.ref d), some (.ref g), x3] ∧ numA met' (l.drop (i + 1)) = (num l).drop (i + 1) ∧ met'.length ≤ i + 1 ∧ (upd H3 g (.lst (vals ((num l).take i) ++ [optV (oneN met o)]))) d = some (.dK (encM keyI 0 met')) ∧ (upd H3 g (.lst (vals ((num l).take i) ++ [optV (oneN met o)]))) g = some (.lst (vals ((num l).take (i + 1)))) ∧ Same H (upd H3 g (.lst (vals ((num l).take i) ++ [optV (oneN met o)]))) := fun H3 h1 h2 h3 =>
        ⟨metN met o, _, rfl, t2, Nat.le_trans (metN_len met o) (Nat.succ_le_succ ml), by rw [upd_ne dg]; exact h1, by rw [upd_same, take_snoc' t1, vals_app]; rfl, fun b u e => by rw [upd_ne (ne_of_none e ng0)]; exact h3 _ _ e⟩
      have few : (vals ((num l).take i)).length < sizeLine := by
        rw [List.length_map]
        refine Nat.lt_of_le_of_lt (Nat.le_trans (List.length_take_le _ _) (Nat.le_trans (Nat.le_of_lt il) hl)) (by decide)
      cases o with
      | none =>
        refine ⟨_, rfl, rfl, _, rfl, iteF (iteF ?_)⟩
        refine ⟨_, rfl, .inl ⟨rfl, _, SqL.of hg⟩, _, rfl, d, rfl, .inl ⟨_, .inl hd⟩, _, rfl, .inr ⟨rfl, .inl ⟨_, .inl hd⟩, g, _, .non, rfl, rfl, hg, few, ?_⟩⟩
        exact fin H2 hd hg s1
      | some x =>
        refine ⟨_, rfl, rfl, _, rfl, iteT ?_⟩
        refine ⟨_, rfl, _, rfl, d, _, rfl, DGet.k (k := keyI x) hd, _, rfl, ?_⟩
        rw [valV_encM keyI_inj]
        by_cases hx : x ∈ met
        · rw [if_pos hx]
          refine iteF ?_
          have em : metN met (some x) = met := if_pos hx
          refine ⟨_, rfl, .inl ⟨rfl, _, SqL.of hg⟩, _, rfl, d, rfl, .inl ⟨_, .inl hd⟩, _, rfl, .inl ⟨_, DGet.k (k := keyI x) hd, g, _, _, rfl, rfl, hg, few, ?_⟩⟩
          have gm := get_met keyI_inj met x
          rw [em] at gm
          rw [gm]
          exact fin H2 (by rw [em]; exact hd) hg s1
        · rw [if_neg hx]
          refine iteT ?_
          have em : metN met (some x) = met ++ [x] := if_neg hx
          refine ⟨_, rfl, d, _, rfl, hd, _, rfl, _, rfl, d, _, rfl, DPut.k (k := keyI x) hd (by rw [encM_len]; exact Nat.lt_of_le_of_lt (Nat.le_trans ml (Nat.le_trans (Nat.le_of_lt il) hl)) (by decide)), ?_⟩
          rw [encM_len, putK_encM keyI_inj hx, ← em]
          have hg3 : upd H2 d (.dK (encM keyI 0 (metN met (some x)))) g = some (.lst (vals ((num l).take i))) := (upd_ne (Ne.symm dg)).trans hg
          have s3 : Same H (upd H2 d (.dK (encM keyI 0 (metN met (some x))))) := fun b u e => by rw [upd_ne (ne_of_none e nd)]; exact s1 _ _ e
          refine ⟨_, rfl, .inl ⟨rfl, _, SqL.of hg3⟩, _, rfl, d, rfl, .inl ⟨_, .inl upd_same⟩, _, rfl, .inl ⟨_, DGet.k (k := keyI x) upd_same, g, _, _, rfl, rfl, hg3, few, ?_⟩⟩
          rw [get_met keyI_inj]
          exact fin _ upd_same hg3 s3
    · rintro σ H1 ⟨met, x3, rfl, _, _, _, hg, s1⟩
      refine ⟨_, rfl, q H1 g s1 ng0 ?_⟩
      rw [hg, List.take_of_length_le (by rw [num_len]; exact Nat.le_refl _)]
end
end K25

/-! comprehensions, in general -/
namespace K25
open PySem PySem.Spec PyProof.Rows L2
/-- what was built so far; only the new list's place may change -/
structure LcR (D : Addr) (R : Nat → List V → Hp → Prop) : Prop where
  keep : ∀ i acc H H' ys, R i acc H → H D = some (.lst ys) → (∀ b o, b ≠ D → H b = some o → H' b = some o) → R i acc H'
  few : ∀ i acc H, R i acc H → acc.length ≤ i
theorem lc_N {J : It} {xs : List V} {G : Hp → Prop} (w : Walk J xs.length G (YAt xs)) {j : Nat} {tt : TT} {te : TE} {vs : List Nat} {σ : L2.St} {H1 : Hp} {D : Addr} {Qd : Hp → Prop} (R : Nat → List V → Hp → Prop) (hR : LcR D R) (nD : H1 D = none) (hl : xs.length < sizeLine)
    (h0 : R 0 [] (upd H1 D (.lst []))) (hG : ∀ H', Same H1 H' → G H') (hw : ∀ x, wipe ((wipe σ vs).set j (some x)) vs = wipe σ vs)
    (hs : ∀ i x acc H', xs[i]? = some x → Same H1 H' → H' D = some (.lst acc) → R i acc H' → tt ((wipe σ vs).set j (some x)) H' fun b H3 => Same H' H3 ∧ if b = true then te ((wipe σ vs).set j (some x)) H3 fun y H4 => Same H3 H4 ∧ R (i + 1) (acc ++ [y]) H4 else R (i + 1) acc H3)
    (mt : ∀ σ H (Q Q' : Bool → Hp → Prop), (∀ b H', Q b H' → Q' b H') → tt σ H Q → tt σ H Q') (me : ∀ σ H (Q Q' : VK), (∀ v H', Q v H' → Q' v H') → te σ H Q → te σ H Q')
    (hd : ∀ H' acc, Same H1 H' → H' D = some (.lst acc) → R xs.length acc H' → Qd H') :
    ∃ W : Nat → Nat → Hp → Prop, (∃ m, W 0 m (upd H1 D (.lst []))) ∧ ∀ i m H, W i m H →
      (J.stop i H ∧ Qd H) ∨ (J.go i H ∧ ∃ Nx : Hp → Prop, (∀ H', Nx H' → ∃ m', m' < m ∧ W (i + 1) m' H') ∧ ∀ x H', J.yld i H x H' → gName j x (wipe σ vs) H' fun σ2 H2 => wipe σ2 vs = wipe σ vs ∧ tt σ2 H2 fun b H3 =>
        if b = true then te σ2 H3 fun y H4 => ∃ acc, H4 D = some (.lst acc) ∧ acc.length < sizeLine ∧ Nx (upd H4 D (.lst (acc ++ [y]))) else Nx H3) := by
  refine lc_it w (fun i H' => Same H1 H' ∧ ∃ acc, H' D = some (.lst acc) ∧ R i acc H') ⟨same_upd nD, [], upd_same, h0⟩ (fun i H' _ h => hG H' h.1) ?_ (fun H' ⟨s, acc, e, r⟩ => hd H' acc s e r)
  rintro i x H2 H3 hi ⟨s2, acc, eD, r⟩ ⟨rfl, ev⟩
  refine ⟨hw x, mt _ _ _ _ ?_ (hs i x acc _ ev s2 eD r)⟩
  rintro b H4 ⟨s4, hb⟩
  have eD4 := s4 _ _ eD
  cases b with
  | false => exact ⟨s2.trans s4, acc, eD4, hb⟩
  | true =>
    refine me _ _ _ _ ?_ hb
    rintro y H5 ⟨s5, r5⟩
    have eD5 := s5 _ _ eD4
    refine ⟨acc, eD5, Nat.lt_of_le_of_lt (hR.few _ _ _ r) (by omega), fun b u e => ?_, acc ++ [y], upd_same, hR.keep _ _ _ _ _ r5 eD5 fun b u nb e => (upd_ne nb).trans e⟩
    rw [upd_ne (ne_of_none e nD)]
    exact s5 _ _ (s4 _ _ (s2 _ _ e))
theorem lc_E {K : PySem.W.Frag} {J : It} {xs : List V} {G : Hp → Prop} (w : Walk J xs.length G (YPair (fun i => some (.int (i : Nat))) (fun i => xs[i]?))) {j1 j2 : Nat} {tt : TT} {te : TE} {vs : List Nat} {σ : L2.St} {H1 : Hp} {D : Addr} {Qd : Hp → Prop} (R : Nat → List V → Hp → Prop) (hR : LcR D R) (nD : H1 D = none) (hl : xs.length < sizeLine)
    (h0 : R 0 [] (upd H1 D (.lst []))) (hG : ∀ H', Same H1 H' → G H') (hw : ∀ u x, wipe (((wipe σ vs).set j1 (some u)).set j2 (some x)) vs = wipe σ vs)
    (hs : ∀ (i : Nat) x acc H', xs[i]? = some x → Same H1 H' → H' D = some (.lst acc) → R i acc H' → tt (((wipe σ vs).set j1 (some (.int (i : Int)))).set j2 (some x)) H' fun b H3 => Same H' H3 ∧ if b = true then te (((wipe σ vs).set j1 (some (.int (i : Int)))).set j2 (some x)) H3 fun y H4 => Same H3 H4 ∧ R (i + 1) (acc ++ [y]) H4 else R (i + 1) acc H3)
    (mt : ∀ σ H (Q Q' : Bool → Hp → Prop), (∀ b H', Q b H' → Q' b H') → tt σ H Q → tt σ H Q') (me : ∀ σ H (Q Q' : VK), (∀ v H', Q v H' → Q' v H') → te σ H Q → te σ H Q')
    (hd : ∀ H' acc, Same H1 H' → H' D = some (.lst acc) → R xs.length acc H' → Qd H') :
    ∃ W : Nat → Nat → Hp → Prop, (∃ m, W 0 m (upd H1 D (.lst []))) ∧ ∀ i m H, W i m H →
      (J.stop i H ∧ Qd H) ∨ (J.go i H ∧ ∃ Nx : Hp → Prop, (∀ H', Nx H' → ∃ m', m' < m ∧ W (i + 1) m' H') ∧ ∀ x H', J.yld i H x H' → gTup K 2 (gCons (gName j1) (gCons (gName j2) gNil)) x (wipe σ vs) H' fun σ2 H2 => wipe σ2 vs = wipe σ vs ∧ tt σ2 H2 fun b H3 =>
        if b = true then te σ2 H3 fun y H4 => ∃ acc, H4 D = some (.lst acc) ∧ acc.length < sizeLine ∧ Nx (upd H4 D (.lst (acc ++ [y]))) else Nx H3) := by
  refine lc_it w (fun i H' => Same H1 H' ∧ ∃ acc, H' D = some (.lst acc) ∧ R i acc H') ⟨same_upd nD, [], upd_same, h0⟩ (fun i H' _ h => hG H' h.1) ?_ (fun H' ⟨s, acc, e, r⟩ => hd H' acc s e r)
  rintro i x H2 H3 hi ⟨s2, acc, eD, r⟩ ⟨T, u, v, rfl, nT, rfl, eu, ev⟩
  obtain rfl : u = .int (i : Int) := (Option.some.inj eu).symm
  have sT := same_upd (o := .tup [.int (i : Int), v]) nT
  have eDT := sT _ _ eD
  have rT := hR.keep _ _ _ _ _ r eD fun b o nb e => sT b o e
  refine ⟨T, _, rfl, .inl (.inl upd_same), rfl, _, _, rfl, _, _, rfl, rfl, hw _ v, mt _ _ _ _ ?_ (hs i v acc _ ev (s2.trans sT) eDT rT)⟩
  rintro b H4 ⟨s4, hb⟩
  have eD4 := s4 _ _ eDT
  cases b with
  | false => exact ⟨(s2.trans sT).trans s4, acc, eD4, hb⟩
  | true =>
    refine me _ _ _ _ ?_ hb
    rintro y H5 ⟨s5, r5⟩
    have eD5 := s5 _ _ eD4
    refine ⟨acc, eD5, Nat.lt_of_le_of_lt (hR.few _ _ _ r) (by omega), fun b u e => ?_, acc ++ [y], upd_same, hR.keep _ _ _ _ _ r5 eD5 fun b u nb e => (upd_ne nb).trans e⟩
    rw [upd_ne (ne_of_none e nD)]
    exact s5 _ _ (s4 _ _ (sT _ _ (s2 _ _ e)))
/-! ### what is wanted may be more -/
def MonoE (t : TE) : Prop := ∀ (σ : L2.St) (H : Hp) (Q Q' : VK), (∀ v H', Q v H' → Q' v H') → t σ H Q → t σ H Q'
def MonoT (t : TT) : Prop := ∀ (σ : L2.St) (H : Hp) (Q Q' : Bool → Hp → Prop), (∀ v H', Q v H' → Q' v H') → t σ H Q → t σ H Q'
def MonoA (t : TA) : Prop := ∀ (σ : L2.St) (H : Hp) (Q Q' : List V → Hp → Prop), (∀ v H', Q v H' → Q' v H') → t σ H Q → t σ H Q'
def MonoR (r : R2) : Prop := ∀ (x y : V) (H : Hp) (Q Q' : VK), (∀ v H', Q v H' → Q' v H') → r x y H Q → r x y H Q'
theorem mE_var {i : Nat} : MonoE (tVar i) := fun _ _ _ _ h ⟨x, e, q⟩ => ⟨x, e, h _ _ q⟩
theorem mE_c {v : V} : MonoE (tC v) := fun _ _ _ _ h q => h _ _ q
theorem mE_op {r : R2} {a b : TE} (hr : MonoR r) (ha : MonoE a) (hb : MonoE b) : MonoE (tOp r a b) := fun _ _ _ _ h q => ha _ _ _ _ (fun _ _ q1 => hb _ _ _ _ (fun _ _ q2 => hr _ _ _ _ _ h q2) q1) q
theorem mT_test {e : TE} (he : MonoE e) : MonoT (tTest e) := fun _ _ _ _ h q => he _ _ _ _ (fun _ _ ⟨k, e, q⟩ => ⟨k, e, h _ _ q⟩) q
theorem mT_yes : MonoT tYes := fun _ _ _ _ h q => h _ _ q
theorem mE_if {t : TT} {a b : TE} (ht : MonoT t) (ha : MonoE a) (hb : MonoE b) : MonoE (tIf t a b) := fun _ _ _ _ h q => ht _ _ _ _ (fun c H1 q1 => by
  cases c with
  | true => exact iteT (ha _ _ _ _ h (show a _ _ _ from q1))
  | false => exact iteF (hb _ _ _ _ h (show b _ _ _ from q1))) q
theorem mA_nil : MonoA tNil := fun _ _ _ _ h q => h _ _ q
theorem mA_cons {t : TE} {ta : TA} (ht : MonoE t) (ha : MonoA ta) : MonoA (tCons t ta) := fun _ _ _ _ h q => ht _ _ _ _ (fun _ _ q1 => ha _ _ _ _ (fun _ _ q2 => h _ _ q2) q1) q
theorem mE_tup {ta : TA} (ha : MonoA ta) : MonoE (tTup ta) := fun _ _ _ _ h q => ha _ _ _ _ (fun _ _ ⟨l, q⟩ => ⟨l, fun p np => h _ _ (q p np)⟩) q
theorem mR_eq : MonoR rEq := fun _ _ _ _ _ h ⟨s, q⟩ => ⟨s, h _ _ q⟩
theorem mR_ne : MonoR rNe := fun _ _ _ _ _ h ⟨s, q⟩ => ⟨s, h _ _ q⟩
theorem mR_ixT {K : PySem.W.Frag} : MonoR (rIxT K) := fun _ _ _ _ _ h ⟨p, xs, i, v, e1, e2, e3, e4, q⟩ => ⟨p, xs, i, v, e1, e2, e3, e4, h _ _ q⟩
theorem mR_ixL {K : PySem.W.Frag} : MonoR (rIxL K) := fun _ _ _ _ _ h ⟨p, xs, i, v, e1, e2, e3, e4, q⟩ => ⟨p, xs, i, v, e1, e2, e3, e4, h _ _ q⟩
theorem mR_in {K : PySem.W.Frag} {n : Bool} : MonoR (rIn K n) := fun _ _ _ _ _ h ⟨p, xs, e, o, f1, f2, q⟩ => ⟨p, xs, e, o, f1, f2, h _ _ q⟩
theorem mR_isN {f : V → V} : MonoR (fun x y H Q => y = V.non ∧ Q (f x) H) := fun _ _ _ _ _ h ⟨e, q⟩ => ⟨e, h _ _ q⟩
end K25

/-! the law's own numbers -/
namespace K25
open PySem PySem.Spec PyProof.Rows L2
/-- things that the law numbers, as data -/
structure EncD {α : Type} [DecidableEq α] (f : α → PyData) : Prop where
  eq : ∀ a b, PyData.eqv (f a) (f b) = decide (a = b)
  lay : ∀ a, (f a).canLay0 = true
  dep : ∀ a, (f a).depth ≤ 8
  nn : ∀ a, f a ≠ .none
def ThV {α : Type} (f : α → PyData) (H : Hp) (v : V) : Option α → Prop
  | none => v = .non
  | some x => Dt Any H v (f x)
def spNums {α : Type} [DecidableEq α] (f : α → PyData) : Sp := fun vs H Q _ => ∃ (a : Addr) (us : List V) (l : List (Option α)), vs = [.ref a] ∧ H a = some (.lst us) ∧ us.length = l.length ∧ (∀ (i : Nat) (v : V) (o : Option α), us[i]? = some v → l[i]? = some o → ThV f H v o) ∧ l.length ≤ 64 ∧
  ∀ (H' : Hp) (z : Addr), Same H H' → H z = none → H' z = some (.lst (vals (num l))) → Q (.ref z) H'
theorem encI : EncD fun n : Nat => PyData.int (n : Int) := ⟨fun a b => by
  show ((a : Int) == (b : Int)) = _
  by_cases h : a = b
  · rw [h, decide_eq_true rfl]
    exact beq_self_eq_true _
  · rw [decide_eq_false h]
    exact beq_false_of_ne (fun z => h (by omega)), fun _ => rfl, fun _ => Nat.zero_le _, fun _ z => by cases z⟩
def datP (xy : Nat × Nat) : PyData := .tuple [.int (xy.1 : Int), .int (xy.2 : Int)]
theorem encPr : EncD datP := ⟨fun a b => by
  obtain ⟨a1, a2⟩ := a
  obtain ⟨b1, b2⟩ := b
  show (((a1 : Int) == (b1 : Int)) && (((a2 : Int) == (b2 : Int)) && true)) = _
  have e : ∀ x y : Nat, ((x : Int) == (y : Int)) = decide (x = y) := fun x y => encI.eq x y
  rw [e, e, Bool.and_true]
  by_cases h1 : a1 = b1 <;> by_cases h2 : a2 = b2 <;> simp [h1, h2], fun _ => rfl, fun _ => by show 1 ≤ 8; decide, fun _ z => by cases z⟩
theorem any_enc {α : Type} [DecidableEq α] {e : α → PyData} (he : EncD e) (x : α) : ∀ met : List α, ((met.map e).any fun z => PyData.eqv z (e x)) = decide (x ∈ met)
  | [] => rfl
  | y :: met => by
    show (PyData.eqv (e y) (e x) || (met.map e).any fun z => PyData.eqv z (e x)) = _
    rw [any_enc he x met, he.eq]
    by_cases h : y = x
    · subst h
      rw [decide_eq_true rfl, Bool.true_or]
      exact (decide_eq_true List.mem_cons_self).symm
    · rw [decide_eq_false h, Bool.false_or]
      exact decide_eq_decide.mpr ⟨fun z => List.mem_cons_of_mem _ z, fun z => (List.mem_cons.mp z).elim (fun e => absurd e.symm h) id⟩
theorem lay_all : ∀ {ds : List PyData}, (∀ d ∈ ds, d.canLay0 = true) → PyData.canLayAll0 ds = true
  | [], _ => rfl
  | d :: ds, h => Bool.and_eq_true_iff.mpr ⟨h d List.mem_cons_self, lay_all fun x hx => h x (List.mem_cons_of_mem _ hx)⟩
theorem dep_all {n : Nat} : ∀ {ds : List PyData}, (∀ d ∈ ds, d.depth ≤ n) → PyData.depthAll ds ≤ n
  | [], _ => Nat.zero_le _
  | d :: ds, h => Nat.max_le.mpr ⟨h d List.mem_cons_self, dep_all fun x hx => h x (List.mem_cons_of_mem _ hx)⟩
theorem shaped_enc {α : Type} [DecidableEq α] {e : α → PyData} (he : EncD e) (met : List α) : SeqAt.shaped (.list (met.map e)) = true :=
  shaped_of (lay_all fun d hd => by obtain ⟨x, _, rfl⟩ := List.mem_map.mp hd; exact he.lay x) (by
    show PyData.depthAll (met.map e) + 1 ≤ 64
    have : PyData.depthAll (met.map e) ≤ 8 := dep_all fun d hd => by obtain ⟨x, _, rfl⟩ := List.mem_map.mp hd; exact he.dep x
    omega)
theorem shaped_one {α : Type} [DecidableEq α] {e : α → PyData} (he : EncD e) (x : α) : SeqAt.shaped (e x) = true := shaped_of (he.lay x) (Nat.le_trans (he.dep x) (by decide))
/-- what is asked of index -/
theorem index_of {α : Type} [DecidableEq α] {e : α → PyData} (he : EncD e) {K : PySem.W.Frag} {H : Hp} {m : Addr} {ws : List V} {v : V} {met : List α} {x : α} {Q : VK} (hm : H m = some (.lst ws)) (hw : DtAll Any H ws (met.map e)) (hv : Dt Any H v (e x)) (hx : x ∈ met) (q : Q (.int ((met.idxOf x : Nat) : Int)) H) :
    rIndexD K (.ref m) [v] H Q := by
  have il := List.idxOf_lt_length_of_mem hx
  refine ⟨m, v, e x, met.map e, met.idxOf x, e x, rfl, rfl, (Dt.lst (S := Any) trivial hm hw).dp, hv.dp, shaped_enc he met, shaped_one he x, by rw [List.getElem?_map, idx_of hx]; rfl, by rw [he.eq]; exact decide_eq_true rfl, fun k z hk ez => ?_, q⟩
  rw [List.getElem?_map] at ez
  obtain ⟨y, ey, rfl⟩ := Option.map_eq_some_iff.mp ez
  rw [he.eq]
  refine decide_eq_false fun h => ?_
  subst h
  have z := List.not_of_lt_findIdx (p := (· == y)) (xs := met) (i := k) hk
  obtain ⟨hkl, ek⟩ := List.getElem?_eq_some_iff.mp ey
  rw [ek] at z
  simp at z
section
variable {P : Program} {w : World} {K : PySem.W.Frag} {mg : Str → Option Value} {base : Heap}
theorem ok_nums {α : Type} [DecidableEq α] {e : α → PyData} (he : EncD e) {f : Addr} {fd : FuncData} (F : FnP K "_law_numbers" sNumbers f fd) : FnOk P w K mg base CX0 1 f fd ["_law_things"] (spNums e) := by
  have sc : FnScope ["_law_things", "_law_met", "_law_found", "_law_thing"] ["_law_things"] (defScope sNumbers) := ⟨rfl, rfl, rfl, by decide +kernel, rfl, by decide +kernel, by decide +kernel⟩
  refine F.ok sc (fun vs H Q E h => ?_) (fun cdv A outer s H vs Q E hr h => ?_)
  · obtain ⟨a, us, l, rfl, _⟩ := h
    rfl
  · obtain ⟨a, us, l, rfl, ha, hl, hp, h64, q⟩ := h
    have hu65 : (A.deeper (envOfC "_law_numbers" (defScope sNumbers) s.heap.objs.size f cdv)).units + 65 < cLine := by have := hr.un; omega
    refine ⟨_, PSs.nox (pss_cons (ps_par (i := 1) (j := 2) rfl sc.nd rfl rfl (by decide) rfl rfl (pa_cons (pe_lst pa_nil) (pa_cons (pe_lst pa_nil) pa_nil)) rfl)
    (pss_cons (ps_for PassesOwn.never rfl (pi_list (pv 0)) (pg_name (i := 3) sc.nd rfl (.inl rfl))
      (pss_cons (ps_if (PW.pt (pw_and (pt_cmpR op_notN (pv 3) pe_non (nomark _)) (pw_and1 (pt_cmpR (op_notInD hu65) (pv 3) (pv 1) (by rfl)))))
        (pss_one (ps_expr (pe_bm PySem.F.plainAttrs_list PySem.F.slot_list_append PySem.F.type_list_append mt_append (pv 1) (pa_cons (pv 3) pa_nil))))
        pss_nil)
      (pss_one (ps_expr (pe_bm PySem.F.plainAttrs_list PySem.F.slot_list_append PySem.F.type_list_append mt_append (pv 2) (pa_cons (pe_ifExp (pt_cmpR op_isN (pv 3) pe_non (nomark _)) pe_non (pe_bm PySem.F.plainAttrs_list PySem.F.slot_list_index PySem.F.type_list_index (mt_indexD hu65) (pv 1) (pa_cons (pv 3) pa_nil))) pa_nil))))))
    (pss_one (ps_ret (pv 2))))), ?_⟩
    refine ⟨(by show 0 ≤ sizeLine; decide), fun m nm => ⟨(by show 0 ≤ sizeLine; decide), fun g ng => ⟨_, _, rfl, ?_⟩⟩⟩
    have sm := same_upd (o := .lst []) nm
    have sg := same_upd (o := .lst []) ng
    have mg_ : m ≠ g := ne_of_none upd_same ng
    have ng0 : H g = none := by rw [upd_ne (Ne.symm mg_)] at ng; exact ng
    refine ⟨_, rfl, a, rfl, ⟨_, SqL.of (sg _ _ (sm _ _ ha))⟩, for_it walk_list (fun i σ H' => ∃ (met : List α) (ws : List V) (x3 : Option V), σ = [some (.ref a), some (.ref m), some (.ref g), x3] ∧ numA met (l.drop i) = (num l).drop i ∧ met.length ≤ i ∧ H' m = some (.lst ws) ∧ DtAll Any H ws (met.map e) ∧ H' g = some (.lst (vals ((num l).take i))) ∧ Same H H')
      ⟨[], [], none, rfl, rfl, Nat.le_refl _, sg _ _ upd_same, .nil, upd_same, sm.trans sg⟩ (fun i σ H' _ ⟨_, _, _, _, _, _, _, _, _, s'⟩ => SqL.of (s' _ _ ha)) ?_ ?_⟩
    · rintro i y σ H1 H2 hi ⟨met, ws, x3, rfl, en, ml, hm, hw, hg, s1⟩ ⟨rfl, ev⟩
      have il : i < l.length := by rw [← hl]; exact hi
      obtain ⟨o, eo⟩ : ∃ o, l[i]? = some o := ⟨_, List.getElem?_eq_getElem il⟩
      have pv_ := hp i y o ev eo
      obtain ⟨t1, t2⟩ := num_turn en eo
      have few : (vals ((num l).take i)).length < sizeLine := by
        rw [List.length_map]
        exact Nat.lt_of_le_of_lt (Nat.le_trans (List.length_take_le _ _) (Nat.le_trans (Nat.le_of_lt il) h64)) (by decide)
      have fin : ∀ (H3 : Hp) (ws' : List V), H3 m = some (.lst ws') → DtAll Any H ws' ((metN met o).map e) → H3 g = some (.lst (vals ((num l).take i))) → Same H H3 →
          ∃ (met' : List α) (ws : List V) (x3 : Option V), [some (V.ref a), some (.ref m), some (.ref g), some y] = [some (V.ref a), some (.ref m), some (.ref g), x3] ∧ numA met' (l.drop (i + 1)) = (num l).drop (i + 1) ∧ met'.length ≤ i + 1 ∧ (upd H3 g (.lst (vals ((num l).take i) ++ [optV (oneN met o)]))) m = some (.lst ws) ∧ DtAll Any H ws (met'.map e) ∧ (upd H3 g (.lst (vals ((num l).take i) ++ [optV (oneN met o)]))) g = some (.lst (vals ((num l).take (i + 1)))) ∧ Same H (upd H3 g (.lst (vals ((num l).take i) ++ [optV (oneN met o)]))) := fun H3 ws' h1 h2 h3 h4 =>
        ⟨metN met o, ws', _, rfl, t2, Nat.le_trans (metN_len met o) (Nat.succ_le_succ ml), by rw [upd_ne mg_]; exact h1, h2, by rw [upd_same, take_snoc' t1, vals_app]; rfl, fun b u eb => by rw [upd_ne (ne_of_none eb ng0)]; exact h4 _ _ eb⟩
      have few2 : ws.length < sizeLine := by
        rw [hw.len, List.length_map]
        exact Nat.lt_of_le_of_lt (Nat.le_trans ml (Nat.le_trans (Nat.le_of_lt il) h64)) (by decide)
      cases o with
      | none =>
        obtain rfl : y = .non := pv_
        refine ⟨_, rfl, rfl, _, rfl, iteF (iteF ?_)⟩
        refine ⟨_, rfl, .inl ⟨rfl, _, SqL.of hg⟩, _, rfl, rfl, _, rfl, iteT ?_⟩
        exact ⟨g, _, .non, rfl, rfl, hg, few, fin H2 ws hm hw hg s1⟩
      | some x =>
        have hv : Dt Any H y (e x) := pv_
        have ny : decide (y = V.non) = false := decide_eq_false fun z => by
          rw [z] at hv
          have z2 : ∀ d, Dt Any H .non d → d = .none := fun d h => by cases h; rfl
          exact he.nn x (z2 _ hv)
        have hv1 := hv.same s1
        have hw1 := hw.same s1
        refine ⟨_, rfl, rfl, _, rfl, ?_⟩
        rw [ny]
        refine iteT ⟨_, rfl, _, rfl, e x, met.map e, hv1.dp, (Dt.lst (S := Any) trivial hm hw1).dp, shaped_one he x, shaped_enc he met, _, rfl, ?_⟩
        rw [any_enc he]
        have rest : ∀ (H3 : Hp) (ws' : List V), H3 m = some (.lst ws') → DtAll Any H ws' ((metN met (some x)).map e) → H3 g = some (.lst (vals ((num l).take i))) → Same H H3 → tDrop (tBM K "list" rAppend (tVar 2) (tCons (tIf (tTest (tOp (fun x y H Q => y = V.non ∧ Q (V.bl (decide (x = V.non))) H) (tVar 3) (tC V.non))) (tC V.non) (tBM K "list" (rIndexD K) (tVar 1) (tCons (tVar 3) tNil))) tNil))
            { nx := fun σ H' => ∃ (met' : List α) (ws : List V) (x3 : Option V), σ = [some (V.ref a), some (.ref m), some (.ref g), x3] ∧ numA met' (l.drop (i + 1)) = (num l).drop (i + 1) ∧ met'.length ≤ i + 1 ∧ H' m = some (.lst ws) ∧ DtAll Any H ws (met'.map e) ∧ H' g = some (.lst (vals ((num l).take (i + 1)))) ∧ Same H H', rt := Q } [some (V.ref a), some (.ref m), some (.ref g), some y] H3 := fun H3 ws' h1 h2 h3 h4 => by
          have hx : x ∈ metN met (some x) := by
            show x ∈ (if x ∈ met then met else met ++ [x])
            split
            · assumption
            · simp
          have on_ : oneN met (some x) = some ((metN met (some x)).idxOf x) := by
            have z := get_met (f := fun z : α => z) (fun _ _ z => z) met x
            rw [valV_encM (fun _ _ z => z), if_pos hx, Nat.zero_add] at z
            exact optV_inj (Option.some.inj z).symm
          refine ⟨_, rfl, .inl ⟨rfl, _, SqL.of h3⟩, _, rfl, rfl, _, rfl, ?_⟩
          rw [ny]
          refine iteF ⟨_, rfl, .inl ⟨rfl, _, SqL.of h1⟩, _, rfl, ?_⟩
          dsimp only [tNil]
          refine index_of he h1 (h2.same h4) (hv.same h4) hx ?_
          refine ⟨g, _, _, rfl, rfl, h3, few, ?_⟩
          have z := fin H3 ws' h1 h2 h3 h4
          rw [on_] at z
          exact z
        by_cases hx : x ∈ met
        · rw [decide_eq_true hx]
          have em : metN met (some x) = met := if_pos hx
          exact iteF (rest H2 ws hm (by rw [em]; exact hw) hg s1)
        · rw [decide_eq_false hx]
          have em : metN met (some x) = met ++ [x] := if_neg hx
          refine iteT ⟨_, rfl, .inl ⟨rfl, _, SqL.of hm⟩, _, rfl, m, _, _, rfl, rfl, hm, few2, ?_⟩
          refine rest _ (ws ++ [y]) upd_same (by rw [em, List.map_append]; exact hw.app (.cons hv .nil)) ((upd_ne (Ne.symm mg_)).trans hg) fun b u eb => ?_
          rw [upd_ne (ne_of_none eb nm)]
          exact s1 _ _ eb
    · rintro σ H1 ⟨met, ws, x3, rfl, _, _, _, _, hg, s1⟩
      refine ⟨_, rfl, q H1 g s1 ng0 ?_⟩
      rw [hg, hl, List.take_of_length_le (by rw [num_len]; exact Nat.le_refl _)]
end
end K25

/-! entries, a size, a row, the number of classes -/
namespace K25
open PySem PySem.Spec PyProof.Rows L2
theorem kput {p D : Addr} {H H1 : Hp} {o : HO} (nD : H D = none) (k : Kept p H H1) : Kept p H (upd H1 D o) := fun a x na e => (upd_ne (ne_of_none e nD)).trans (k a x na e)
theorem cnt_app {p : List V} {c0 c : Nat} {v : V} (h : cnt c0 p = some c) : cnt c0 (p ++ [v]) = stepE c v := by
  induction p generalizing c0 with
  | nil =>
    cases h
    show (match stepE c v with | some d => cnt d [] | none => none) = _
    cases stepE c v <;> rfl
  | cons u p ih =>
    have h : (match stepE c0 u with | some d => cnt d p | none => none) = some c := h
    show (match stepE c0 u with | some d => cnt d (p ++ [v]) | none => none) = _
    cases e : stepE c0 u with
    | none => rw [e] at h; cases h
    | some d => rw [e] at h; exact ih h
def spEn : Sp := fun vs H Q _ => ∃ (p l : Addr) (n : Nat) (b : Bool), vs = [.ref p, .int (n : Int), .bl b] ∧ Hand p l H ∧ n ≤ 40 ∧ ∀ (H' : Hp) (z : Addr) (x : List (Option Nat)), Kept p H H' → Hand p l H' → H z = none → H' z = some (.lst (vals x)) → Pt x → x.length = n → Q (.ref z) H'
def spSize : Sp := fun vs H Q _ => ∃ (p l : Addr), vs = [.ref p] ∧ Hand p l H ∧ ∀ (H' : Hp) (n : Nat), n ≤ 40 → Kept p H H' → Hand p l H' → Q (.int (n : Int)) H'
section
variable {P : Program} {w : World} {K : PySem.W.Frag} {mg : Str → Option Value} {base : Heap}
theorem ok_en {f fD : Addr} {fd fdD : FuncData} (F : FnP K "_law_entries" sEntries f fd) (z_range : mg "range" = none) (dD : Df P w K mg base "_law_draw" 2 ["_law_hand_here", "_law_many"] spDr fD fdD) : FnOk P w K mg base CX0 3 f fd ["_law_hand_here", "_law_size_here", "_law_empty"] spEn := by
  have sc : FnScope ["_law_hand_here", "_law_size_here", "_law_empty", "_law_entries_here", "_law_met", "_law_k", "_law_entry"] ["_law_hand_here", "_law_size_here", "_law_empty"] (defScope sEntries) := ⟨rfl, rfl, rfl, by decide +kernel, rfl, by decide +kernel, by decide +kernel⟩
  refine F.ok sc (fun vs H Q E h => ?_) (fun cdv A outer s H vs Q E hr2 h => ?_)
  · obtain ⟨p, l, n, b, rfl, _⟩ := h
    rfl
  · obtain ⟨p, l, n, b, rfl, hp, hn, q⟩ := h
    refine ⟨_, PSs.nox (pss_cons (ps_par (i := 3) (j := 4) rfl sc.nd rfl rfl (by decide) rfl rfl (pa_cons (pe_lst pa_nil) (pa_cons pe_int pa_nil)) rfl)
    (pss_cons (ps_for PassesOwn.never rfl (pi_range1 (by rfl) z_range (pa_cons (pv 1) pa_nil)) (pg_name (i := 5) sc.nd rfl (.inl rfl))
      (pss_one (ps_if (PW.pt (pw_and (pt_val (pv 2)) (pw_and1 (pt_cmpR op_eq (pe_call dD.ok hr2 (by rfl) dD.gl dD.kp dD.bi .nil pass0 (pa_cons (pv 0) (pa_cons pe_int pa_nil))) pe_int (nomark _)))))
        (pss_one (ps_expr (pe_bm PySem.F.plainAttrs_list PySem.F.slot_list_append PySem.F.type_list_append mt_append (pv 3) (pa_cons pe_non pa_nil))))
        (pss_cons (ps_set (i := 6) sc.nd rfl (.inl rfl) (pe_call dD.ok hr2 (by rfl) dD.gl dD.kp dD.bi .nil pass0 (pa_cons (pv 0) (pa_cons (pe_op op_add (pv 4) pe_int) pa_nil))))
        (pss_cons (ps_set (i := 4) sc.nd rfl (.inl rfl) (pe_ifExp (pt_cmpR op_eq (pv 6) (pv 4) (nomark _)) (pe_op op_add (pv 4) pe_int) (pv 4)))
        (pss_one (ps_expr (pe_bm PySem.F.plainAttrs_list PySem.F.slot_list_append PySem.F.type_list_append mt_append (pv 3) (pa_cons (pv 6) pa_nil)))))))))
    (pss_one (ps_ret (pv 3))))), ?_⟩
    refine ⟨Nat.zero_le _, fun D nD => ⟨_, _, rfl, ?_⟩⟩
    have Dp := hp.nn nD
    have Dl := hp.nl nD
    have s0 := same_upd (o := .lst []) nD
    refine ⟨_, rfl, (n : Int), rfl, by omega, by omega, ?_⟩
    rw [Int.toNat_natCast]
    refine for_it walk_range (fun i σ H' => ∃ (x5 x6 : Option V) (x : List (Option Nat)) (c : Nat), σ = [some (.ref p), some (.int (n : Int)), some (.bl b), some (.ref D), some (.int (c : Int)), x5, x6] ∧ c ≤ i ∧ H' D = some (.lst (vals x)) ∧ cnt 0 (vals x) = some c ∧ x.length = i ∧ Kept p H H' ∧ Hand p l H')
      ⟨none, none, [], 0, rfl, Nat.le_refl _, upd_same, rfl, rfl, Kept.same s0, hp.app Dp Dl⟩ (fun _ _ _ _ _ => trivial) ?_ ?_
    · rintro i y σ Hx H1 hi ⟨x5, x6, x, c, rfl, hc, eD, ex, em, k1, h1⟩ ⟨rfl, rfl⟩
      have va : ∀ o, cnt 0 (vals (x ++ [o])) = stepE c (optV o) := fun o => by
        rw [vals_app]
        exact cnt_app ex
      have xl : (vals x).length < sizeLine := by
        rw [List.length_map, em]
        exact Nat.lt_of_lt_of_le (show i < 40 by omega) (by decide)
      have fin : ∀ (o : Option Nat) (c' : Nat) (u : Option V) (H3 : Hp), Kept p H H3 → Hand p l H3 → cnt 0 (vals (x ++ [o])) = some c' → c' ≤ i + 1 → ∃ (x5' x6' : Option V) (x' : List (Option Nat)) (c2 : Nat), [some (.ref p), some (.int (n : Int)), some (.bl b), some (.ref D), some (.int (c' : Int)), some (.int (0 + (i : Int))), u] = [some (.ref p), some (.int (n : Int)), some (.bl b), some (.ref D), some (.int (c2 : Int)), x5', x6'] ∧ c2 ≤ i + 1 ∧ (upd H3 D (.lst (vals x ++ [optV o]))) D = some (.lst (vals x')) ∧ cnt 0 (vals x') = some c2 ∧ x'.length = i + 1 ∧ Kept p H (upd H3 D (.lst (vals x ++ [optV o]))) ∧ Hand p l (upd H3 D (.lst (vals x ++ [optV o]))) := fun o c' u H3 k13 h3 hc' hl => by
        refine ⟨_, _, x ++ [o], c', rfl, hl, by rw [upd_same, vals_app]; rfl, hc', ?_, kput nD k13, h3.app Dp Dl⟩
        rw [List.length_append, em]
        rfl
      have slow : ∀ H2 : Hp, Kept p H1 H2 → Hand p l H2 → tSeq (tAsg (tCall spDr [] E0 (tCons (tVar 0) (tCons (tOp rAdd (tVar 4) (tC (V.int 1))) tNil))) (gName 6)) (tSeq (tAsg (tIf (tTest (tOp rEq (tVar 6) (tVar 4))) (tOp rAdd (tVar 4) (tC (V.int 1))) (tVar 4)) (gName 4)) (tDrop (tBM K "list" rAppend (tVar 3) (tCons (tVar 6) tNil))))
          { nx := fun σ H' => ∃ (x5' x6' : Option V) (x' : List (Option Nat)) (c2 : Nat), σ = [some (.ref p), some (.int (n : Int)), some (.bl b), some (.ref D), some (.int (c2 : Int)), x5', x6'] ∧ c2 ≤ i + 1 ∧ H' D = some (.lst (vals x')) ∧ cnt 0 (vals x') = some c2 ∧ x'.length = i + 1 ∧ Kept p H H' ∧ Hand p l H', rt := Q } [some (.ref p), some (.int (n : Int)), some (.bl b), some (.ref D), some (.int (c : Int)), some (.int (0 + (i : Int))), x6] H2 := fun H2 k2 h2 => by
        refine ⟨_, rfl, _, rfl, _, _, rfl, rfl, p, l, (c : Int) + 1, rfl, h2, by omega, Nat.lt_of_le_of_lt (show ((c : Int) + 1).natAbs ≤ 41 by omega) (by decide +kernel), fun d H3 d0 d1 k3 h3 => ?_⟩
        obtain ⟨m, rfl⟩ := Int.eq_ofNat_of_zero_le d0
        have eD3 := k3 _ _ Dp (k2 _ _ Dp eD)
        have k13 := (k1.trans k2).trans k3
        refine ⟨_, rfl, _, rfl, rfl, _, rfl, ite2 (fun g => ?_) (fun g => ?_)⟩
        · have g2 : m = c := by
            have := V.int.inj (of_decide_eq_true g)
            omega
          refine ⟨_, rfl, _, _, rfl, rfl, _, rfl, .inl ⟨rfl, _, SqL.of eD3⟩, _, rfl, D, _, _, rfl, rfl, eD3, xl, ?_⟩
          exact fin (some m) (c + 1) _ H3 k13 h3 (by rw [va, stepE_some, if_neg (by omega), if_pos g2]) (by omega)
        · have g2 : m ≠ c := fun z => g (decide_eq_true (by rw [z]))
          refine ⟨_, rfl, _, rfl, .inl ⟨rfl, _, SqL.of eD3⟩, _, rfl, D, _, _, rfl, rfl, eD3, xl, ?_⟩
          exact fin (some m) c _ H3 k13 h3 (by rw [va]; rw [stepE_some, if_neg (by omega), if_neg g2]) (by omega)
      cases b with
      | false => exact ⟨_, rfl, _, rfl, iteF (iteF (slow H1 Kept.refl h1))⟩
      | true =>
        refine ⟨_, rfl, _, rfl, iteT ⟨_, rfl, p, l, 4, rfl, h1, by decide, by decide +kernel, fun d H2 d0 d1 k2 h2 => ⟨rfl, _, rfl, ite2 (fun g => ?_) (fun g => slow H2 k2 h2)⟩⟩⟩
        exact ⟨_, rfl, .inl ⟨rfl, _, SqL.of (k2 _ _ Dp eD)⟩, D, _, _, rfl, rfl, k2 _ _ Dp eD, xl, fin none c _ H2 (k1.trans k2) h2 (by rw [va]; rfl) (by omega)⟩
    · rintro σ H1 ⟨x5, x6, x, c, rfl, hc, eD, ex, em, k1, h1⟩
      exact ⟨_, rfl, q H1 D x k1 h1 nD eD (pt_of_cnt ex) em⟩
theorem ok_size {f fD : Addr} {fd fdD : FuncData} (F : FnP K "_law_size" sSize f fd) (dD : Df P w K mg base "_law_draw" 2 ["_law_hand_here", "_law_many"] spDr fD fdD) : FnOk P w K mg base CX0 3 f fd ["_law_hand_here"] spSize := by
  have sc : FnScope ["_law_hand_here", "_law_kind"] ["_law_hand_here"] (defScope sSize) := ⟨rfl, rfl, rfl, by decide +kernel, rfl, by decide +kernel, by decide +kernel⟩
  refine F.ok sc (fun vs H Q E h => ?_) (fun cdv A outer s H vs Q E hr2 h => ?_)
  · obtain ⟨p, l, rfl, _⟩ := h
    rfl
  · obtain ⟨p, l, rfl, hp, q⟩ := h
    refine ⟨_, PSs.nox (pss_cons (ps_set (i := 1) sc.nd rfl (.inl rfl) (pe_call dD.ok hr2 (by rfl) dD.gl dD.kp dD.bi .nil pass0 (pa_cons (pv 0) (pa_cons pe_int pa_nil))))
    (pss_one (ps_ret (pe_ifExp (pt_cmpR op_eq (pv 1) pe_int (nomark _)) pe_int (pe_ifExp (pt_cmpR op_eq (pv 1) pe_int (nomark _)) (pe_call dD.ok hr2 (by rfl) dD.gl dD.kp dD.bi .nil pass0 (pa_cons (pv 0) (pa_cons pe_int pa_nil))) (pe_call dD.ok hr2 (by rfl) dD.gl dD.kp dD.bi .nil pass0 (pa_cons (pv 0) (pa_cons pe_int pa_nil)))))))), ?_⟩
    refine ⟨_, rfl, p, l, 10, rfl, hp, by decide, by decide +kernel, fun d1 H1 d10 d11 k1 h1 => ?_⟩
    refine ⟨_, rfl, rfl, _, rfl, ite2 (fun g => q _ 40 (Nat.le_refl _) k1 h1) (fun g => ?_)⟩
    refine ⟨_, rfl, rfl, _, rfl, ite2 (fun g => ?_) (fun g => ?_)⟩
    · refine ⟨_, rfl, p, l, 41, rfl, h1, by decide, by decide +kernel, fun d H2 d0 d1 k h => ?_⟩
      obtain ⟨n, rfl⟩ := Int.eq_ofNat_of_zero_le d0
      exact q _ n (by omega) (k1.trans k) h
    · refine ⟨_, rfl, p, l, 9, rfl, h1, by decide, by decide +kernel, fun d H2 d0 d1 k h => ?_⟩
      obtain ⟨n, rfl⟩ := Int.eq_ofNat_of_zero_le d0
      exact q _ n (by omega) (k1.trans k) h
end
end K25

set_option maxHeartbeats 2000000
/-! several clauses 'except X as e' -/
namespace TaX
open PySem PySem.Spec PyProof.Rows L2
/-- a clause: its class, its name's slot, what its suite does -/
structure Cl where
  cls : Value
  slot : Nat
  ts : Addr → Value → Option Addr → TS
/-- the slot is empty behind the suite -/
def behind (D : Ends) (i : Nat) : Ends := { nx := fun σ' H' => D.nx (σ'.set i none) H', rt := D.rt, bk := fun σ' H' => D.bk (σ'.set i none) H', ct := fun σ' H' => D.ct (σ'.set i none) H' }
def wCls (K : PySem.W.Frag) (Wout : WX) (D : Ends) : List Cl → WX
  | [] => Wout
  | k :: r => fun cls d σ H => ∃ b, PySem.W.exmOne K cls k.cls = some b ∧ (b = true → ∀ a, H a = none → k.ts a cls d (behind D k.slot) (σ.set k.slot (some (.ref a))) H) ∧ (b = false → wCls K Wout D r cls d σ H)
inductive ClsOk (X : Cx) : List ExceptHandler → List Cl → Prop
  | nil : ClsOk X [] []
  | cons {x n : Str} {k : Cl} {b₀ : Stmt} {suite : List Stmt} {np pos' : Pos} {hds : List ExceptHandler} {l : List Cl} (hc : Names X x k.cls) (hi : X.N[k.slot]? = some n) (hln : X.env.kindOf n = some .local)
      (hsu : ∀ (a : Addr) (oe : Obj) (cls : Value) (d : Option Addr) (pn : List (Addr × Obj)), Zc cls d oe → (∃ vs, oe.data = .fields vs) → PSs (X.suite a ((a, oe) :: pn)) (b₀ :: suite) (k.ts a cls d)) (r : ClsOk X hds l) :
      ClsOk X (.ExceptHandler (some (.Name x np)) (some n) (b₀ :: suite) pos' :: hds) (k :: l)
section
variable {X : Cx} {body : List Stmt} {h₀ : ExceptHandler} {hds : List ExceptHandler} {l : List Cl} {pos : Pos} {tb : WX → TS} {Wout : WX}
theorem ps_try_cls (hs : X.stack = X.env :: X.outer) (hf : X.env.frame = some X.env.locals) (hN : X.N.Nodup) (tk : Takes X Wout)
    (hb : ∀ (W : WX) (pn : List (Addr × Obj)) (xe : Value → Shared → Prop), Takes (X.tr pn xe) W → PassesOwn (model X.prog X.w) X.A X.env xe → PSs (X.tr pn xe) body (tb W))
    (hh : ClsOk X (h₀ :: hds) l) : PS X (.Try body (h₀ :: hds) [] [] pos) (fun D σ H => tb (wCls X.K Wout D l) D σ H) := by
  refine ⟨fun pins s σ H D I h => ?_⟩
  have ok := I.ok
  have frames : X.A.frames = some (X.env :: X.outer) := ok.frames.trans (congrArg some hs)
  refine wpAny_Try_except ?_
  refine wpAny_mono ((hb (wCls X.K Wout D l) (X.pn ++ pins) (fun e s₁ => wpAny (model X.prog X.w) X.A (noteFrame e X.env) (fun _ s₂ => wpAny (model X.prog X.w) X.A (setFlight e none) (fun _ s₃ =>
    wpAny (model X.prog X.w) X.A (handleBy e X.env (h₀ :: hds)) (SP X pins D) X.xe s₃) X.xe s₂) X.xe s₁) (fun u s' caught => ?_) PassesOwn.looking).run [] s σ H D (I.toTry _) h) (fun f s1 done => ?_) (fun e s1 he => he)
  · obtain ⟨a, B, sI, pins', σ', H', cls, d, rfl, J', nb, up, sky, na, os, ag, w⟩ := caught
    have J : Inv X pins σ' H' sI := J'.ofTry ok
    have sky' : Sky B (X.env :: X.outer) a (Zc cls d) X.env.locals s'.heap := hs ▸ sky
    show wpAny (model X.prog X.w) X.A (noteFrame (.ref a) X.env) _ _ _
    refine Sky.land Zc.steady frames hf sky' fun h3 fl3 up3 => ?_
    have J3 : Inv X pins σ' H' { s' with heap := h3 } := J.landed nb fl3.1 (up.trans up3) os ag
    obtain ⟨oe3, vs3, he3, hz3, hd3⟩ := fl3.there
    have nfr : a ∉ frs (X.env :: X.outer) := fun hm => by
      obtain ⟨_, o', e', hnf⟩ := fl3.2.2.1.mem hm
      obtain rfl := Option.some.inj (he3.symm.trans e')
      exact hnf _ hd3
    have nL : a ≠ X.env.locals := fun z => nfr (List.mem_filterMap.mpr ⟨X.env, List.mem_cons_self, hf.trans (congrArg some z.symm)⟩)
    have nF : a ∉ X.fs := fun hm => by
      obtain ⟨e, he, q⟩ := List.mem_filterMap.mp hm
      exact nfr (List.mem_filterMap.mpr ⟨e, List.mem_cons_of_mem _ he, q⟩)
    have S3 := J3.suite he3 hd3 na nL nF
    have look : PySem.W.Looks (model X.prog X.w) h3 (typeOf (.ref a)) cls := fun A Q E s k q => wpAny_typeOf_ref (k _ _ he3) (by rw [hz3.1]; exact q)
    suffices go : ∀ {hs' : List ExceptHandler} {l' : List Cl}, ClsOk X hs' l' → wCls X.K Wout D l' cls d σ' H' → wpAny (model X.prog X.w) X.A (handleBy (.ref a) X.env hs') (SP X pins D) X.xe { s' with heap := h3 } from go hh w
    intro hs' l' hk
    induction hk with
    | nil =>
      intro w
      refine wpAny_handleBy_nil ?_
      obtain ⟨k1, k2, k3, oe, vs, T, oT, ts', he, hz, hd, h1, hr⟩ := id fl3
      unfold PySem.passOn
      refine wpAny_bind (wpAny_field he hd h1 ?_)
      rw [if_neg (show ¬ ((Value.ref T == Value.none) = true) from by simp)]
      have fin : wpAny (model X.prog X.w) X.A (setFlight (.ref a) X.env.frame) (fun _ s4 => wpAny (model X.prog X.w) X.A (throw (.ref a) : Sem Flow) (SP X pins D) X.xe s4) X.xe { s' with heap := h3 } := by
        rw [hf]
        refine HandSPX.setFlight_upZ fl3 fun h4 hh4 up4 => wpAny_throw (tk _ _ ?_)
        exact ⟨a, B, sI, pins, σ', H', cls, d, rfl, J, nb, (up.trans up3).trans up4, .inr (.inr (by rw [hs]; exact hh4)), na, os, ag, w⟩
      first
        | exact wpAny_bind (wpAny_pure (wpAny_bind fin))
        | exact wpAny_bind fin
    | @cons x n k b₀ suite np pos' hds2 l2 hc hi hln hsu r ih =>
      intro ⟨b, hb1, yes, no⟩
      refine wpAny_handleBy_cons (codeAny_handlers_test ?_) (by intro q; cases q)
      have class_ : ∀ {Q : Value → Shared → Prop} {E : Value → Shared → Prop}, Q k.cls { s' with heap := h3 } → wpAny (model X.prog X.w) (X.A.mark (some (.ref a))) (eval (.Name x np) X.env) Q E { s' with heap := h3 } := fun {Q E} q =>
        match hc with
        | ⟨hg, hd, .inl hm⟩ => ld_glob (X := X.suite a ((a, oe3) :: (X.pn ++ pins))) S3 hg hm q hd
        | ⟨hg, hd, .inr ⟨hm, hv, hn⟩⟩ => ld_blt (X := X.suite a ((a, oe3) :: (X.pn ++ pins))) S3 hg hm hv q hn hd
      refine class_ ((PySem.W.exm_one (M := model X.prog X.w) J3.kIn look hb1).here ?_)
      cases b with
      | false =>
        show wpAny _ X.A (handleBy (.ref a) X.env hds2) _ _ _
        exact ih (no rfl)
      | true =>
        refine codeAny_handlers_suite_as ?_
        refine HandSPX.lands_againZ fl3 fun h4 fl4 up4 => ?_
        have J4 : Inv X pins σ' H' { s' with heap := h4 } := J.landed nb fl4.1 ((up.trans up3).trans up4) os ag
        obtain ⟨oe4, vs4, he4, hz4, hd4⟩ := fl4.there
        have S4 := J4.suite he4 hd4 na nL nF
        refine store_ok (X := X.suite a ((a, oe4) :: (X.pn ++ pins))) (v := .ref a) S4 hN hi (show Loc X.env.scope n from .inl hln) rfl (fun s5 S5 => ?_) (.inr hln)
        refine wpAny_mono ((hsu a oe4 cls d (X.pn ++ pins) hz4 ⟨_, hd4⟩).run [] s5 _ H' _ S5 (yes rfl a na)) (fun f s6 hsp => ?_) (fun _ _ z => False.elim z)
        have gone : ∀ {σ6 : L2.St} {H6 : Hp} {Q : Shared → Prop}, Inv (X.suite a ((a, oe4) :: (X.pn ++ pins))) [] σ6 H6 s6 → (∀ s7, Inv X pins (σ6.set k.slot none) H6 s7 → Q s7) →
            wpAny (model X.prog X.w) X.A (do bindName X.env n .none; unbindBehindTheSuite X.env n pos') (fun _ s7 => Q s7) X.xe s6 := fun S6 hq => gone_ok (S6.unsuite ok) hN hi hln hq
        match f, hsp with
        | .next, ⟨σ6, H6, S6, q6⟩ => exact gone S6 fun s7 J7 => ⟨_, _, J7, q6⟩
        | .brk, ⟨σ6, H6, S6, q6⟩ => exact gone S6 fun s7 J7 => ⟨_, _, J7, q6⟩
        | .cont, ⟨σ6, H6, S6, q6⟩ => exact gone S6 fun s7 J7 => ⟨_, _, J7, q6⟩
        | .ret u, ⟨v6, σ6, H6, S6, r6, q6⟩ => exact gone S6 fun s7 J7 => ⟨_, _, _, J7, r6, q6⟩
  · match f, done with
    | .next, ⟨σ', H', J', q⟩ => exact wpAny_execs_nil ⟨σ', H', J'.ofTry ok, q⟩
    | .brk, ⟨σ', H', J', q⟩ => exact ⟨σ', H', J'.ofTry ok, q⟩
    | .cont, ⟨σ', H', J', q⟩ => exact ⟨σ', H', J'.ofTry ok, q⟩
    | .ret u, ⟨v, σ', H', J', r, q⟩ => exact ⟨v, σ', H', J'.ofTry ok, r, q⟩
end
end TaX

/-! a lambda handed to a def that calls it in a try: what is let out is told of the very slots -/
namespace TaX
open PySem PySem.Spec PyProof.Rows L2 LamX
section
variable {X : Cx} {pins : List (Addr × Obj)} {σ : L2.St} {H : Hp} {s : Shared}
/-- the def's context, entered at s -/
abbrev cxG (X : Cx) (Ng : List Str) (qg : Str) (sg : Scope) (g : Addr) (cdg : Value) (s : Shared) (H : Hp) : Cx := cxOf C8.CX0 X.prog X.w X.K X.mg X.base Ng qg sg g cdg X.A X.stack s H C8.E0
theorem pe_actA {Ng : List Str} {qg a : Str} {sg scope : Scope} {g f cc : Addr} {cdg pm ctv : Value} {params : Arguments} {body : Expr} {k i : Nat} {more : List (Addr × Obj)} {xe : Value → Shared → Prop} {W : WX} {t : XK → TE} {p1 p2 : Pos}
    (I : Inv X pins σ H s) (L : LamS X.env.scope scope) (there : s.heap.get? f = some (PySem.W.kla_obj "<lambda>" (X.env.qual ++ "<lambda>") params body scope (cloFrom X.env.cells scope.names []) pm cc ctv)) (free : H f = none) (noFr : f ∉ frs X.stack)
    (binds : bindArgs (PySem.W.kla_fn "<lambda>" (X.env.qual ++ "<lambda>") params body scope (cloFrom X.env.cells scope.names []) pm (.ref cc) ctv) ⟨[], []⟩ = pure [])
    (tk : Takes ((cxG X Ng qg sg g cdg s H).tr more xe) W) (room : Room (k + 1) (X.A.deeper (envOfC qg sg s.heap.objs.size g cdg)))
    (reads : ∀ (E : XK) (A : Around) (outer : List Env) (s : Shared) (H : Hp), Room k (A.deeper (lamEnv X scope s.heap.objs.size f cc)) → PE (lamCx X A outer s H E scope f cc) body (t E))
    (hN : Ng[i]? = some a) (vis : Vis sg a) (n1 : (a == ("__debug__" : Str)) = false := by decide) (n2 : (a == ("__classdict__" : Str)) = false := by decide) :
    PE ((cxG X Ng qg sg g cdg s H).tr more xe) (.Call (.Name a p1) [] [] p2) (fun σg Hg Q => σg[i]? = some (some (.ref f)) ∧ Hg cc = some (CodeO cc (X.env.qual ++ "<lambda>")) ∧ ∃ E : XK, (∀ cls d H', E cls d H' → W cls d σg H') ∧ t E σ Hg Q) := by
  refine ⟨fun pinsG sG σg Hg Q J ⟨slot, code, E, passed, want⟩ => ?_⟩
  refine wpAny_Call_Name_kw (thn ((pe_var (pos := p1) (i := i) hN vis n1 n2).run pinsG sG σg Hg (fun v H1 => v = .ref f ∧ H1 = Hg) J ⟨.ref f, slot, rfl, rfl⟩) fun u s2 ⟨v, H2, J2, rel, isF, eqH⟩ => ?_)
  subst isF eqH
  obtain rfl : u = Value.ref f := rel
  have f2 := J2.base.keep f _ there free noFr (fun z => nomatch (show f ∈ ([] : List Addr) from z))
  refine PySem.W.callWith_F0 ⟨_, _, _, _, f2⟩ ?_
  obtain ⟨⟨oc, us, tg, o1, o2, o3⟩, _, _⟩ := J2.hok cc _ code
  have called : codeAny (model X.prog X.w) (X.A.deeper (envOfC qg sg s.heap.objs.size g cdg)) (.call (.ref f) ⟨[], []⟩) (CR (L2.CX X.prog X.w) (envOfC qg sg s.heap.objs.size g cdg :: X.stack) X.prog X.w H2 s2 Q E) s2 := by
    refine PySem.W.kla_callFunE room.depth f2 rfl L.co L.gen rfl ⟨cc, oc, us, tg, rfl, o1, o2, o3⟩ ?_
    rw [binds]
    refine wpAny_pure (wpAny_newFunctionEnv (fun y hy => (L.own y hy).2) (fun y hy => absurd hy (by simp)) (fun h2 ns2 same => ⟨J2.nolimit.fresh _ same, ?_⟩) L.kind)
    show codeAny _ _ (.expr body (lamEnv X scope s2.heap.objs.size f cc)) _ _
    have begun := lam_start2 (f := f) (c' := cc) (E := E) (h₁ := h2) (tk := s2.toks + ([] : List (Str × Value)).length) I L J2.env0 room.hd J2.base ns2 fun b o e => same.extBut b o (Nat.ne_of_lt (Heap.lt_size e)) (Heap.get?_push_of_some _ e)
    refine PySem.W.kla_codeExpr (wpAny_mono ((reads _ _ _ s2 H2 (room.deeper _)).run [] _ _ H2 Q begun want) (fun v s3 ⟨x, H3, K3, r3, q3⟩ => ?_) fun e s3 hq => hq)
    exact ⟨x, H3, K3.os, K3.bare, K3.base, K3.hok, r3, q3⟩
  refine wpAny_call (codeAny_mono called fun r s3 hq => ?_)
  match r, hq with
  | .error e, hq => exact tk e s3 (XE.of_call J2 (fun cls d H' h => passed cls d H' h) hq)
  | .ok (.ret u), hq => exact J2.after hq
end
/-- the def that calls what it got; T: what it makes of the lambda's reading -/
def GivesA (X : Cx) (Ng : List Str) (x : Str) (sg : Scope) (g : Addr) (cdg : Value) (bg : List Stmt) (a : Str) (q : Str) (T : (XK → Hp → VK → Prop) → Hp → VK → Prop) : Prop :=
  ∀ (f cc : Addr) (s : Shared) (H : Hp) (Q : VK) (tl : XK → Hp → VK → Prop),
    (∀ (W : WX) (more : List (Addr × Obj)) (xe : Value → Shared → Prop) (p1 p2 : Pos), Takes ((cxG X Ng x sg g cdg s H).tr more xe) W →
      PE ((cxG X Ng x sg g cdg s H).tr more xe) (.Call (.Name a p1) [] [] p2) (fun σg Hg Q => σg[0]? = some (some (.ref f)) ∧ Hg cc = some (CodeO cc q) ∧ ∃ E : XK, (∀ cls d H', E cls d H' → W cls d σg H') ∧ tl E Hg Q)) →
    H cc = some (CodeO cc q) → T tl H Q →
    ∃ t, PSs (cxG X Ng x sg g cdg s H).nox bg t ∧ t { nx := fun _ H' => Q .non H', rt := Q } (L2.start Ng [.ref f]) H
section
variable {X : Cx}
theorem pe_lamA {T : List (Addr × Str)} {TT : (XK → Hp → VK → Prop) → Hp → VK → Prop} {x a : Str} {g c Pt : Addr} {k : Nat} {pg params : Arguments} {bg : List Stmt} {sg scope : Scope} {dV kV doc pm cdv ct oc : Value} {an od : Option Addr} {osl : Array (Option Value)} {Ng : List Str} {body : Expr} {t : XK → TE} {p lpos pos : Pos}
    (hg : Gl X x) (hm : X.mg x = some (.ref g)) (hk : PySem.W.keepIn X.K (.ref g) = true) (lk : X.K.lookup g = some ⟨oc, od, .func (PySem.W.fnOf x x pg bg sg dV kV doc pm an cdv ct), osl⟩) (hcg : PySem.W.codeIn X.K cdv x = true)
    (hb : L2.Binds X.K (PySem.W.fnOf x x pg bg sg dV kV doc pm an cdv ct) [a] []) (Sg : FnScope Ng [a] sg) (hNg : Ng[0]? = some a) (hva : Vis sg a) (gives : GivesA X Ng x sg g cdv bg a (X.env.qual ++ "<lambda>") TT)
    (TB : TabB X.base X.mg c Pt) (hcode : X.env.code = .ref c) (hmT : (Pt, X.env.qual ++ "<lambda>") ∈ T) (hu : ∀ p ∈ T, p.1 = Pt → p.2 = X.env.qual ++ "<lambda>") (hr : Room (k + 2) X.A) (L : LamS X.env.scope scope) (hdef : defaultsOf params X.env = ([], []))
    (hbind : ∀ (q : Str) (cl : List (Str × Addr)) (pm cv ctv : Value), bindArgs (PySem.W.kla_fn "<lambda>" q params body scope cl pm cv ctv) ⟨[], []⟩ = pure [])
    (reads : ∀ (A : Around) (outer : List Env) (s : Shared) (H : Hp) (E : XK) (f cc : Addr), Room k (A.deeper (lamEnv X scope s.heap.objs.size f cc)) → PE (lamCx X A outer s H E scope f cc) body (t E))
    (n0 : (x == ("__debug__" : Str)) = false := by decide) (n1 : (a == ("__debug__" : Str)) = false := by decide) (n2 : (a == ("__classdict__" : Str)) = false := by decide) :
    PE X (.Call (.Name x p) [.Lambda params body scope lpos] [] pos) (tLam T TT t) := by
  refine ⟨fun pins s σ H Q I ⟨tabs, want⟩ => ?_⟩
  refine wpAny_Call_Name_kw (ld_glob I hg hm ?_ n0)
  refine PySem.W.callWith_K (h₀ := X.base) I.ok.mod.kin hk ?_ (by rfl) (by rfl)
  show wpAny _ _ (spliced ((false, eval (.Lambda params body scope lpos) X.env) :: backTo pos (starEach [] X.env))) _ _ s
  refine Calls.spliced_cons (lam_make2 I TB hcode hmT hu tabs hdef (L.has I.ok) fun f cc pm2 ctv H2 s2 J grown tabs2 there free noFr code => Calls.spliced_nil ⟨J.kIn, ?_⟩)
  have called : codeAny (model X.prog X.w) X.A (.call (.ref g) ⟨[.ref f], []⟩) (CR C8.CX0 X.stack X.prog X.w H2 s2 Q C8.E0) s2 := by
    refine run_ofS (N := Ng) (ps := [a]) (us := [.ref f]) (vs := [.ref f]) lk hcg Sg hr J.env0 (hb s2 [.ref f] J.kIn rfl) (.cons rfl .nil) rfl fun room => ?_
    obtain ⟨tt, r, q⟩ := gives f cc s2 H2 Q (fun E H' Q' => t E σ H' Q') (fun W more xe p1 p2 tk => pe_actA (i := 0) (t := t) J L there free noFr (hbind _ _ _ _ _) tk room (fun E A outer s H r2 => reads A outer s H E f cc r2) hNg hva n1 n2) code (want H2 grown tabs2)
    exact ⟨tt, r.nox, q⟩
  refine wpAny_call (codeAny_mono called fun r s3 hq => ?_)
  match r, hq with
  | .error e, hq => exact False.elim hq
  | .ok (.ret u), hq => exact J.after hq
end
end TaX

/-! promises that hold where no text of a list is under way; repr of a list, of a tuple -/
namespace GrdX
open PySem PySem.Spec PyProof.Rows L2
/-- no repr of a container is under way -/
def Bare (A : Around) : Prop := A.guards = some []
structure FnG (P : Program) (w : World) (K : PySem.W.Frag) (mg : Str → Option Value) (base : Heap) (CX : CXT) (k : Nat) (f : Addr) (fd : FuncData) (ps : List Str) (sp : Sp) : Prop where
  len : ∀ vs H Q E, sp vs H Q E → vs.length = ps.length
  run : ∀ (A : Around) (outer : List Env) (s : Shared) (H : Hp) (args : Args) (us : List Value) (vs : List V) (Q : VK) (E : XK), Room k A → Bare A → Env0 P w K mg base A outer s H → BindsTo s fd args (ps.zip us) → Vals vs us → sp vs H Q E →
    codeAny (model P w) A (.call (.ref f) args) (CR CX outer P w H s Q E) s
section
variable {P : Program} {w : World} {K : PySem.W.Frag} {mg : Str → Option Value} {base : Heap} {CX : CXT} {k : Nat} {f : Addr} {fd : FuncData} {ps : List Str} {sp : Sp}
theorem FnG.of (F : FnOk P w K mg base CX k f fd ps sp) : FnG P w K mg base CX k f fd ps sp := ⟨F.len, fun A outer s H args us vs Q E hr _ => F.run A outer s H args us vs Q E hr⟩
theorem okG {x qual : Str} {params : Arguments} {body : List Stmt} {scope : Scope} {dvs : List V} {kws : List (Str × V)} {N : List Str} (F : FunD K x qual params body scope dvs kws f fd) (S : FnScope N ps scope) (len : ∀ vs H Q E, sp vs H Q E → vs.length = ps.length)
    (hbody : ∀ (cdv : Value) (A : Around) (outer : List Env) (s : Shared) (H : Hp) (vs : List V) (Q : VK) (E : XK), Room k (A.deeper (envOfC qual scope s.heap.objs.size f cdv)) → Bare (A.deeper (envOfC qual scope s.heap.objs.size f cdv)) → sp vs H Q E →
      ∃ t, PSs (cxOf CX P w K mg base N qual scope f cdv A outer s H E) body t ∧ t { nx := fun _ H' => Q .non H', rt := Q } (L2.start N vs) H) : FnG P w K mg base CX (k + 1) f fd ps sp := by
  obtain ⟨oc, od, dV, kV, doc, pm, an, cdv, ct, osl, rfl, lk, hcd, _, _⟩ := F.ex
  refine ⟨len, fun A outer s H args us vs Q E hr hg e0 hb r hsp => ?_⟩
  -- the body's reading at this call, then as for any promise
  obtain ⟨t, ht, hq⟩ := hbody cdv A outer s H vs Q E (hr.deeper _) hg hsp
  have hl := len _ _ _ _ hsp
  have KX : K.In s.heap := e0.mod.kin.keeps fun b o e => (e0.bs b o e).1
  have lim : s.heap.NoLimit := e0.mod.nolimit.keeps fun b o e => (e0.bs b o e).1
  refine codeAny_call_function hr.depth (KX _ _ lk) rfl S.co S.gen rfl (PySem.W.codeRec_of KX hcd) (hb _ _ _ _ ?_)
  refine wpAny_newFunctionEnv_cells S.kind (fun ⟨n, v⟩ hy => ?_) fun env he s1 x => ?_
  · rcases S.par n (List.of_mem_zip hy).1 with q | q
    · exact .inl q
    · exact .inr ⟨q, PySem.W.cellsFrom_some _ _ _ (.inl q)⟩
  subst he
  refine ⟨lim.keeps x.toInCall.keep, codeAny_func ?_⟩
  refine wpAny_mono (ht.run [] s1 (L2.start N vs) H _ (inv_start S hr.hd e0 hl r x) hq) (fun fl s' hs => ?_) fun e s' hs => hs
  cases fl with
  | ret u => obtain ⟨v, σ', H', J, rv, q⟩ := hs; exact ⟨v, H', J.os, J.bare, J.base, J.hok, rv, q⟩
  | next => obtain ⟨σ', H', J, q⟩ := hs; exact ⟨.non, H', J.os, J.bare, J.base, J.hok, rfl, q⟩
  | brk => obtain ⟨_, _, _, q⟩ := hs; exact False.elim q
  | cont => obtain ⟨_, _, _, q⟩ := hs; exact False.elim q
end
section
variable {X : Cx} {CX : CXT} {k : Nat} {f : Addr} {fd : FuncData} {ps : List Str} {sp : Sp} {E : XK} {x : Str} {p pos : Pos} {e : Expr} {es : List Expr} {t : TA}
theorem pe_callG (F : FnG X.prog X.w X.K X.mg X.base CX k f fd ps sp) (hr : Room k X.A) (hG : Bare X.A) (hg : Gl X x) (hm : X.mg x = some (.ref f)) (hk : PySem.W.keepIn X.K (.ref f) = true) (hb : Binds X.K fd ps []) (hx : Passes CX X E)
    (ha : PA X (e :: es) t) (hdb : (x == ("__debug__" : Str)) = false := by decide) (he : starEach (e :: es) X.env = (false, eval e X.env) :: starEach es X.env := by rfl) (hpl : (backTo pos (starEach es X.env)).any (·.1) = false := by rfl) :
    PE X (.Call (.Name x p) (e :: es) [] pos) (tCall sp [] E t) := by
  refine ⟨fun pins s σ H Q I h => ?_⟩
  refine wpAny_Call_Name_kw (ld_glob I hg hm ?_ hdb)
  refine PySem.W.callWith_K (h₀ := X.base) I.ok.mod.kin hk (thn (ha.run pos pins s σ H _ I h) fun us s1 ⟨vs, H1, I1, r, q⟩ => ⟨I1.kIn, ?_⟩) he hpl
  have r2 : Vals (vs ++ []) (us ++ []) := r.append .nil
  have hl : (us ++ []).length = ps.length := by rw [← r2.length]; exact F.len _ _ _ _ q
  refine wpAny_call (codeAny_mono (F.run X.A X.stack s1 H1 ⟨us, []⟩ (us ++ []) (vs ++ []) Q E hr hG I1.env0 (hb s1 us I1.kIn hl) r2 q) fun r s' hq => ?_)
  cases r with
  | error e => exact hx pins σ H1 s1 e s' I1 hq
  | ok fl =>
    cases fl with
    | ret u => exact I1.after hq
    | next => exact False.elim hq
    | brk => exact False.elim hq
    | cont => exact False.elim hq
/-- repr(x), x a list or a tuple of data: nothing tracked changes -/
def rReprD (K : PySem.W.Frag) : List V → Hp → VK → Prop := fun xs H Q => ∃ (a : Addr) (d : PyData), xs = [.ref a] ∧ Dp K H (.ref a) d ∧ d.showable = true ∧ d.hasDict = false ∧ d.shown.length ≤ sizeLine ∧ d.depth ≤ 64 ∧ Q (.str d.shown) H
theorem call_reprD (hr : Room k X.A) (hG : Bare X.A) : CallR X (.builtin "repr") (rReprD X.K) := by
  intro pins s σ H xs us Q I r ⟨a, d, rx, hd, h1, h2, h3, h4, q⟩
  subst rx
  cases r with
  | cons r1 r2 =>
    cases r2
    obtain rfl := r1
    obtain ⟨as, R⟩ := Dp.reads I d _ _ hd rfl
    have hu := hr.un
    exact repr_of_reads' R h1 (fun z => by rw [h2] at z; cases z) hG (by omega) (fun b o e => e) (fun h' u tk hk => ⟨.str d.shown, H, I.kept hk, ⟨u, rfl⟩, q⟩) h3
end
end GrdX

/-! the end of a row whose law has a promise that holds where no text of a list is under way -/
namespace GrdX
open PySem PySem.Spec PyProof.Rows L2 LamX
/-- what is tracked when the law is called: the tables; the script, unless the frame knows it -/
def firstH (K : PySem.W.Frag) (T : List Addr) (a : Addr) (u : HO) : Hp := fun b =>
  if b ∈ T then some (.tbl #[]) else if b = a ∧ K.lookup a = none then some u else none
section
variable {K : PySem.W.Frag} {T : List Addr} {a b : Addr} {u w : HO}
theorem firstH_tab (h : b ∈ T) : firstH K T a u b = some (.tbl #[]) := if_pos h
theorem firstH_self (h : a ∉ T) (hK : K.lookup a = none) : firstH K T a u a = some u := (if_neg h).trans (if_pos ⟨rfl, hK⟩)
theorem firstH_none (h : b ∉ T) (h2 : b = a → K.lookup a ≠ none) : firstH K T a u b = none := (if_neg h).trans (if_neg fun z => h2 z.1 z.2)
theorem firstH_is (h : firstH K T a u b = some w) : (b ∈ T ∧ w = .tbl #[]) ∨ (b = a ∧ K.lookup a = none ∧ w = u) := by
  by_cases hb : b ∈ T
  · rw [firstH_tab hb] at h
    exact .inl ⟨hb, (Option.some.inj h).symm⟩
  · by_cases h2 : b = a ∧ K.lookup a = none
    · have z := ((if_neg hb).trans (if_pos h2)).symm.trans h
      exact .inr ⟨h2.1, h2.2, (Option.some.inj z).symm⟩
    · have z := ((if_neg hb).trans (if_neg h2)).symm.trans h
      cases z
end
section
variable {P : Program} {w : World} {K : PySem.W.Frag} {mg mb : Str → Option Value} {CX : CXT} {k : Nat} {fa a : Addr} {cs : List (Addr × Addr)} {fd : FuncData} {x : Str} {sp : Sp} {s : Shared} {vs : List Value} {ns : List Int}
/-- an object that is no list and no table is not tracked at first -/
theorem plain_first {h : Heap} {b : Addr} {o : Obj} {u : HO} (hT : ∀ p ∈ cs, h.get? p.2 = some { cls := .none, data := .fields #[] }) (ha : h.get? a = some { cls := .type "list", data := .seq vs.toArray }) (e : h.get? b = some o)
    (n1 : o.data ≠ .fields #[]) (n2 : o.data ≠ .seq vs.toArray) : firstH K (cs.map (·.2)) a u b = none := by
  refine firstH_none (fun z => ?_) fun z => ?_
  · obtain ⟨p, hp, rfl⟩ := List.mem_map.mp z
    rw [hT p hp] at e
    exact n1 (congrArg Obj.data (Option.some.inj e)).symm
  · subst z
    rw [ha] at e
    exact (n2 (congrArg Obj.data (Option.some.inj e)).symm).elim
theorem law_callG (KX : K.In s.heap) (hns : s.heap.Ns mainGlobals mg) (hb : s.heap.Ns builtinsNs mb) (hbb : ∀ x : Str, x ≠ "__name__" → mb x = bootBuiltins x) (hlim : s.heap.NoLimit) (hg : s.gens = #[])
    (hT : ∀ p ∈ cs, s.heap.get? p.2 = some { cls := .none, data := .fields #[] }) (nT : ∀ p ∈ cs, K.lookup p.2 = none) (C : ∀ p ∈ cs, PySem.W.CodeHd s.heap p.1 p.2)
    (hbm : ∃ (bm : Addr) (ob : Obj), mg "__builtins__" = some (.ref bm) ∧ bm ≠ builtinsNs ∧ s.heap.get? bm = some ob ∧ ob.cls = .type "module" ∧ ob.dict = some builtinsNs ∧ ob.data = .plain)
    (ha : s.heap.get? a = some { cls := .type "list", data := .seq vs.toArray }) (hi : IntsAre vs ns) (hl : ns.length ≤ sizeLine) (hr : Room k callerA)
    (F : ∀ base : Heap, K.In base → base.Ns mainGlobals mg → (∀ p ∈ cs, TabB base mg p.1 p.2) → FnG P w K mg base CX k fa fd [x] sp) (hbind : ∀ (s : Shared) (u : Value), BindsTo s fd ⟨[u], []⟩ [(x, u)])
    (hsp : ∀ H : Hp, (∀ p ∈ cs, H p.2 = some (.tbl #[])) → SqL K H a (ns.map V.int) → sp [.ref a] H (fun v _ => v = .bl true) fun _ _ _ => False)
    (hCX : ∀ H e s', CX [] H s (fun _ _ _ => False) e s' → False) :
    codeAny (model P w) callerA (.call (.ref fa) ⟨[.ref a], []⟩) (fun r s' => r = .ok (.ret (.bool true)) ∧ OldK s.heap s'.heap ∧ s'.os = s.os ∧ AllBare s'.gens) s := by
  let o0 : Obj := { cls := .type "list", data := .seq vs.toArray }
  let T := cs.map (·.2)
  let H : Hp := firstH K T a (.frz o0 (.lst (ns.map V.int)))
  have inT : ∀ {p : Addr × Addr}, p ∈ cs → p.2 ∈ T := fun hp => List.mem_map.mpr ⟨_, hp, rfl⟩
  have ofT : ∀ {b : Addr}, b ∈ T → ∃ p ∈ cs, p.2 = b := fun z => List.mem_map.mp z
  have aT : a ∉ T := fun z => by
    obtain ⟨p, hp, e⟩ := ofT z
    have q := hT p hp
    rw [e, ha] at q
    cases congrArg Obj.data (Option.some.inj q)
  have pl : ∀ {b : Addr} {o : Obj}, s.heap.get? b = some o → o.data ≠ .fields #[] → o.data ≠ .seq vs.toArray → H b = none := fun e n1 n2 => plain_first hT ha e n1 n2
  have sizes : vs.toArray.size ≤ sizeLine := by
    rw [List.size_toArray, hi.length]
    exact hl
  have HT : ∀ p ∈ cs, H p.2 = some (.tbl #[]) := fun p hp => firstH_tab (inT hp)
  have HS : SqL K H a (ns.map V.int) := by
    cases hk : K.lookup a with
    | none => exact .inl (.inr ⟨o0, firstH_self aT hk⟩)
    | some o =>
      obtain rfl : o0 = o := Option.some.inj (ha.symm.trans (KX a o hk))
      exact .inr ⟨o0, vs.toArray, _, hk, rfl, rfl, rfl, sizes, by simpa using vals_ints hi⟩
  have HK : HOk P w H s.heap := fun b u z => by
    rcases firstH_is z with ⟨hb, rfl⟩ | ⟨rfl, _, rfl⟩
    · obtain ⟨p, hp, rfl⟩ := ofT hb
      exact hT p hp
    · exact ⟨ha, by rw [List.length_map]; exact hl, vs, _, vals_ints hi, ha⟩
  have up : ∀ {b : Addr} {m : Str → Option Value}, s.heap.Ns b m → (hidT s.heap H).Ns b m := fun ⟨o, es, ep, e, d, r⟩ =>
    ⟨o, es, ep, hidT_get e (pl e (fun z => nomatch d.symm.trans z) fun z => nomatch d.symm.trans z), d, r⟩
  have KB : K.In (hidT s.heap H) := fun b o e => by
    refine hidT_get (KX b o e) (firstH_none (fun z => ?_) fun z => ?_)
    · obtain ⟨p, hp, rfl⟩ := ofT z
      rw [nT p hp] at e
      cases e
    · rw [← z, e]
      exact fun q => nomatch q
  obtain ⟨mc, l1, l2⟩ := hlim
  have M : L2.Mod K mg (hidT s.heap H) := ⟨KB, up hns, ⟨mb, up hb, hbb⟩, ⟨mc, up l1, l2⟩⟩
  have TB : ∀ p ∈ cs, TabB (hidT s.heap H) mg p.1 p.2 := fun p hp => by
    have gp : ∀ {b : Addr} {o : Obj}, s.heap.get? b = some o → o.data ≠ .fields #[] → b ≠ p.2 := fun e n z => by
      rw [z, hT p hp] at e
      exact n (congrArg Obj.data (Option.some.inj e)).symm
    have gm : ∀ {b : Addr} {m : Str → Option Value}, s.heap.Ns b m → b ≠ p.2 := fun ⟨o, es, ep, e, d, _⟩ => gp e fun z => nomatch d.symm.trans z
    obtain ⟨o, us, file, tf, flags, tg, inF, text, tt, e1, r1, r2, r3, r⟩ := C p hp
    obtain ⟨bm, ob, b1, b2, b3, b4, b5, b6⟩ := hbm
    have nf : o.data ≠ .fields #[] := fun z => by
      rw [r2] at z
      cases z
      simp at r3
    have np : ob.data ≠ .fields #[] := fun z => nomatch b6.symm.trans z
    refine ⟨⟨o, us, file, tf, flags, tg, inF, text, tt, hidT_get e1 (pl e1 nf fun z => nomatch r2.symm.trans z), r1, r2, r3, r⟩, ⟨bm, ob, b1, b2, fun z => ?_, gp b3 np, hidT_get b3 (pl b3 np fun z => nomatch b6.symm.trans z), b4, b5, b6⟩, gm hns⟩
    obtain ⟨o', es, ep, e, d, _⟩ := hns
    rw [← z, b3] at e
    cases e
    exact nomatch b6.symm.trans d
  have E0 : Env0 P w K mg (hidT s.heap H) callerA [] s H := ⟨rfl, M, fun b o e => of_hidT e, Nat.le_of_eq (hidT_size _ _), trivial, nofun, HK, .of_eq hg⟩
  refine codeAny_mono ((F _ KB (up hns) TB).run callerA [] s H ⟨[.ref a], []⟩ [.ref a] [.ref a] _ _ hr rfl E0 (hbind s (.ref a)) (.cons rfl .nil) (hsp H HT HS)) fun r s' h => ?_
  match r, h with
  | .error e, h => exact (hCX H e s' h).elim
  | .ok .next, h => exact False.elim h
  | .ok .brk, h => exact False.elim h
  | .ok .cont, h => exact False.elim h
  | .ok (.ret u), ⟨v, H', os, bare, un, hok, rv, q⟩ =>
    obtain rfl : v = .bl true := q
    obtain rfl : u = .bool true := rv
    have tab : ∀ p ∈ cs, ∃ more : Array Value, s'.heap.get? p.2 = some { cls := .none, data := .fields more } := fun p hp => by
      obtain ⟨more, z⟩ := un.tbls p.2 #[] (HT p hp)
      exact ⟨_, hok p.2 _ z⟩
    have old : ∀ b o, b ∉ T → s.heap.get? b = some o → s'.heap.get? b = some o := fun b o nb e => by
      cases z : H b with
      | none => exact un.keep b o e z (by intro y; cases y) (by simp)
      | some u =>
        rcases firstH_is z with ⟨hb, _⟩ | ⟨rfl, _, rfl⟩
        · exact absurd hb nb
        · rw [← e, ha]
          exact (hok b _ (un.frzs b _ _ z)).1
    refine ⟨rfl, ⟨fun b o e => ?_, fun b o e => ?_⟩, os, bare⟩
    · by_cases nb : b ∈ T
      · obtain ⟨p, hp, rfl⟩ := ofT nb
        obtain ⟨more, hm⟩ := tab p hp
        have e' := hT p hp
        rw [e'] at e
        cases e
        exact .inr (.inl ⟨((C p hp).tab e').isCodeTable, rfl, #[], more, rfl, by rw [Array.empty_append]; exact hm⟩)
      · exact .inl (old b o nb e)
    · by_cases nb : b ∈ T
      · obtain ⟨p, hp, rfl⟩ := ofT nb
        obtain ⟨more, hm⟩ := tab p hp
        exact ⟨_, hm⟩
      · exact ⟨o, old b o nb e⟩
end
/-- what is known of the law's promise at the head's heap -/
def LawG (l : PySem.W.OpenLaw) (w : World) (K : PySem.W.Frag) (CX : CXT) (k n : Nat) (x : Str) (mg : Str → Option Value) (fa : Addr) (h : Heap) (cs : List (Addr × Addr)) : Prop :=
  ∃ (fd : FuncData) (sp : Sp), (∀ p ∈ cs, h.get? p.2 = some { cls := .none, data := .fields #[] } ∧ K.lookup p.2 = none ∧ PySem.W.CodeHd h p.1 p.2) ∧ (∀ (s : Shared) (u : Value), BindsTo s fd ⟨[u], []⟩ [(x, u)]) ∧
    (∀ (H : Hp) (a : Addr) (ns : List Int), ns.length ≤ n → (∀ z ∈ ns, Builtin.Int.intBits z ≤ 1048576) → (∀ p ∈ cs, H p.2 = some (.tbl #[])) → SqL K H a (ns.map V.int) → sp [.ref a] H (fun v _ => v = .bl true) fun _ _ _ => False) ∧
    ∀ base : Heap, K.In base → base.Ns mainGlobals mg → (∀ p ∈ cs, TabB base mg p.1 p.2) → FnG l.prog w K mg base CX k fa fd [x] sp
theorem walk_ofG {l : PySem.W.OpenLaw} {n k : Nat} {q : Program} {loose : List Str} {XP : (Str → Option Value) → Heap → Prop} {YP : World → Heap → Prop} {d : DefRec} {CX : World → CXT} {x : Str}
    (hn : l.most = some n) (hn2 : n ≤ sizeLine) (hdf : d.params.defaults = []) (hr : Room k callerA)
    (F : ∀ (w : World) (mg : Str → Option Value) (fa : Addr) (h : Heap), YP w h → h.Ns mainGlobals mg → mg d.name = some (.ref fa) → ∃ (K : PySem.W.Frag) (cs : List (Addr × Addr)), K.In h ∧ LawG l w K (CX w) k n x mg fa h cs)
    (hCX : ∀ (w : World) (H : Hp) (s : Shared) (e : Value) (s' : Shared), CX w [] H s (fun _ _ _ => False) e s' → False) :
    PySem.W.WalkO q loose XP YP l.row.toRowW d [] (fun f vs => PySem.call f vs) := by
  refine Att.attach_callB hn hdf fun w s₀ s₁ mg mb fa o pm cd doc a vs ns G Y ho hd hcd hmg hobj hints hlen hbits hg => ?_
  obtain ⟨K, cs, KX, fd, sp, hT, hb, hsp, hF⟩ := F w mg fa _ Y G.T.g hmg
  exact law_callG KX G.T.g G.T.b G.T.builtins G.T.nolimit hg (fun p hp => (hT p hp).1) (fun p hp => (hT p hp).2.1) (fun p hp => (hT p hp).2.2) G.T.bmain hobj hints (Nat.le_trans hlen hn2) hr hF hb (fun H => hsp H a ns hlen hbits) fun H e s' => hCX w H s₁ e s'
end GrdX

/-! list(o) and len(o) of an instance whose class has its own __iter__, that gives iter(tuple), and its own __len__ -/
namespace K25
open PySem PySem.Spec PyProof.Rows L2
/-- at it an iterator over the tuple at t, the next place is i -/
def ItT (t it : Addr) (i : Nat) : HO := .ext fun h => h.IsTupleIter it t i
theorem itT_ok {P : Program} {w : World} {H : Hp} {h : Heap} {t it : Addr} {i : Nat} (e : h.IsTupleIter it t i) : ObjOk P w H h it (ItT t it i) := ⟨e, ⟨_, e.choose_spec.1⟩, fun h1 h2 q k => by
  obtain ⟨o, ho, r⟩ := q
  exact ⟨o, k _ ho, r⟩⟩
/-- iter(t), t a tuple -/
def rIterT : List V → Hp → VK → Prop := fun xs H Q => ∃ (t : Addr) (ys : List V), xs = [.ref t] ∧ H t = some (.tup ys) ∧ ∀ it, H it = none → Q (.ref it) (upd H it (ItT t it 0))
theorem call_iterT {X : Cx} : CallR X (.builtin "iter") rIterT := by
  intro pins s σ H xs us Q I r h
  obtain ⟨t, ys, rfl, ht, q⟩ := h
  obtain rfl := Vals.ref1 r
  obtain ⟨its, rv, pl, hz⟩ := I.tuple (SqT.of ht)
  refine Calls.call_function_entry (by decide +kernel) (by decide +kernel) PySem.W.kdk_entry_iter (PySem.W.kdk_args_iter _) ?_
  unfold Builtin.«iter»
  refine wpAny_bind (m := someArgs "iter" 1 2 _) (wpAny_of_eq (a := [Value.ref t]) (by first | rfl | kernel_rfl!) ?_)
  show wpAny _ _ (pyIter (.ref t) >>= _) _ _ _
  refine wpAny_bind (wpAny_pyIter_tuple pl ?_)
  refine wpAny_pure ⟨_, rfl, ?_⟩
  exact ⟨.ref s.heap.objs.size, _, I.laid (t' := s.toks) (fun b u e => Heap.get?_push_of_some _ e) (Nat.le_refl _) (itT_ok ⟨_, Heap.get?_push_size _ rfl, rfl, rfl⟩), rfl, q _ (I.hok.fresh (Nat.le_refl _))⟩
/-- what __iter__ gives -/
def spIterR (CR : Addr) : Sp := fun vs H Q _ => ∃ (x dx ar : Addr) (fs : List (Str × V)) (ys : List V), vs = [.ref x] ∧ H x = some (.ins CR dx fs) ∧ fs.lookup ("entries" : Str) = some (V.ref ar) ∧ H ar = some (.tup ys) ∧ ∀ it, H it = none → Q (.ref it) (upd H it (ItT ar it 0))
def spLenR (CR : Addr) : Sp := fun vs H Q _ => ∃ (x dx ar : Addr) (fs : List (Str × V)) (ys : List V), vs = [.ref x] ∧ H x = some (.ins CR dx fs) ∧ fs.lookup ("entries" : Str) = some (V.ref ar) ∧ H ar = some (.tup ys) ∧ Q (.int ys.length) H
/-- the class's own methods -/
structure OwnC (P : Program) (w : World) (K : PySem.W.Frag) (mg : Str → Option Value) (base : Heap) (C fI fL : Addr) (fdI fdL : FuncData) : Prop where
  it : PySem.W.findIn K (.ref C) "__iter__" = some (some (.ref fI))
  itF : PySem.W.isFn K (.ref fI) = true
  ln : PySem.W.findIn K (.ref C) "__len__" = some (some (.ref fL))
  lnF : PySem.W.isFn K (.ref fL) = true
  okI : FnOk P w K mg base CX0 1 fI fdI ["self"] (spIterR C)
  biI : Binds K fdI ["self"] []
  okL : FnOk P w K mg base CX0 1 fL fdL ["self"] (spLenR C)
  biL : Binds K fdL ["self"] []
section
variable {X : Cx} {pins : List (Addr × Obj)} {σ : L2.St} {H : Hp} {s s' : Shared} {C fI fL x dx ar : Addr} {fdI fdL : FuncData} {fs : List (Str × V)} {ys : List V} {A1 : Around}
theorem env_sub {n : Nat} (sb : Sub X n A1) (I : Inv X pins σ H s) : Env0 X.prog X.w X.K X.mg X.base A1 X.stack s H := by
  have e := I.env0
  exact ⟨by rw [sb.fr]; exact e.frames, e.mod, e.bs, e.bsz, e.funs, e.frf, e.hok, e.bare⟩
/-- len(x) -/
theorem own_len {Q : Value → Shared → Prop} {E : Value → Shared → Prop} (sb : Sub X 2 A1) (O : OwnC X.prog X.w X.K X.mg X.base C fI fL fdI fdL) (I : Inv X pins σ H s) (hx : H x = some (.ins C dx fs)) (hl : fs.lookup ("entries" : Str) = some (V.ref ar)) (ha : H ar = some (.tup ys))
    (h : ∀ (t : Tok) (s' : Shared), Inv X pins σ H s' → Q (.int (ys.length : Int) t) s') : wpAny (model X.prog X.w) A1 (call (.builtin "len") [.ref x]) Q E s := by
  obtain ⟨_, hz, _⟩ := I.tuple (SqT.of ha)
  obtain ⟨mA, J, _⟩ := ins_get I.hok hx
  obtain ⟨od, J, _⟩ := J.look
  refine Calls.call_function_entry kind_len plain_len entry_len (args_len1 _) ?_
  unfold Builtin.«len»
  refine wpAny_bind (m := oneArg "len" _) (wpAny_pure ?_)
  refine wpAny_bind (m := callSpecial? (.ref x) (Str.ofString "__len__")) ?_
  unfold callSpecial? specialOf
  refine wpAny_bind (wpAny_bind (J.type.here ((PySem.W.looks_findIn I.kIn O.ln).here ?_)))
  refine wpAny_holding ?_
  refine wpAny_bind ((PySem.W.bind_fn I.kIn _ (beq_iff_eq.mp O.lnF)).here ?_)
  have r2 : Vals [V.ref x] [Value.ref x] := .cons rfl .nil
  have hsp : spLenR C [.ref x] H (fun v H' => v = .int (ys.length : Int) ∧ H' = H) E0 := ⟨x, dx, ar, fs, ys, rfl, hx, hl, ha, rfl, rfl⟩
  have hlen := O.okL.len _ _ _ _ hsp
  refine wpAny_bind (wpAny_call (codeAny_mono (O.okL.run A1.in1 X.stack s H ⟨[.ref x], []⟩ [.ref x] [.ref x] _ _ sb.in1.room (env_sub sb.in1 I) (by
    have := O.biL s [.ref x] I.kIn (by simpa using hlen)
    simpa using this) r2 hsp) fun r s' hq => ?_))
  cases r with
  | error e => exact hq.elim
  | ok fl =>
    cases fl with
    | ret u =>
      obtain ⟨v, H', I', rv, rfl, rfl⟩ := I.after hq
      obtain ⟨tk, rfl⟩ := rv
      have hn : ys.length ≤ sizeLine := (I.tuple (SqT.of ha)).choose_spec.2.2
      rw [sizeLine_eq] at hn
      refine wpAny_pure ?_
      refine wpAny_bind (wpAny_holding (wpAny_pure ?_))
      refine wpAny_bind (wpAny_letGo ?_)
      show wpAny _ _ (if ((ys.length : Nat) : Int) < 0 then _ else _) _ _ _
      rw [if_neg (by omega)]
      show wpAny _ _ (if ((ys.length : Nat) : Int) ≥ 2 ^ 63 then _ else _) _ _ _
      rw [if_neg (by omega)]
      exact wpAny_bind (wpAny_mkInt (wpAny_pure ⟨_, rfl, h _ _ (I'.tok _)⟩))
    | next => exact False.elim hq
    | brk => exact False.elim hq
    | cont => exact False.elim hq
/-- what the list asks for the length -/
theorem own_hintL {E : Value → Shared → Prop} {Q : Bool → Shared → Prop} (sb : Sub X 2 A1) (O : OwnC X.prog X.w X.K X.mg X.base C fI fL fdI fdL) (I : Inv X pins σ H s) (hx : H x = some (.ins C dx fs)) (hl : fs.lookup ("entries" : Str) = some (V.ref ar)) (ha : H ar = some (.tup ys))
    (h : ∀ (b : Bool) (s' : Shared), Inv X pins σ H s' → Q b s') : wpAny (model X.prog X.w) A1 (Builtin.List.listLengthHint (.ref x)) Q E s := by
  obtain ⟨mA, J, _⟩ := ins_get I.hok hx
  obtain ⟨od, J, _⟩ := J.look
  have hn : ys.length ≤ sizeLine := (I.tuple (SqT.of ha)).choose_spec.2.2
  unfold Builtin.List.listLengthHint
  refine wpAny_bind (wpAny_bind (J.type.here ((PySem.W.looks_findIn I.kIn O.ln).here ?_)))
  refine PySem.W.KFB.if_not rfl ?_
  refine PySem.W.KFB.if_so rfl ?_
  refine wpAny_bind (wpAny_rule ?_)
  refine wpAny_bind (wpAny_attempt (own_len sb O I hx hl ha fun t s' I' => ?_))
  refine wpAny_bind (wpAny_pure ?_)
  show wpAny _ _ (if Builtin.List.listTooLong ((ys.length : Int)).toNat = true then _ else _) _ _ _
  rw [if_neg (by rw [show ((ys.length : Int)).toNat = ys.length from rfl, notLongL hn]; exact Bool.false_ne_true)]
  exact wpAny_pure (h _ _ I')
/-- an iterator at its end; it stands on -/
theorem next_endT {M : Program} {w : World} {A : Around} {s : Shared} {E : Value → Shared → Prop} {it t : Addr} {i : Nat} {items : Array Value} {Q : Option Value → Shared → Prop} (hh : A.handled = none) (hit : s.heap.IsTupleIter it t i) (ht : s.heap.IsTuple t items) (hx : items[i]? = none)
    (hQ : ∀ h', (∃ o, h'.get? it = some o) → Heap.ExtBut it s.heap h' → Q none { s with heap := h' }) : wpAny (model M w) A (pyNext (.ref it)) Q E s := by
  obtain ⟨o, ho, hc, hd⟩ := id hit
  obtain ⟨ol, hol, _, nl, hdl⟩ := ht
  unfold pyNext
  refine wpAny_bind (wpAny_attempt (wpAny_callSpecial?_slot (name := Str.ofString "__next__") hit.typeIs PySem.F.slot_tuple_iterator_next (wpAny_call_entry PySem.F.slot_tuple_iterator_next hit.typeIs PySem.F.entry_tuple_iterator_next ?_ (PySem.F.args_tuple_iterator_next_1 _))))
  show wpAny _ _ (field (.ref it) 0 >>= _) _ _ s
  refine wpAny_bind (wpAny_field ho hd (x := .ref t) rfl ?_)
  show wpAny _ _ (if (Value.ref t == Value.none) = true then _ else _) _ _ s
  rw [if_neg (show ¬ ((Value.ref t == Value.none) = true) from Bool.false_ne_true)]
  show wpAny _ _ (field (.ref it) 1 >>= _) _ _ s
  refine wpAny_bind (wpAny_field ho hd (x := .int i 0) rfl ?_)
  show wpAny _ _ (seqItems? (.ref t) >>= _) _ _ s
  refine wpAny_bind (wpAny_seqItems hol hdl ?_)
  simp only [Int.toNat_natCast, hx]
  refine wpAny_bind (wpAny_rule (wpAny_bind (wpAny_setField ho hd (by simp) ?_)))
  show wpAny _ _ (newExc (.type "StopIteration") [] >>= _) _ _ _
  refine wpAny_bind ?_
  simp only [newExc, newTuple]
  refine wpAny_bind (wpAny_newObj_type ?_ (by size_fits))
  refine wpAny_bind (m := firstArgMember _ _) (wpAny_of_eq (a := Value.none) (by first | rfl | (simp only [firstArgMember]; rfl)) ?_)
  refine wpAny_newObj_type ?_ (by size_fits)
  simp only [raiseNew]
  refine wpAny_bind (wpAny_handled ?_)
  first | rw [show A.in1.handled = none from hh] | rw [hh]
  refine wpAny_bind (wpAny_pure (wpAny_throw ?_))
  refine wpAny_bind (wpAny_isInstance (T := "StopIteration") (b := true) ⟨_, Heap.get?_push_size _ rfl, rfl⟩ isSubtype_stop ?_)
  refine wpAny_pure (hQ _ ⟨_, Heap.get?_push_of_some _ (Heap.get?_push_of_some _ (Heap.get?_update_self _ ho (Obj.isFreed_of_fields (Obj.data_mapFields hd _))))⟩ (((Heap.SameBut.update ..).extBut.push _).push _))
/-- .. where it was -/
def ItJ (it : Addr) : HO := .ext fun h => ∃ o, h.get? it = some o
theorem upd_back {H : Hp} {a b : Addr} {o u : HO} (ne : a ≠ b) : upd (upd H a o) b u = upd (upd H b u) a o := by
  funext z
  by_cases h1 : z = a
  · subst h1
    rw [upd_ne ne, upd_same, upd_same]
  · by_cases h2 : z = b
    · subst h2
      rw [upd_same, upd_ne h1, upd_same]
    · rw [upd_ne h2, upd_ne h1, upd_ne h1, upd_ne h2]
/-- the walk: the first i items stand in the list -/
theorem tup_loop {Rs : Result → Shared → Prop} {it q t : Addr} (hh : A1.handled = none) (hne : q ≠ it) (hqt : q ≠ t) (hti : t ≠ it)
    (hdone : ∀ (H' : Hp) s, Inv X pins σ H' s → H' q = some (.lst ys) → (∀ b, b ≠ q → b ≠ it → H' b = H b) → Rs (.ok (.ret .none)) s) :
    ∀ (k : Nat) (acc rest : List V) (H1 : Hp) (s : Shared), rest.length = k → ys = acc ++ rest → Inv X pins σ H1 s → H1 q = some (.lst acc) → H1 it = some (ItT t it acc.length) → H1 t = some (.tup ys) → (∀ b, b ≠ q → b ≠ it → H1 b = H b) →
      codeAny (model X.prog X.w) A1 (.builtin "list.extend.loop" ⟨[.ref q, .ref it, .none], []⟩) Rs s := by
  intro k
  induction k with
  | zero =>
    intro acc rest H1 s hk hy I hq hi ht hk1
    obtain rfl := List.length_eq_zero_iff.mp hk
    rw [List.append_nil] at hy
    subst hy
    refine codeAny_builtin PySem.F.entry_extend_loop ?_
    rw [Around.under_plainId PySem.F.plain_extend_loop _]
    show wpAny _ A1.in1 (pyNext (.ref it) >>= _) _ _ s
    obtain ⟨its, rv, pl, hz⟩ := I.tuple (SqT.of ht)
    refine wpAny_bind (next_endT hh (I.hok it _ hi).1 pl (by rw [List.getElem?_toArray]; exact List.getElem?_eq_none (by rw [← rv.length]; exact Nat.le_refl _)) fun h' hj he => ?_)
    have mu : Mut (H1 it) := by rw [hi]; exact True.intro
    have I2 : Inv X pins σ (upd H1 it (ItJ it)) { s with heap := h' } := I.write (x := it) (e := it) (t' := s.toks) mu (.inl rfl) (fun b o nb z => he b o nb z) hj ⟨hj, hj, fun h1 h2 q k => by
      obtain ⟨o, ho⟩ := q
      exact ⟨o, k _ ho⟩⟩
    exact wpAny_pure (hdone _ _ I2 ((upd_ne hne).trans hq) fun b h1 h2 => (upd_ne h2).trans (hk1 b h1 h2))
  | succ k ih =>
    intro acc rest H1 s hk hy I hq hi ht hk1
    cases rest with
    | nil => cases hk
    | cons v rest =>
      refine codeAny_builtin PySem.F.entry_extend_loop ?_
      rw [Around.under_plainId PySem.F.plain_extend_loop _]
      show wpAny _ A1.in1 (pyNext (.ref it) >>= _) _ _ s
      obtain ⟨its, rv, pl, hz⟩ := I.tuple (SqT.of ht)
      obtain ⟨u, hu, ru⟩ := rv.get (i := acc.length) (x := v) (by rw [hy]; simp)
      refine wpAny_bind (wpAny_pyNext_tuple_item (I.hok it _ hi).1 pl (by rw [List.getElem?_toArray]; exact hu) fun h' e' sb => ?_)
      have mu : Mut (H1 it) := by rw [hi]; exact True.intro
      have I2 : Inv X pins σ (upd H1 it (ItT t it (acc.length + 1))) { s with heap := h' } := I.write (x := it) (e := it) (t' := s.toks) mu (.inl rfl) (fun b o nb z => (sb.2 b nb).trans z) ⟨_, e'.choose_spec.1⟩ (itT_ok e')
      have hq2 : upd H1 it (ItT t it (acc.length + 1)) q = some (.lst acc) := (upd_ne hne).trans hq
      show wpAny _ A1.in1 (updateSeq q (·.push u) >>= _) _ _ _
      obtain ⟨z, its2, n2, r2, hl2, e2⟩ := I2.lstM hq2
      have hlt : acc.length < sizeLine := by
        have : acc.length < ys.length := by rw [hy]; simp
        omega
      refine wpAny_bind (wpAny_updateSeq e2 rfl (wpAny_pure ⟨plainId_quiet PySem.F.plain_extend_loop _, ?_⟩) (by rw [List.size_toArray]; omega) (by show (its2.toArray.push u).size ≤ sizeLine + 1; rw [Array.size_push, List.size_toArray]; omega))
      refine ih (acc ++ [v]) rest _ _ (by simpa using hk) (by rw [hy]; simp) (I2.lset (its' := its2 ++ [u]) (t' := s.toks) hq2 e2 (by simp) (r2.append (.cons ru .nil)) (by rw [List.length_append, List.length_singleton]; omega)) upd_same ?_ ?_ fun b h1 h2 => ?_
      · rw [upd_ne (Ne.symm hne), upd_same, List.length_append, List.length_singleton]
      · rw [upd_ne (Ne.symm hqt), upd_ne hti]
        exact ht
      · rw [upd_ne h1, upd_ne h2]
        exact hk1 b h1 h2
/-- the list at q is filled -/
theorem own_extendL {Rs : Result → Shared → Prop} {q : Addr} (sb : Sub X 2 A1.in1) (hA : A1.handled = none) (O : OwnC X.prog X.w X.K X.mg X.base C fI fL fdI fdL) (I : Inv X pins σ H s) (hx : H x = some (.ins C dx fs)) (hl : fs.lookup ("entries" : Str) = some (V.ref ar)) (ha : H ar = some (.tup ys))
    (hq : H q = some (.lst [])) (hdone : ∀ (it : Addr) (H' : Hp) s, H it = none → Inv X pins σ H' s → H' q = some (.lst ys) → (∀ b, b ≠ q → b ≠ it → H' b = H b) → Rs (.ok (.ret .none)) s) :
    wpAny (model X.prog X.w) A1.in1 (Builtin.List.listExtendWith (.ref q) (.ref x) .none)
      (fun fin s' => match fin with | .done f => Rs (.ok f) s' | .again c' => c'.quiet = true ∧ codeAny (model X.prog X.w) A1 c' Rs s') (fun e s' => Rs (.error e) s') s := by
  have hne : q ≠ x := ne_of hq hx (fun z => nomatch z)
  have hqr : q ≠ ar := ne_of hq ha (fun z => nomatch z)
  obtain ⟨mA, J, _⟩ := ins_get I.hok hx
  obtain ⟨od, J, _⟩ := J.look
  obtain ⟨m0, hF⟩ := I.fr
  unfold Builtin.List.listExtendWith
  refine wpAny_bind (J.type.here ?_)
  have h1 : Builtin.List.listSameRef (.ref q) (.ref x) = false := by simp [Builtin.List.listSameRef, hne]
  have h2 : (Value.ref C == Value.type "list") = false := rfl
  have h3 : (Value.ref C == Value.type "tuple") = false := rfl
  simp only [h1, h2, h3, Bool.or_false, Bool.false_eq_true, if_false]
  refine wpAny_bind (PySem.W.owit_iter hF I.ok.mod.kin J O.it O.itF ?_)
  have r2 : Vals [V.ref x] [Value.ref x] := .cons rfl .nil
  have hsp : spIterR C [.ref x] H (fun v H' => ∃ it, H it = none ∧ v = .ref it ∧ H' = upd H it (ItT ar it 0)) E0 := ⟨x, dx, ar, fs, ys, rfl, hx, hl, ha, fun it ni => ⟨it, ni, rfl, rfl⟩⟩
  have hlen := O.okI.len _ _ _ _ hsp
  refine wpAny_call (codeAny_mono (O.okI.run A1.in1 X.stack s H ⟨[.ref x], []⟩ [.ref x] [.ref x] _ _ (sb.room.mono (by decide)) (env_sub sb I) (by
    have := O.biI s [.ref x] I.kIn (by simpa using hlen)
    simpa using this) r2 hsp) fun r s' hq' => ?_)
  cases r with
  | error e => exact hq'.elim
  | ok fl =>
    cases fl with
    | next => exact False.elim hq'
    | brk => exact False.elim hq'
    | cont => exact False.elim hq'
    | ret u =>
      obtain ⟨v, H', I', rv, it, ni, rfl, rfl⟩ := I.after hq'
      cases rv
      have ni' : ∀ {b : Addr} {o : HO}, H b = some o → b ≠ it := fun e z => by rw [z, ni] at e; cases e
      have hx' : upd H it (ItT ar it 0) x = some (.ins C dx fs) := (upd_ne (ni' hx)).trans hx
      have ha' : upd H it (ItT ar it 0) ar = some (.tup ys) := (upd_ne (ni' ha)).trans ha
      have hq2 : upd H it (ItT ar it 0) q = some (.lst []) := (upd_ne (ni' hq)).trans hq
      have hi' : upd H it (ItT ar it 0) it = some (ItT ar it 0) := upd_same
      unfold PySem.W.OwitIt
      refine wpAny_specialOf (I'.hok it _ hi').1.typeIs PySem.F.slot_tuple_iterator_next.lookup ?_
      refine wpAny_bind (wpAny_holding (own_hintL sb O I' hx' hl ha' fun room s3 I3 => ?_))
      have loop : ∀ (H3 : Hp) (s4 : Shared), Inv X pins σ H3 s4 → H3 q = some (.lst []) → H3 it = some (ItT ar it 0) → H3 ar = some (.tup ys) → (∀ b, b ≠ q → b ≠ it → H3 b = H b) → codeAny (model X.prog X.w) A1 (.builtin "list.extend.loop" ⟨[.ref q, .ref it, .none], []⟩) Rs s4 := fun H3 s4 I4 hq4 hi4 ha4 hk =>
        tup_loop hA (ni' hq) hqr (ni' ha) (fun H' s5 I5 hq5 hk5 => hdone it H' s5 ni I5 hq5 hk5) ys.length [] ys H3 s4 rfl rfl I4 hq4 hi4 ha4 hk
      have hk0 : ∀ b, b ≠ q → b ≠ it → upd H it (ItT ar it 0) b = H b := fun b _ h2 => upd_ne h2
      refine wpAny_ite_split (fun _ => ?_) (fun _ => wpAny_pure ⟨plainId_quiet PySem.F.plain_extend_loop _, loop _ _ I3 hq2 hi' ha' hk0⟩)
      obtain ⟨z, its, k, r3, hl3, e3⟩ := I3.lstM hq2
      cases r3
      refine wpAny_bind (wpAny_rule ?_)
      refine wpAny_bind ?_
      show wpAny _ _ (updateSeq q (·.push .none) >>= fun _ => updateSeq q (·.pop)) _ _ _
      refine wpAny_bind (wpAny_updateSeq e3 rfl ?_)
      have I4 := I3.lset (f := (·.push Value.none)) (its' := [Value.none]) (ys := [.non]) (t' := s3.toks) hq2 e3 (by simp) (.cons rfl .nil) (by rw [List.length_singleton, sizeLine_eq]; decide)
      obtain ⟨z4, its4, k4, r4, hl4, e4⟩ := I4.lstM upd_same
      obtain ⟨u4, rfl, ru4⟩ := r4.one
      refine wpAny_updateSeq e4 rfl ?_ (by show 1 ≤ sizeLine; rw [sizeLine_eq]; decide) (by show 0 ≤ sizeLine + 1; exact Nat.zero_le _)
      have I5 := I4.lset (f := (·.pop)) (its := [u4]) (its' := []) (ys := []) (t' := s3.toks) upd_same e4 (by rfl) .nil (Nat.zero_le _)
      refine wpAny_pure ⟨plainId_quiet PySem.F.plain_extend_loop _, loop _ _ I5 upd_same ?_ ?_ fun b h1 h2 => ?_⟩
      · rw [upd_upd, upd_ne (Ne.symm (ni' hq))]; exact hi'
      · rw [upd_upd, upd_ne (Ne.symm hqr)]; exact ha'
      · rw [upd_upd, upd_ne h1]; exact hk0 b h1 h2
/-- list(x) -/
def rListI (C : Addr) : List V → Hp → VK → Prop := fun xs H Q => ∃ (x dx ar : Addr) (fs : List (Str × V)) (ys : List V), xs = [.ref x] ∧ H x = some (.ins C dx fs) ∧ fs.lookup ("entries" : Str) = some (V.ref ar) ∧ H ar = some (.tup ys) ∧
  ∀ (H' : Hp) (q : Addr), Same H H' → H q = none → H' q = some (.lst ys) → Q (.ref q) H'
theorem call_listI (O : OwnC X.prog X.w X.K X.mg X.base C fI fL fdI fdL) (hr : Room 4 X.A) : CallR X (.type "list") (rListI C) := by
  intro pins s σ H xs us Q I rv h
  obtain ⟨x, dx, ar, fs, ys, rfl, hx, hl, ha, q⟩ := h
  obtain ⟨u, rfl, ru⟩ := rv.one
  cases ru
  have sb : Sub X 2 X.A.in1.in1 := (Sub.in1 (Sub.in1 (⟨hr, rfl⟩ : Sub X 4 X.A)))
  refine callType_codes (Q₁ := fun obj s₁ => obj = .ref s.heap.objs.size ∧ s₁ = { s with heap := s.heap.push { cls := .type "list", data := .seq #[] } }) PySem.F.called_list (PySem.F.typeCall_list_1 _) PySem.F.entry_list_init
    (code_list_new _ ⟨rfl, rfl⟩) fun obj s₁ h₁ => ?_
  obtain ⟨rfl, rfl⟩ := h₁
  have hS : (s.heap.push { cls := .type "list", data := .seq #[] }).get? s.heap.objs.size = some { cls := .type "list", data := .seq #[] } := Heap.get?_push_size _ rfl
  refine ⟨⟨_, hS, rfl⟩, PySem.F.args_list_init_2 _ _, ?_⟩
  have fr : H s.heap.objs.size = none := I.hok.fresh (Nat.le_refl _)
  have I1 : Inv X pins σ (upd H s.heap.objs.size (.lst [])) { s with heap := s.heap.push { cls := .type "list", data := .seq #[] } } := I.lnew (its := []) (t' := s.toks) .nil (Nat.zero_le _)
  show wpAny _ _ (do let old ← Builtin.List.listItems (.ref s.heap.objs.size); Builtin.List.listUpdate (.ref s.heap.objs.size) (fun _ => #[]); letGo old.toList.reverse; Builtin.List.listExtendWith (.ref s.heap.objs.size) (.ref x) .none) _ _ _
  refine wpAny_bind ?_
  unfold Builtin.List.listItems
  refine wpAny_bind (wpAny_seqItems hS rfl (wpAny_pure ?_))
  show wpAny _ _ (updateSeq s.heap.objs.size (fun _ => #[]) >>= fun _ => letGo (#[] : Array Value).toList.reverse >>= fun _ => Builtin.List.listExtendWith (.ref s.heap.objs.size) (.ref x) .none) _ _ _
  refine wpAny_bind (wpAny_updateSeq hS rfl ?_)
  have I2 := I1.lset (f := fun _ => #[]) (its := []) (its' := []) (ys := []) (t' := s.toks) upd_same hS rfl .nil (Nat.zero_le _)
  rw [upd_upd] at I2
  refine wpAny_bind (wpAny_letGo ?_)
  have st : ∀ {b : Addr} {o : HO}, H b = some o → upd H s.heap.objs.size (.lst []) b = some o := fun {b o} e => (upd_ne (ne_of_none e fr)).trans e
  exact own_extendL (A1 := X.A.in1) (Rs := wants (fun r s₂ => r = .none ∧ EP X pins σ Q (.ref s.heap.objs.size) s₂) X.xe) sb hr.hd O I2 (st hx) hl (st ha) upd_same
    (fun it H' s' ni I' hq' hk => ⟨rfl, .ref s.heap.objs.size, H', I', rfl, q H' _ (fun b o e => by
      have n1 : b ≠ s.heap.objs.size := ne_of_none e fr
      have n2 : b ≠ it := fun z => by rw [z] at e; have := ni; rw [upd_ne (fun y => by rw [y, fr] at e; cases e)] at this; rw [this] at e; cases e
      rw [hk b n1 n2, upd_ne n1]; exact e) fr hq'⟩)
end
end K25

/-! a pattern's own len, iter, ==, count -/
namespace K25
open PySem PySem.Spec PyProof.Rows L2
abbrev sPCnt : Stmt := inClass (top 16) 2
abbrev sPEq : Stmt := inClass (top 16) 10
abbrev sPLen : Stmt := inClass (top 16) 11
abbrev sPIter : Stmt := inClass (top 16) 12
structure CountP (P : Program) (w : World) (K : PySem.W.Frag) (mg : Str → Option Value) (base : Heap) (CP p g : Addr) (fd : FuncData) : Prop where
  pr : PropOf K CP "class_count" p g
  ok : FnOk P w K mg base CX0 1 g fd ["self"] (getSp CP "_classes")
  bi : Binds K fd ["self"] []
def spPEq (CP : Addr) : Sp := fun vs H Q _ => ∃ (x : Addr) (v : V) (p : List (Option Nat)), vs = [.ref x, v] ∧ PatAt CP H x p ∧
  ((∃ (y : Addr) (q : List (Option Nat)), v = .ref y ∧ PatAt CP H y q ∧ Q (.bl (decide (p = q))) H) ∨ (∃ (t : Addr) (us : List V), v = .ref t ∧ H t = some (.tup us) ∧ Q (.bl false) H))
structure EqM (P : Program) (w : World) (K : PySem.W.Frag) (mg : Str → Option Value) (base : Heap) (C : Addr) (sp : Sp) (f : Addr) (fd : FuncData) : Prop where
  ok : FnOk P w K mg base CX0 1 f fd ["self", "other"] sp
  fi : PySem.W.findIn K (.ref C) "__eq__" = some (some (.ref f))
  fn : PySem.W.isFn K (.ref f) = true
  bi : Binds K fd ["self", "other"] []
  nfS : PySem.W.notFirst K C (.ref C) = true
  nfT : PySem.W.notFirst K C (.type "tuple") = true
theorem eqv_opts : ∀ l m : List (Option Nat), PyData.eqvAll (l.map datO) (m.map datO) = decide (l = m)
  | [], [] => rfl
  | [], _ :: _ => rfl
  | _ :: _, [] => rfl
  | a :: l, b :: m => by
    show (PyData.eqv (datO a) (datO b) && PyData.eqvAll (l.map datO) (m.map datO)) = _
    rw [eqv_opts l m]
    have e : PyData.eqv (datO a) (datO b) = decide (a = b) := by
      cases a with
      | none =>
        cases b with
        | none => rfl
        | some y => rfl
      | some x =>
        cases b with
        | none => rfl
        | some y =>
          show ((x : Int) == (y : Int)) = _
          by_cases h : x = y
          · rw [h, decide_eq_true rfl]
            exact beq_self_eq_true _
          · rw [decide_eq_false (fun z => h (Option.some.inj z))]
            exact beq_false_of_ne (fun z => h (by omega))
    rw [e]
    by_cases h1 : a = b <;> by_cases h2 : l = m <;> simp [h1, h2]
theorem dep_opts (p : List (Option Nat)) : PyData.depthAll (p.map datO) ≤ 8 := dep_all fun d hd => by obtain ⟨o, _, rfl⟩ := List.mem_map.mp hd; cases o <;> exact Nat.zero_le _
theorem shaped_vals (p : List (Option Nat)) : SeqAt.shaped (.list (p.map datO)) = true :=
  shaped_of (lay_all fun d hd => by obtain ⟨o, _, rfl⟩ := List.mem_map.mp hd; cases o <;> rfl) (by
    show PyData.depthAll (p.map datO) + 1 ≤ 64
    have := dep_opts p
    omega)
theorem shaped_optT (p : List (Option Nat)) : SeqAt.shaped (.tuple (p.map datO)) = true :=
  shaped_of (lay_all fun d hd => by obtain ⟨o, _, rfl⟩ := List.mem_map.mp hd; cases o <;> rfl) (by
    show PyData.depthAll (p.map datO) + 1 ≤ 64
    have := dep_opts p
    omega)
theorem PatAt.ent {CP : Addr} {H : Hp} {x : Addr} {p : List (Option Nat)} (h : PatAt CP H x p) : ∃ (dx t : Addr) (c : Nat), H x = some (.ins CP dx (patO t c)) ∧ (patO t c).lookup ("entries" : Str) = some (V.ref t) ∧ H t = some (.tup (vals p)) := by
  obtain ⟨dx, t, c, h1, h2, _⟩ := h
  exact ⟨dx, t, c, h1, rfl, h2⟩
section
variable {P : Program} {w : World} {K : PySem.W.Frag} {mg : Str → Option Value} {base : Heap}
theorem ok_count {f CP : Addr} {fd : FuncData} (F : FunD K "class_count" "Pattern.class_count" (defArgs sPCnt) (defBody sPCnt) (defScope sPCnt) [] [] f fd) (T : PatC K CP) : FnOk P w K mg base CX0 1 f fd ["self"] (getSp CP "_classes") := by
  have sc : FnScope ["self"] ["self"] (defScope sPCnt) := ⟨rfl, rfl, rfl, by decide +kernel, rfl, by decide +kernel, by decide +kernel⟩
  refine F.ok sc (fun vs H Q E h => ?_) (fun cdv A outer s H vs Q E hr h => ?_)
  · obtain ⟨a, dx, fs, v, rfl, _⟩ := h
    rfl
  · obtain ⟨a, dx, fs, v, rfl, ea, l, q⟩ := h
    refine ⟨_, PSs.nox (pss_one (ps_ret (pe_fld (pv 0) rfl))), ?_⟩
    exact ⟨_, rfl, a, CP, dx, fs, v, rfl, ea, T.cl, T.nC, l, q⟩
theorem ok_plen {f CP : Addr} {fd : FuncData} (F : FunD K "__len__" "Pattern.__len__" (defArgs sPLen) (defBody sPLen) (defScope sPLen) [] [] f fd) (T : PatC K CP) (zl : mg "len" = none) : FnOk P w K mg base CX0 1 f fd ["self"] (spLenR CP) := by
  have sc : FnScope ["self"] ["self"] (defScope sPLen) := ⟨rfl, rfl, rfl, by decide +kernel, rfl, by decide +kernel, by decide +kernel⟩
  refine F.ok sc (fun vs H Q E h => ?_) (fun cdv A outer s H vs Q E hr h => ?_)
  · obtain ⟨x, dx, ar, fs, ys, rfl, _⟩ := h
    rfl
  · obtain ⟨x, dx, ar, fs, ys, rfl, hx, hl, ha, q⟩ := h
    refine ⟨_, PSs.nox (pss_one (ps_ret (pe_callB call_len_seq (by rfl) zl boot_len (pa_cons (pe_fld (pv 0) rfl) pa_nil)))), ?_⟩
    exact ⟨_, rfl, x, CP, dx, fs, _, rfl, hx, T.cl, T.nE, hl, ar, ys, rfl, .inr (SqT.of ha), q⟩
theorem ok_piter {f CP : Addr} {fd : FuncData} (F : FunD K "__iter__" "Pattern.__iter__" (defArgs sPIter) (defBody sPIter) (defScope sPIter) [] [] f fd) (T : PatC K CP) (zi : mg "iter" = none) : FnOk P w K mg base CX0 1 f fd ["self"] (spIterR CP) := by
  have sc : FnScope ["self"] ["self"] (defScope sPIter) := ⟨rfl, rfl, rfl, by decide +kernel, rfl, by decide +kernel, by decide +kernel⟩
  refine F.ok sc (fun vs H Q E h => ?_) (fun cdv A outer s H vs Q E hr h => ?_)
  · obtain ⟨x, dx, ar, fs, ys, rfl, _⟩ := h
    rfl
  · obtain ⟨x, dx, ar, fs, ys, rfl, hx, hl, ha, q⟩ := h
    refine ⟨_, PSs.nox (pss_one (ps_ret (pe_callB call_iterT (by rfl) zi (by decide +kernel) (pa_cons (pe_fld (pv 0) rfl) pa_nil)))), ?_⟩
    exact ⟨_, rfl, x, CP, dx, fs, _, rfl, hx, T.cl, T.nE, hl, ar, ys, rfl, ha, q⟩
theorem ok_peq {f CP : Addr} {fd : FuncData} (F : FunD K "__eq__" "Pattern.__eq__" (defArgs sPEq) (defBody sPEq) (defScope sPEq) [] [] f fd) (T : PatC K CP) (z_type : mg "type" = none) : FnOk P w K mg base CX0 1 f fd ["self", "other"] (spPEq CP) := by
  have sc : FnScope ["self", "other"] ["self", "other"] (defScope sPEq) := ⟨rfl, rfl, rfl, by decide +kernel, rfl, by decide +kernel, by decide +kernel⟩
  refine F.ok sc (fun vs H Q E h => ?_) (fun cdv A outer s H vs Q E hr h => ?_)
  · obtain ⟨x, v, p, rfl, _⟩ := h
    rfl
  · obtain ⟨x, v, p, rfl, ⟨dx, tx, cx, ex, etx, _⟩, h⟩ := h
    refine ⟨_, PSs.nox (pss_one (ps_ret (pe_and (pe_cmpR op_is2 (pe_callTy cr_type2 (by rfl) z_type (by decide +kernel) (pa_cons (pv 0) pa_nil)) (pe_callTy cr_type2 (by rfl) z_type (by decide +kernel) (pa_cons (pv 1) pa_nil)) (nomark _)) (pe_one (pe_cmpR (op_eqD hr.units) (pe_fld (pv 0) rfl) (pe_fld (pv 1) rfl) (nomark _)))))), ?_⟩
    rcases h with ⟨y, q, rfl, ⟨dy, ty, cy, ey, ety, _⟩, k⟩ | ⟨t, us, rfl, ht, k⟩
    · refine ⟨_, rfl, _, rfl, .inl ⟨x, CP, dx, _, rfl, ex, _, rfl, _, rfl, .inl ⟨y, CP, dy, _, rfl, ey, CP, rfl, .inl ⟨rfl, ?_⟩⟩⟩⟩
      refine ⟨_, rfl, iteT ?_⟩
      refine ⟨_, rfl, x, CP, dx, _, _, rfl, ex, T.cl, T.nE, rfl, _, rfl, y, CP, dy, _, _, rfl, ey, T.cl, T.nE, rfl, _, _, (Dt.tup (S := Any) trivial etx (dt_vals p)).dp, (Dt.tup (S := Any) trivial ety (dt_vals q)).dp, shaped_optT p, shaped_optT q, ?_⟩
      show Q (.bl (PyData.eqvAll (p.map datO) (q.map datO))) H
      rw [eqv_opts]
      exact k
    · refine ⟨_, rfl, _, rfl, .inl ⟨x, CP, dx, _, rfl, ex, _, rfl, _, rfl, .inr ⟨t, us, rfl, ht, CP, rfl, .inr (.inr ⟨_, rfl, ?_⟩)⟩⟩⟩
      exact ⟨_, rfl, iteF k⟩
end
end K25

/-! o.m(..) where m may raise, within a try or not -/
namespace K25
open PySem PySem.Spec PyProof.Rows L2
theorem passX0 {X : Cx} : Passes (L2.CX X.prog X.w) X E0 := fun _ _ _ _ _ _ _ h => by
  obtain ⟨_, _, _, _, _, _, _, _, _, _, _, _, e⟩ := h
  exact e.elim
/-- o.m(..), m may raise -/
def tMethE (C : Addr) (m : Str) (sp : Sp) (E : L2.St → XK) (ta : TE) (t : TA) : TE := fun σ H Q => ta σ H fun x H1 => ∃ (a dx : Addr) (fs : List (Str × V)), x = .ref a ∧ H1 a = some (.ins C dx fs) ∧ fs.lookup m = none ∧ t σ H1 fun vs H2 => sp (.ref a :: vs) H2 Q (E σ)
section
variable {X : Cx} {CX : CXT} {k : Nat} {f C : Addr} {fd : FuncData} {ps : List Str} {sp : Sp} {E : L2.St → XK} {m : Str} {p pos apos : Pos} {o e : Expr} {es : List Expr} {ta : TE} {t : TA}
theorem run_E {pins : List (Addr × Obj)} {σ : L2.St} {H : Hp} {s : Shared} {Q : VK} {us : List Value} {vs : List V} (F : FnR X.prog X.w X.K X.mg X.base CX k f sp) (hr : Room k X.A) (hx : PassesAt CX X σ (E σ)) (I : Inv X pins σ H s) (r : Vals vs us) (h : sp vs H Q (E σ)) :
    codeAny (model X.prog X.w) X.A (.call (.ref f) ⟨us, []⟩) (fun r s' => match r with | .ok (.ret v) => EP X pins σ Q v s' | .ok _ => False | .error e => X.xe e s') s := by
  refine codeAny_mono (F X.A X.stack s H us vs Q (E σ) hr I.env0 r h) fun r s' hq => ?_
  cases r with
  | error e => exact hx pins _ _ e s' I hq
  | ok fl =>
    cases fl with
    | ret u => exact I.after hq
    | next => exact False.elim hq
    | brk => exact False.elim hq
    | cont => exact False.elim hq
theorem pe_methE {pl : Sem Bool} (he : PE X o ta) (c : Cls X.K C) (hm : Meth X.K C m f) (F : FnR X.prog X.w X.K X.mg X.base CX k f sp) (hr : Room k X.A) (hx : ∀ σ, PassesAt CX X σ (E σ)) (ha : PA X (e :: es) t)
    (hst : starEach (e :: es) X.env = (false, eval e X.env) :: starEach es X.env := by rfl) (hpl : (backTo pos (starEach es X.env)).any (·.1) = false := by rfl)
    (ht : eval (.Call (.Attribute o m apos) (e :: es) [] pos) X.env = (do
      let ov ← eval o X.env
      standAt apos.atName
      let (f, first) ← holding [ov] (getMethod ov m pl)
      callWith pos f first (backTo pos (starEach (e :: es) X.env)) (backToKw pos (keywordEach [] X.env))) := by rfl) :
    PE X (.Call (.Attribute o m apos) (e :: es) [] pos) (tMethE C m sp E ta t) := by
  refine ⟨fun pins s σ H Q I h => ?_⟩
  refine PySem.W.methodCall_KW (pl := pl) (thn (he.run pins s σ H _ I h) fun u s1 ⟨x, H1, I1, rx, a, dx, fs, ex, ea, l, q⟩ => ?_) ht
  subst ex
  obtain rfl : u = Value.ref a := rx
  refine getmeth_ok I1 ea c hm l ?_
  refine PySem.W.callWith_K (first := [.ref a]) (h₀ := X.base) I.ok.mod.kin hm.kp (thn (ha.run pos pins s1 σ H1 _ I1 q) fun us s2 ⟨vs, H2, I2, r, q2⟩ => ⟨I2.kIn, ?_⟩) hst hpl
  exact wpAny_call (run_E (us := .ref a :: us) (vs := .ref a :: vs) F hr (hx σ) I2 (.cons rfl r) q2)
theorem pe_methE0 {pl : Sem Bool} (he : PE X o ta) (c : Cls X.K C) (hm : Meth X.K C m f) (F : FnR X.prog X.w X.K X.mg X.base CX k f sp) (hr : Room k X.A) (hx : ∀ σ, PassesAt CX X σ (E σ))
    (ht : eval (.Call (.Attribute o m apos) [] [] pos) X.env = (do
      let ov ← eval o X.env
      standAt apos.atName
      let (f, first) ← holding [ov] (getMethod ov m pl)
      callWith pos f first (backTo pos (starEach [] X.env)) (backToKw pos (keywordEach [] X.env))) := by rfl) :
    PE X (.Call (.Attribute o m apos) [] [] pos) (tMethE C m sp E ta tNil) := by
  refine ⟨fun pins s σ H Q I h => ?_⟩
  refine PySem.W.methodCall_KW (pl := pl) (thn (he.run pins s σ H _ I h) fun u s1 ⟨x, H1, I1, rx, a, dx, fs, ex, ea, l, q⟩ => ?_) ht
  subst ex
  obtain rfl : u = Value.ref a := rx
  refine getmeth_ok I1 ea c hm l ?_
  exact PySem.W.callWith_K0 (first := [.ref a]) I1.kIn hm.kp (wpAny_call (run_E (us := [.ref a]) (vs := [.ref a]) F hr (hx σ) I1 (.cons rfl .nil) q))
/-- a promise by parameters as one by positions -/
theorem FnOk.r {P : Program} {w : World} {K : PySem.W.Frag} {mg : Str → Option Value} {base : Heap} (F : FnOk P w K mg base CX k f fd ps sp) (hb : Binds K fd ps []) : FnR P w K mg base CX k f sp := fun A outer s H us vs Q E hr e0 r hs => by
  have hl := F.len _ _ _ _ hs
  have b := hb s us (PySem.W.Frag.In.keeps e0.mod.kin fun b o e => (e0.bs b o e).1) (by rw [List.append_nil, ← r.length]; exact hl)
  rw [List.append_nil] at b
  exact F.run A outer s H ⟨us, []⟩ us vs Q E hr e0 b r hs
end
end K25

/-! places and classes of a pattern -/
namespace K25
open PySem PySem.Spec PyProof.Rows L2
abbrev sPlErr : Stmt := inClass (top 4) 0
abbrev sClErr : Stmt := inClass (top 5) 0
abbrev sPClassAt : Stmt := inClass (top 16) 3
abbrev sPPlacesOf : Stmt := inClass (top 16) 4
abbrev sPAreAlike : Stmt := inClass (top 16) 5
abbrev sPAtPlaces : Stmt := inClass (top 16) 6
abbrev sPCheckPlace : Stmt := inClass (top 16) 7
theorem len_vals (l : List (Option Nat)) : (vals l).length = l.length := List.length_map ..
/-- an error with these fields is raised -/
def Fails (CN : Addr) (H : Hp) (E : XK) (i : Nat) (z : Str) : Prop := ∀ (H' : Hp) (d : Addr), H d = none → H' d = some (.xd (patF (i : Nat) z)) → Same H H' → E (.ref CN) (some d) H'
theorem Fails.same {CN : Addr} {H H1 : Hp} {E : XK} {i : Nat} {z : Str} (f : Fails CN H E i z) (s : Same H H1) : Fails CN H1 E i z := fun H' d n e s' => f H' d (none_of s n) e (s.trans s')
/-- BadClass, with what was asked -/
def FailsC (CC : Addr) (H : Hp) (E : XK) (v : V) : Prop := ∀ (H' : Hp) (d : Addr), H d = none → H' d = some (.xd [("number", v)]) → Same H H' → E (.ref CC) (some d) H'
def spClErr (C : Addr) : Sp := fun vs H Q _ => ∃ (a : Addr) (v : V), vs = [.ref a, v] ∧ H a = some (exo a C none) ∧ ∀ (H' : Hp) (d : Addr), H d = none → H' a = some (exo a C (some d)) → H' d = some (exd d [("number", v)]) → (∀ b o, b ≠ a → H b = some o → H' b = some o) → Q .non H'
structure MethM (P : Program) (w : World) (K : PySem.W.Frag) (mg : Str → Option Value) (base : Heap) (C : Addr) (x : Str) (k : Nat) (ps : List Str) (sp : Sp) (f : Addr) (fd : FuncData) : Prop where
  mt : Meth K C x f
  ok : FnOk P w K mg base (L2.CX P w) k f fd ps sp
  bi : Binds K fd ps []
def placeV (n : Nat) (v : V) : Bool := wholeV v 0 ((n : Int) - 1)
/-- a good place is a number below the length -/
theorem place_nat {n : Nat} {v : V} (h : placeV n v = true) : ∃ i : Nat, i < n ∧ v = .int (i : Int) := by
  cases v with
  | int j =>
    have h : (decide ((0 : Int) ≤ j) && decide (j ≤ (n : Int) - 1)) = true := h
    rw [Bool.and_eq_true, decide_eq_true_iff, decide_eq_true_iff] at h
    exact ⟨j.toNat, by omega, by rw [Int.toNat_of_nonneg h.1]⟩
  | _ => cases h
theorem nat_place {n i : Nat} (h : i < n) : placeV n (.int (i : Int)) = true := by
  show (decide ((0 : Int) ≤ (i : Int)) && decide ((i : Int) ≤ (n : Int) - 1)) = true
  rw [Bool.and_eq_true, decide_eq_true_iff, decide_eq_true_iff]
  omega
def spCP (CP CB : Addr) : Sp := fun vs H Q E => ∃ (x : Addr) (i : Nat) (v : V) (t : String) (p : List (Option Nat)), vs = [.ref x, .int (i : Int), v] ∧ PatAt CP H x p ∧ Odd H v t ∧ (placeV p.length v = true → Q .non H) ∧ (placeV p.length v = false → Fails CB H E i "place")
def spCA (CP CB : Addr) : Sp := fun vs H Q E => ∃ (x : Addr) (v : V) (t : String) (p : List (Option Nat)), vs = [.ref x, v] ∧ PatAt CP H x p ∧ Odd H v t ∧ (∀ i : Nat, i < p.length → v = .int (i : Int) → Q (optV (p.getD i none)) H) ∧ (placeV p.length v = false → Fails CB H E 0 "place")
def alikeB (p : List (Option Nat)) (i j : Nat) : Bool := (p.getD i none).isSome && decide (p.getD i none = p.getD j none)
def spAA (CP CB : Addr) : Sp := fun vs H Q E => ∃ (x : Addr) (u v : V) (t t' : String) (p : List (Option Nat)), vs = [.ref x, u, v] ∧ PatAt CP H x p ∧ Odd H u t ∧ Odd H v t' ∧ (∀ i j : Nat, i < p.length → j < p.length → u = .int (i : Int) → v = .int (j : Int) → Q (.bl (alikeB p i j)) H) ∧
  (placeV p.length u = false → Fails CB H E 0 "place") ∧ (placeV p.length u = true → placeV p.length v = false → Fails CB H E 1 "place")
section
variable {P : Program} {w : World} {K : PySem.W.Frag} {mg : Str → Option Value} {base : Heap}
theorem ok_plErr {f C : Addr} {fd : FuncData} (F : FunD K "__init__" "BadPlaces.__init__" (defArgs sPlErr) (defBody sPlErr) (defScope sPlErr) [] [] f fd) (T : OexC K C) (n0 : NoF K C "index") (n1 : NoF K C "what") :
    FnOk P w K mg base CX0 1 f fd ["self", "index", "what"] (spPatErr C) := by
  have sc : FnScope ["self", "index", "what"] ["self", "index", "what"] (defScope sPlErr) := ⟨rfl, rfl, rfl, by decide +kernel, rfl, by decide +kernel, by decide +kernel⟩
  refine F.ok sc (fun vs H Q E h => ?_) (fun cdv A outer s H vs Q E hr h => ?_)
  · obtain ⟨a, i, x, rfl, _⟩ := h
    rfl
  · obtain ⟨a, i, x, rfl, ea, q⟩ := h
    refine ⟨_, PSs.nox (pss_cons (ps_ost (pv 0) (pv 1)) (pss_one (ps_ost (pv 0) (pv 2)))), ?_⟩
    refine ⟨_, rfl, _, rfl, a, C, rfl, T, n0, .inl ⟨ea, fun d nd ne => ?_⟩⟩
    refine ⟨_, rfl, _, rfl, a, C, rfl, T, n1, .inr ⟨d, _, upd_same, Eq.trans (upd_ne ne) upd_same, (by show 1 ≤ 900; decide), ?_⟩⟩
    exact q _ d nd (Eq.trans (upd_ne (Ne.symm ne)) upd_same) upd_same (keep_dict nd (keep_new nd))
theorem ok_clErr {f C : Addr} {fd : FuncData} (F : FunD K "__init__" "BadClass.__init__" (defArgs sClErr) (defBody sClErr) (defScope sClErr) [] [] f fd) (T : OexC K C) (n1 : NoF K C "number") :
    FnOk P w K mg base CX0 1 f fd ["self", "number"] (spClErr C) := by
  have sc : FnScope ["self", "number"] ["self", "number"] (defScope sClErr) := ⟨rfl, rfl, rfl, by decide +kernel, rfl, by decide +kernel, by decide +kernel⟩
  refine F.ok sc (fun vs H Q E h => ?_) (fun cdv A outer s H vs Q E hr h => ?_)
  · obtain ⟨a, v, rfl, _⟩ := h
    rfl
  · obtain ⟨a, v, rfl, ea, q⟩ := h
    refine ⟨_, PSs.nox (pss_one (ps_ost (pv 0) (pv 1))), ?_⟩
    refine ⟨_, rfl, _, rfl, a, C, rfl, T, n1, .inl ⟨ea, fun d nd ne => ?_⟩⟩
    exact q _ d nd upd_same (Eq.trans (upd_ne ne) upd_same) (keep_new nd)
theorem ok_cp {f fW fX CP CB : Addr} {fd fdW fdX : FuncData} (F : FunD K "_check_place" "Pattern._check_place" (defArgs sPCheckPlace) (defBody sPCheckPlace) (defScope sPCheckPlace) [] [] f fd) (T : PatC K CP) (z_len : mg "len" = none)
    (dW : Df P w K mg base "is_whole" 1 ["thing", "low", "high"] spWhole fW fdW) (X : ErrC P w K mg base "BadPlaces" ["self", "index", "what"] spPatErr CB fX fdX) : FnOk P w K mg base (L2.CX P w) 3 f fd ["self", "index", "place"] (spCP CP CB) := by
  have sc : FnScope ["self", "index", "place"] ["self", "index", "place"] (defScope sPCheckPlace) := ⟨rfl, rfl, rfl, by decide +kernel, rfl, by decide +kernel, by decide +kernel⟩
  refine F.ok sc (fun vs H Q E h => ?_) (fun cdv A outer s H vs Q E hr2 h => ?_)
  · obtain ⟨x, i, v, t, p, rfl, _⟩ := h
    rfl
  · obtain ⟨x, i, v, t, p, rfl, hx, o, q1, q0⟩ := h
    have hr1 := hr2.mono (show 1 ≤ 2 by decide)
    obtain ⟨dx, tx, c, ex, etx, lx, ec⟩ := hx
    refine ⟨_, (pss_one (ps_if (pt_not (pt_val (pe_call dW.ok hr1 (by rfl) dW.gl dW.kp dW.bi .nil pass0 (pa_cons (pv 2) (pa_cons pe_int (pa_cons (pe_op op_sub (pe_callB call_len_seq (by rfl) z_len boot_len (pa_cons (pe_fld (pv 0) rfl) pa_nil)) pe_int) pa_nil))))))
      (pss_one (ps_raise rfl (takes_of rfl rfl rfl rfl) (pmk_oex X.cl X.ini X.ty X.ok hr2 X.bi .nil pass0 (by rfl) X.gl (pa_cons (pv 1) (pa_cons pe_str pa_nil)))))
      pss_nil)), ?_⟩
    refine ⟨_, rfl, _, rfl, x, CP, dx, _, _, rfl, ex, T.cl, T.nE, rfl, tx, _, rfl, .inr (SqT.of etx), _, _, rfl, rfl, v, t, 0, _, rfl, o, _, rfl, ?_⟩
    rw [len_vals]
    show (if (!(placeV p.length v)) = true then _ else _)
    cases hp : placeV p.length v with
    | true => exact iteF (q1 hp)
    | false => exact iteT ⟨_, rfl, (by show 2 ≤ 1000; decide), fun av nav => fail_nm (q0 hp) (Same.refl _) av nav⟩
theorem scal_opt (a b : Option Nat) : scal (optV a) (optV b) = true := by
  cases a <;> cases b <;> rfl
theorem getD_at {p : List (Option Nat)} {i : Nat} (h : i < p.length) : (vals p)[i]? = some (optV (p.getD i none)) := by
  rw [vals_get, List.getD_eq_getElem?_getD, List.getElem?_eq_getElem h]
  rfl
theorem ok_ca {f fC CP CB : Addr} {fd fdC : FuncData} (F : FunD K "class_at" "Pattern.class_at" (defArgs sPClassAt) (defBody sPClassAt) (defScope sPClassAt) [] [] f fd) (T : PatC K CP)
    (M : MethM P w K mg base CP "_check_place" 3 ["self", "index", "place"] (spCP CP CB) fC fdC) : FnOk P w K mg base (L2.CX P w) 4 f fd ["self", "place"] (spCA CP CB) := by
  have sc : FnScope ["self", "place"] ["self", "place"] (defScope sPClassAt) := ⟨rfl, rfl, rfl, by decide +kernel, rfl, by decide +kernel, by decide +kernel⟩
  refine F.ok sc (fun vs H Q E h => ?_) (fun cdv A outer s H vs Q E hr3 h => ?_)
  · obtain ⟨x, v, t, p, rfl, _⟩ := h
    rfl
  · obtain ⟨x, v, t, p, rfl, hx, o, q1, q0⟩ := h
    obtain ⟨dx, tx, c, ex, etx, lx, ec⟩ := id hx
    refine ⟨_, (pss_cons (ps_expr (pe_methE (pv 0) T.cl M.mt (FnOk.r M.ok M.bi) hr3 (fun σ => passAt (takes_of rfl rfl rfl rfl) σ) (pa_cons pe_int (pa_cons (pv 1) pa_nil))))
    (pss_one (ps_ret (pe_ix ix_tup (pe_fld (pv 0) rfl) (pv 1) (fun _ _ => rfl))))), ?_⟩
    refine ⟨_, rfl, x, dx, _, rfl, ex, rfl, _, rfl, x, 0, v, t, p, rfl, hx, o, fun hp => ?_, fun hp H' d n e s' => q0 hp H' d n e s'⟩
    obtain ⟨i, hi, rfl⟩ := place_nat hp
    exact ⟨_, rfl, x, CP, dx, _, _, rfl, ex, T.cl, T.nE, rfl, _, rfl, tx, _, (i : Int), _, rfl, rfl, SqT.of etx, atI_nat (getD_at hi), q1 i hi rfl⟩
theorem ok_aa {f fC CP CB : Addr} {fd fdC : FuncData} (F : FunD K "are_alike" "Pattern.are_alike" (defArgs sPAreAlike) (defBody sPAreAlike) (defScope sPAreAlike) [] [] f fd) (T : PatC K CP)
    (M : MethM P w K mg base CP "_check_place" 3 ["self", "index", "place"] (spCP CP CB) fC fdC) : FnOk P w K mg base (L2.CX P w) 4 f fd ["self", "one", "other"] (spAA CP CB) := by
  have sc : FnScope ["self", "one", "other"] ["self", "one", "other"] (defScope sPAreAlike) := ⟨rfl, rfl, rfl, by decide +kernel, rfl, by decide +kernel, by decide +kernel⟩
  refine F.ok sc (fun vs H Q E h => ?_) (fun cdv A outer s H vs Q E hr3 h => ?_)
  · obtain ⟨x, u, v, t, t', p, rfl, _⟩ := h
    rfl
  · obtain ⟨x, u, v, t, t', p, rfl, hx, o1, o2, q1, q0, q2⟩ := h
    obtain ⟨dx, tx, c, ex, etx, lx, ec⟩ := id hx
    refine ⟨_, (pss_cons (ps_expr (pe_methE (pv 0) T.cl M.mt (FnOk.r M.ok M.bi) hr3 (fun σ => passAt (takes_of rfl rfl rfl rfl) σ) (pa_cons pe_int (pa_cons (pv 1) pa_nil))))
    (pss_cons (ps_expr (pe_methE (pv 0) T.cl M.mt (FnOk.r M.ok M.bi) hr3 (fun σ => passAt (takes_of rfl rfl rfl rfl) σ) (pa_cons pe_int (pa_cons (pv 2) pa_nil))))
    (pss_one (ps_ret (pe_and (pe_cmpR op_notN (pe_ix ix_tup (pe_fld (pv 0) rfl) (pv 1) (fun _ _ => rfl)) pe_non (nomark _)) (pe_one (pe_cmpR op_eq (pe_ix ix_tup (pe_fld (pv 0) rfl) (pv 1) (fun _ _ => rfl)) (pe_ix ix_tup (pe_fld (pv 0) rfl) (pv 2) (fun _ _ => rfl)) (nomark _)))))))), ?_⟩
    refine ⟨_, rfl, x, dx, _, rfl, ex, rfl, _, rfl, x, 0, u, t, p, rfl, hx, o1, fun hp => ?_, fun hp H' d n e s' => q0 hp H' d n e s'⟩
    refine ⟨_, rfl, x, dx, _, rfl, ex, rfl, _, rfl, x, 1, v, t', p, rfl, hx, o2, fun hp2 => ?_, fun hp2 H' d n e s' => q2 hp hp2 H' d n e s'⟩
    obtain ⟨i, hi, rfl⟩ := place_nat hp
    obtain ⟨j, hj, rfl⟩ := place_nat hp2
    have q := q1 i j hi hj rfl rfl
    refine ⟨_, rfl, x, CP, dx, _, _, rfl, ex, T.cl, T.nE, rfl, _, rfl, tx, _, (i : Int), _, rfl, rfl, SqT.of etx, atI_nat (getD_at hi), rfl, ?_⟩
    unfold alikeB at q
    cases hi2 : p.getD i none with
    | none =>
      rw [hi2] at q
      exact ⟨_, rfl, iteF q⟩
    | some k =>
      rw [hi2] at q
      refine ⟨_, rfl, iteT ⟨_, rfl, x, CP, dx, _, _, rfl, ex, T.cl, T.nE, rfl, _, rfl, tx, _, (i : Int), _, rfl, rfl, SqT.of etx, atI_nat (getD_at hi), _, rfl, x, CP, dx, _, _, rfl, ex, T.cl, T.nE, rfl, _, rfl, tx, _, (j : Int), _, rfl, rfl, SqT.of etx, atI_nat (getD_at hj), scal_opt _ _, ?_⟩⟩
      have e : decide (optV (p.getD i none) = optV (p.getD j none)) = decide (some k = p.getD j none) := by
        rw [hi2]
        exact decide_eq_decide.mpr ⟨fun z => optV_inj z, fun z => by rw [z]⟩
      rw [e]
      exact q
end
end K25

/-! places of a class, the pattern of some places -/
namespace K25
open PySem PySem.Spec PyProof.Rows L2
/-- the first n places, those of class k -/
def plcL (p : List (Option Nat)) (k n : Nat) : List Nat := (List.range n).filter fun i => decide (p.getD i none = some k)
theorem plcL_len (p : List (Option Nat)) (k n : Nat) : (plcL p k n).length ≤ n := Nat.le_trans (List.length_filter_le ..) (Nat.le_of_eq List.length_range)
theorem plcL_succ (p : List (Option Nat)) (k n : Nat) : plcL p k (n + 1) = plcL p k n ++ (if p.getD n none = some k then [n] else []) := by
  unfold plcL
  rw [List.range_succ, List.filter_append]
  congr 1
  have e : ∀ b : Bool, ([n].filter fun _ => b) = if b = true then [n] else [] := fun b => by cases b <;> rfl
  have e2 : ([n].filter fun i => decide (p.getD i none = some k)) = [n].filter fun _ => decide (p.getD n none = some k) := List.filter_congr fun i hi => by rw [List.mem_singleton.mp hi]
  rw [e2, e]
  by_cases h : p.getD n none = some k
  · rw [if_pos h, if_pos (decide_eq_true h)]
  · rw [if_neg h, if_neg (fun z => h (of_decide_eq_true z))]
abbrev natL (ns : List Nat) : List V := ns.map fun n : Nat => V.int (n : Int)
def classV (c : Nat) (v : V) : Bool := wholeV v 0 ((c : Int) - 1)
def spPl (CP CC : Addr) : Sp := fun vs H Q E => ∃ (x : Addr) (v : V) (t : String) (p : List (Option Nat)) (c : Nat), vs = [.ref x, v] ∧ PatAt CP H x p ∧ cnt 0 (vals p) = some c ∧ Odd H v t ∧
  (∀ k : Nat, k < c → v = .int (k : Int) → ∀ (H' : Hp) (t : Addr), Same H H' → H' t = some (.tup (natL (plcL p k p.length))) → Q (.ref t) H') ∧ (classV c v = false → FailsC CC H E v)
theorem fail_cl {CN : Addr} {H H0 : Hp} {v : V} {E : XK} (q0 : FailsC CN H E v) (s0 : Same H H0) :
    ∀ av, H0 av = none → spClErr CN [.ref av, v] (upd H0 av (exo av CN none)) (fun v H3 => v = .non ∧ ∃ dd fs, H3 av = some (exo av CN (some dd)) ∧ H3 dd = some (exd dd fs) ∧ H0 dd = none ∧ E (.ref CN) (some dd) (upd (del H3 av) dd (.xd fs))) E0 := fun av nav =>
      ⟨av, v, rfl, upd_same, fun H3 dd nd3 ha3 hd3 kp => ⟨rfl, dd, _, ha3, hd3, none_of (same_upd nav) nd3, q0 _ dd (none_of s0 (none_of (same_upd nav) nd3)) upd_same fun y' o' e' => by
        have e2 := s0 _ _ e'
        rw [upd_ne (ne_of_none e2 (none_of (same_upd nav) nd3)), del_ne (ne_of_none e2 nav)]
        exact kp _ _ (ne_of_none e2 nav) (same_upd nav _ _ e2)⟩⟩
def plBad (n i : Nat) : List V → Option (Nat × Str)
  | [] => none
  | x :: xs => if placeV n x = true then plBad n (i + 1) xs else some (i, "place")
def pf (n : Nat) (xs : List V) (b : Bool) : Option (Nat × Str) := if b = true ∧ xs.length ≤ 40 then plBad n 0 xs else some (0, "places")
theorem plBad_nat : ∀ {n i : Nat} {xs : List V}, plBad n i xs = none → ∃ is : List Nat, xs = natL is ∧ ∀ k ∈ is, k < n
  | _, _, [], _ => ⟨[], rfl, fun _ h => by cases h⟩
  | n, i, x :: xs, h => by
    have h : (if placeV n x = true then plBad n (i + 1) xs else some (i, ("place" : Str))) = none := h
    by_cases hx : placeV n x = true
    · rw [if_pos hx] at h
      obtain ⟨is, rfl, hi⟩ := plBad_nat h
      obtain ⟨k, hk, rfl⟩ := place_nat hx
      exact ⟨k :: is, rfl, fun j hj => by
        rcases List.mem_cons.mp hj with rfl | hj
        · exact hk
        · exact hi j hj⟩
    · rw [if_neg hx] at h
      cases h
def ledL (p : List (Option Nat)) (is : List Nat) : List (Option Nat) := is.map fun i => p.getD i none
def spAP (CP CB : Addr) : Sp := fun vs H Q E => ∃ (x : Addr) (v : V) (xs : List V) (b : Bool) (p : List (Option Nat)), vs = [.ref x, v] ∧ PatAt CP H x p ∧ Ns H v xs b ∧ (∀ i z, pf p.length xs b = some (i, z) → Fails CB H E i z) ∧
  (∀ is : List Nat, pf p.length xs b = none → xs = natL is → (∀ k ∈ is, k < p.length) → ∀ (H' : Hp) (z : Addr), Same H H' → PatAt CP H' z (num (ledL p is)) → Q (.ref z) H')
structure PatMk (P : Program) (w : World) (K : PySem.W.Frag) (mg : Str → Option Value) (base : Heap) (CP CE fI : Addr) (fd : FuncData) : Prop where
  mks : Mk K CP fI
  gl : mg "Pattern" = some (.ref CP)
  ok : FnOk P w K mg base (L2.CX P w) 3 fI fd ["self", "entries"] (spPat CP CE)
  bi : Binds K fd ["self", "entries"] []
theorem same_ins {H : Hp} {x dx C : Addr} {fs : List (Str × V)} (nx : H x = none) (nd : H dx = none) (ne : dx ≠ x) : Same H (upd (upd H dx (.own x)) x (.ins C dx fs)) := fun b o e => by
  rw [upd_ne (ne_of_none e nx), upd_ne (ne_of_none e nd)]
  exact e
/-- a pattern is made of numbered entries -/
theorem pat_make {CP CE : Addr} {H : Hp} {a : Addr} {r : List (Option Nat)} {Q : VK} {E : XK} (ha : Sq H a (vals r)) (hp : Pt r) (hl : r.length ≤ 40) (q : ∀ (H' : Hp) (z : Addr), Same H H' → PatAt CP H' z r → Q (.ref z) H') :
    ∀ x dx, H x = none → H dx = none → dx ≠ x → spPat CP CE (.ref x :: [.ref a]) (upd (upd H dx (.own x)) x (.ins CP dx [])) (fun v H2 => v = .non ∧ Q (.ref x) H2) E := fun x dx nx nd ne => by
  obtain ⟨c, hc⟩ := hp.cnt
  have s0 := same_ins (C := CP) (fs := []) nx nd ne
  have ef0 : ef (vals r) true = none := by
    unfold ef
    rw [if_pos ⟨rfl, by rw [len_vals]; exact hl⟩]
    exact cnt_ef hc
  refine ⟨x, dx, .ref a, vals r, true, rfl, upd_same, .seq (ha.same s0) (by rw [len_vals]; omega) (fun v hv => ⟨_, (fl_vals v hv).odd⟩), fun c' _ ec H' t h1 h2 k => ⟨rfl, ?_⟩, fun i z e => by rw [ef0] at e; cases e⟩
  have s1 : Same H H' := fun y o e => k y o (s0 _ _ e) (ne_of_none e nx)
  exact q H' x s1 ⟨dx, t, c', h1, h2, hl, ec⟩
section
variable {P : Program} {w : World} {K : PySem.W.Frag} {mg : Str → Option Value} {base : Heap}
theorem mE_fld {t : TE} {f : Str} (h : MonoE t) : MonoE (tFld K t f) := fun _ _ _ _ hq q => h _ _ _ _ (fun _ _ ⟨a, C, dx, fs, v, e, h1, h2, h3, h4, q⟩ => ⟨a, C, dx, fs, v, e, h1, h2, h3, h4, hq _ _ q⟩) q
theorem ok_pl {f fW fX CP CC : Addr} {fd fdW fdX : FuncData} (F : FunD K "places_of" "Pattern.places_of" (defArgs sPPlacesOf) (defBody sPPlacesOf) (defScope sPPlacesOf) [] [] f fd) (T : PatC K CP) (z_tuple : mg "tuple" = none) (z_enumerate : mg "enumerate" = none)
    (dW : Df P w K mg base "is_whole" 1 ["thing", "low", "high"] spWhole fW fdW) (X : ErrC P w K mg base "BadClass" ["self", "number"] spClErr CC fX fdX) : FnOk P w K mg base (L2.CX P w) 3 f fd ["self", "number"] (spPl CP CC) := by
  have sc : FnScope ["self", "number", "place", "entry"] ["self", "number"] (defScope sPPlacesOf) := ⟨rfl, rfl, rfl, by decide +kernel, rfl, by decide +kernel, by decide +kernel⟩
  refine F.ok sc (fun vs H Q E h => ?_) (fun cdv A outer s H vs Q E hr2 h => ?_)
  · obtain ⟨x, v, t, p, c, rfl, _⟩ := h
    rfl
  · obtain ⟨x, v, t, p, c, rfl, hx, ec, o, q1, q0⟩ := h
    have hr1 := hr2.mono (show 1 ≤ 2 by decide)
    obtain ⟨dx, tx, c', ex, etx, lx, ec'⟩ := id hx
    obtain rfl : c' = c := Option.some.inj (ec'.symm.trans ec)
    refine ⟨_, (pss_cons (ps_if (pt_not (pt_val (pe_call dW.ok hr1 (by rfl) dW.gl dW.kp dW.bi .nil pass0 (pa_cons (pv 1) (pa_cons pe_int (pa_cons (pe_op op_sub (pe_fld (pv 0) rfl) pe_int) pa_nil))))))
      (pss_one (ps_raise rfl (takes_of rfl rfl rfl rfl) (pmk_oex X.cl X.ini X.ty X.ok hr2 X.bi .nil pass0 (by rfl) X.gl (pa_cons (pv 1) pa_nil))))
      pss_nil)
    (pss_one (ps_ret (pe_callTy call_tuple_of (by rfl) z_tuple (by decide +kernel) (pa_cons (pe_lc (own := [("place", 2), ("entry", 3)]) (g := gTup K 2 (gCons (gName 2) (gCons (gName 3) gNil))) (tt := tTest (tOp rEq (tVar 3) (tVar 1))) (te := tVar 2) rfl sc.nd (pi_enumT (by rfl) z_enumerate (pa_cons (pe_fld (pv 0) rfl) pa_nil) rfl) (blkOk_by (N := ["self", "number", "place", "entry"]) (sc := defScope sPPlacesOf) (by decide +kernel)) (fun _ _ _ _ _ => pg_tup (by rfl) (pgs_cons (pg_name (i := 2) sc.nd rfl (Or.inl rfl)) (pgs_cons (pg_name (i := 3) sc.nd rfl (Or.inl rfl)) pgs_nil))) (fun _ _ _ _ _ => pts_one (pt_cmpR op_eq (pv 3) (pv 1) (nomark _))) (fun _ _ _ _ _ => (pv 2))) pa_nil))))), ?_⟩
    refine ⟨_, rfl, _, rfl, x, CP, dx, _, _, rfl, ex, T.cl, T.nC, rfl, _, _, rfl, rfl, v, t, 0, _, rfl, o, _, rfl, ?_⟩
    show (if (!(classV c' v)) = true then _ else _)
    cases hv : classV c' v with
    | false => exact iteT ⟨_, rfl, (by show 1 ≤ 1000; decide), fun av nav => fail_cl (q0 hv) (Same.refl _) av nav⟩
    | true =>
      refine iteF ?_
      obtain ⟨k, hk, rfl⟩ := place_nat hv
      refine ⟨_, rfl, x, CP, dx, _, _, rfl, ex, T.cl, T.nE, rfl, tx, _, rfl, SqT.of etx, fun D nD => lc_E (K := K) walk_enumT (fun i acc _ => acc = natL (plcL p k i)) ⟨fun _ _ _ _ _ r _ _ => r, fun i acc _ r => by rw [r, List.length_map]; exact plcL_len _ _ _⟩ nD (by rw [len_vals]; exact Nat.lt_of_le_of_lt lx (by decide)) rfl (fun H' s' => SqT.of (s' _ _ etx)) (fun _ _ => rfl) ?_ (mT_test (mE_op mR_eq mE_var mE_var)) mE_var ?_⟩
      · rintro i v acc H' ev s' eD rfl
        rw [vals_get] at ev
        obtain ⟨o, eo, rfl⟩ := Option.map_eq_some_iff.mp ev
        have e0 : p.getD i none = o := by rw [List.getD_eq_getElem?_getD, eo]; rfl
        refine ⟨_, rfl, _, rfl, scal_opt o (some k), _, rfl, Same.refl _, ?_⟩
        rw [plcL_succ, e0]
        have ed : decide (optV o = V.int (k : Int)) = decide (o = some k) := decide_eq_decide.mpr ⟨fun z => optV_inj (b := some k) z, fun z => by rw [z]; rfl⟩
        rw [ed]
        by_cases h : o = some k
        · rw [decide_eq_true h, if_pos rfl, if_pos h]
          exact ⟨_, rfl, Same.refl _, (List.map_append (f := fun n : Nat => V.int (n : Int)) (l₁ := plcL p k i) (l₂ := [i])).symm⟩
        · rw [decide_eq_false h, if_neg Bool.false_ne_true, if_neg h, List.append_nil]
      · rintro H2 acc s2 eD rfl
        rw [len_vals] at eD
        exact ⟨D, _, rfl, .inl ⟨SqL.of eD, fun t nt => q1 k hk rfl _ t (s2.trans (same_upd nt)) upd_same⟩⟩
theorem ok_ap {f fC fS fN fI fX CP CE CB : Addr} {fd fdC fdS fdN fdI fdX : FuncData} (F : FunD K "at_places" "Pattern.at_places" (defArgs sPAtPlaces) (defBody sPAtPlaces) (defScope sPAtPlaces) [] [] f fd) (T : PatC K CP) (z_len : mg "len" = none) (z_enumerate : mg "enumerate" = none) (g_MOST_PLACES : ∃ t, mg "MOST_PLACES" = some (.int 40 t))
    (dS : Df P w K mg base "is_sequence" 1 ["thing"] spSeq fS fdS) (M : MethM P w K mg base CP "_check_place" 3 ["self", "index", "place"] (spCP CP CB) fC fdC) (dN : Df P w K mg base "numbered" 1 ["values"] spNbS fN fdN) (MK : PatMk P w K mg base CP CE fI fdI) (X : ErrC P w K mg base "BadPlaces" ["self", "index", "what"] spPatErr CB fX fdX) :
    FnOk P w K mg base (L2.CX P w) 5 f fd ["self", "places"] (spAP CP CB) := by
  obtain ⟨tk, g_MOST_PLACES⟩ := g_MOST_PLACES
  have sc : FnScope ["self", "places", "index", "place"] ["self", "places"] (defScope sPAtPlaces) := ⟨rfl, rfl, rfl, by decide +kernel, rfl, by decide +kernel, by decide +kernel⟩
  refine F.ok sc (fun vs H Q E h => ?_) (fun cdv A outer s H vs Q E hr4 h => ?_)
  · obtain ⟨x, v, xs, b, p, rfl, _⟩ := h
    rfl
  · obtain ⟨x, v, xs, b, p, rfl, hx, nm, q0, q1⟩ := h
    have hr1 := hr4.mono (show 1 ≤ 4 by decide)
    have hr2 := hr4.mono (show 2 ≤ 4 by decide)
    have hr3 := hr4.mono (show 3 ≤ 4 by decide)
    refine ⟨_, (pss_cons (ps_if (PW.pt (pw_or (pt_not (pt_val (pe_call dS.ok hr1 (by rfl) dS.gl dS.kp dS.bi .nil pass0 (pa_cons (pv 1) pa_nil)))) (pw_or1 (pt_cmpR op_gt (pe_callB call_len_seq (by rfl) z_len boot_len (pa_cons (pv 1) pa_nil)) (pe_glob (by rfl) g_MOST_PLACES (v := .int 40) ⟨_, rfl⟩) (nomark _)))))
      (pss_one (ps_raise rfl (takes_of rfl rfl rfl rfl) (pmk_oex X.cl X.ini X.ty X.ok hr2 X.bi .nil pass0 (by rfl) X.gl (pa_cons pe_int (pa_cons pe_str pa_nil)))))
      pss_nil)
    (pss_cons (ps_for PassesOwn.leaving rfl (pi_or (pi_enum (by rfl) z_enumerate (pa_cons (pv 1) pa_nil)) (pi_enumT (by rfl) z_enumerate (pa_cons (pv 1) pa_nil) rfl)) (pg_tup (by rfl) (pgs_cons (pg_name (i := 2) sc.nd rfl (.inl rfl)) (pgs_cons (pg_name (i := 3) sc.nd rfl (.inl rfl)) pgs_nil)))
      (pss_one (ps_expr (pe_methE (pv 0) T.cl M.mt (FnOk.r M.ok M.bi) hr3 (fun σ => passAt (takes_of rfl rfl rfl rfl) σ) (pa_cons (pv 2) (pa_cons (pv 3) pa_nil))))))
    (pss_one (ps_ret (pe_make MK.mks MK.ok hr4 (by rfl) MK.gl MK.bi .nil passX0 (pa_cons (pe_call dN.ok hr1 (by rfl) dN.gl dN.kp dN.bi .nil pass0 (pa_cons (pe_lc (own := [("place", 3)]) (g := gName 3) (tt := tYes) (te := tOp (rIxT K) (tFld K (tVar 0) "entries") (tVar 3)) rfl sc.nd (pi_or (pi_list (pv 1)) (pi_tup (pv 1))) (blkOk_by (N := ["self", "places", "index", "place"]) (sc := defScope sPAtPlaces) (by decide +kernel)) (fun _ _ _ _ _ => pg_name (i := 3) sc.nd rfl (Or.inl rfl)) (fun _ _ _ _ _ => pts_nil) (fun _ _ _ _ _ => (pe_ix ix_tup (pe_fld (pv 0) rfl) (pv 3) (fun _ _ => rfl)))) pa_nil)) pa_nil)))))), ?_⟩
    cases nm with
    | bad o ns =>
      refine ⟨_, rfl, _, _, rfl, o, fun u nu => ?_⟩
      rw [ns]
      exact ⟨_, rfl, iteT ⟨(by show 2 ≤ 1000; decide), fun av nav => fail_nm (i := 0) (q0 0 _ rfl) (same_upd nu) av nav⟩⟩
    | @seq a xs h hl od =>
      obtain ⟨t, o, hs⟩ := h.odd
      refine ⟨_, rfl, _, _, rfl, o, fun u nu => ?_⟩
      rw [hs]
      refine ⟨_, rfl, iteF ?_⟩
      have su := same_upd (o := .tup [.ty "list", .ty "tuple"]) nu
      have h1 := h.same su
      generalize upd H u (.tup [.ty "list", .ty "tuple"]) = H0 at su h1 ⊢
      refine ⟨_, rfl, _, _, rfl, h1.or, _, _, rfl, rfl, _, rfl, ?_⟩
      by_cases h40 : xs.length ≤ 40
      · rw [decide_eq_false (show ¬ (40 : Int) < (xs.length : Int) by omega)]
        refine iteF ?_
        unfold pf at q1 q0
        rw [if_pos ⟨rfl, h40⟩] at q1 q0
        refine enum_any (fun Q q => ⟨_, rfl, q⟩) h1 fun it G wk keep => for_it wk (fun i σ H' => ∃ (x1 x2 : Option V), σ = [some (.ref x), some (.ref a), x1, x2] ∧ plBad p.length i (xs.drop i) = plBad p.length 0 xs ∧ Same H0 H')
          ⟨none, none, rfl, by rw [List.drop_zero], Same.refl _⟩ (fun i σ H' _ ⟨_, _, _, _, s⟩ => keep _ (Same.kp s)) ?_ ?_
        · rintro i y σ H1 H2 hi ⟨x1, x2, rfl, hc, sm⟩ ⟨T, u', v, rfl, nT, rfl, eu, ev⟩
          obtain rfl : u' = .int (i : Int) := (Option.some.inj eu).symm
          obtain ⟨tv, ov⟩ := od v (List.mem_of_getElem? ev)
          rw [drop_cons' ev] at hc
          have hc : (if placeV p.length v = true then plBad p.length (i + 1) (xs.drop (i + 1)) else some (i, "place")) = plBad p.length 0 xs := hc
          have sT := sm.trans (same_upd (o := .tup [.int (i : Int), v]) nT)
          have sH := su.trans sT
          refine ⟨T, _, rfl, .inl (.inl upd_same), rfl, _, _, rfl, _, _, rfl, rfl, ?_⟩
          generalize upd H1 T (.tup [.int (i : Int), v]) = HT at sT sH ⊢
          have hxT := hx.sm sH
          obtain ⟨dx, tx, c, ex, _⟩ := id hxT
          refine ⟨_, rfl, x, dx, _, rfl, ex, rfl, _, rfl, _, rfl, x, i, v, tv, p, rfl, hxT, ov.same sH, fun hp => ?_, fun hp H' d n e s' => ?_⟩
          · rw [if_pos hp] at hc
            exact ⟨_, _, rfl, hc, sT⟩
          · rw [if_neg (by rw [hp]; exact Bool.false_ne_true)] at hc
            exact q0 i _ hc.symm H' d (none_of sH n) e (sH.trans s')
        · rintro σ H1 ⟨x1, x2, rfl, hc, sm⟩
          rw [List.drop_of_length_le (Nat.le_refl _)] at hc
          have hok : plBad p.length 0 xs = none := hc.symm
          obtain ⟨is, rfl, hi⟩ := plBad_nat hok
          have h2 := h1.same sm
          have sH := su.trans sm
          obtain ⟨dx, tx, c, ex, etx, _⟩ := id (hx.sm sH)
          have ln : (natL is).length = is.length := List.length_map ..
          refine seq_any (fun Q q => ⟨_, rfl, q⟩) h2 fun it G wk keep D nD => lc_N wk (fun i acc _ => acc = vals ((ledL p is).take i)) ⟨fun _ _ _ _ _ r _ _ => r, fun i acc _ r => by rw [r, len_vals]; exact List.length_take_le _ _⟩ nD (by rw [ln]; exact Nat.lt_of_le_of_lt (show is.length ≤ 40 by omega) (by decide)) rfl (fun H' s' => keep _ (Same.kp s')) (fun _ => rfl) ?_ mT_yes (mE_op mR_ixT (mE_fld mE_var) mE_var) ?_
          · rintro i v acc H' ev s' eD rfl
            obtain ⟨j, ej, rfl⟩ := Option.map_eq_some_iff.mp ((List.getElem?_map ..).symm.trans ev)
            have hj := hi j (List.mem_of_getElem? ej)
            have ee : (ledL p is)[i]? = some (p.getD j none) := by unfold ledL; rw [List.getElem?_map, ej]; rfl
            refine ⟨Same.refl _, iteT ⟨_, rfl, x, CP, dx, _, _, rfl, s' _ _ ex, T.cl, T.nE, rfl, _, rfl, tx, _, (j : Int), _, rfl, rfl, SqT.of (s' _ _ etx), atI_nat (getD_at hj), Same.refl _, ?_⟩⟩
            rw [take_snoc' ee, vals_app]
            rfl
          · rintro H2 acc s2 eD rfl
            have ll : (ledL p is).length = is.length := List.length_map ..
            rw [List.take_of_length_le (by rw [ll, ln]; exact Nat.le_refl _)] at eD
            refine ⟨D, ledL p is, rfl, .inl eD, by rw [ll]; omega, fun H3 z s3 nz ez => ?_⟩
            exact pat_make (.inl ez) (Pt.nums _) (by rw [num_len, ll]; omega) fun H4 z4 s4 hz => q1 is hok rfl hi H4 z4 (((sH.trans s2).trans s3).trans s4) hz
      · rw [decide_eq_true (show (40 : Int) < (xs.length : Int) by omega)]
        unfold pf at q0
        rw [if_neg (fun z => h40 z.2)] at q0
        exact iteT ⟨(by show 2 ≤ 1000; decide), fun av nav => fail_nm (i := 0) (q0 0 _ rfl) su av nav⟩
end
end K25

/-! a staticmethod, called by its class; the pattern of names -/
namespace StX
open PySem PySem.Spec PyProof.Rows L2 ClX
/-- C.m is a staticmethod: its record at p, its def at g -/
structure CSt (K : PySem.W.Frag) (C : Addr) (mc : Value) (m : Str) (p g : Addr) : Prop where
  at_ : PySem.W.findCls K (.ref C) mc m = some (.get (.builtin "staticmethod.__get__") (.ref p) .none (.ref C))
  rc : ∃ rest, PySem.W.recIn K p "staticmethod" = some (.ref g :: rest)
  kp : PySem.W.keepIn K (.ref g) = true
/-- C.m(..), m a staticmethod that may raise -/
def tStat (C : Addr) (sp : Sp) (E : L2.St → XK) (ta : TE) (t : TA) : TE := fun σ H Q => ta σ H fun x H1 => x = .ref C ∧ t σ H1 fun vs H2 => sp vs H2 Q (E σ)
section
variable {X : Cx} {pins : List (Addr × Obj)} {σ : L2.St} {H : Hp} {s : Shared} {C p g : Addr} {mc : Value} {m : Str} {A : Around} {E : Value → Shared → Prop}
theorem getst_ok {b : Bool} {Q : Value → Shared → Prop} (I : Inv X pins σ H s) (r : CRead X.K C mc) (k : CSt X.K C mc m p g) (h : ∀ s', Inv X pins σ H s' → Q (.ref g) s') : wpAny (model X.prog X.w) A (getAttr (.ref C) m b) Q E s := by
  obtain ⟨rest, hp⟩ := k.rc
  refine PySem.W.cls_bind I.kIn r.rd k.at_ ?_
  refine wpAny_call (PySem.W.sm_get (s := { s with toks := s.toks + 1 }) I.kIn hp (PySem.W.handed_on rfl ?_))
  exact h _ (I.tok _)
theorem getmethst_ok {pl : Sem Bool} {Q : Value × List Value → Shared → Prop} (I : Inv X pins σ H s) (r : CRead X.K C mc) (k : CSt X.K C mc m p g) (h : ∀ s', Inv X pins σ H s' → Q (.ref g, []) s') : wpAny (model X.prog X.w) A (getMethod (.ref C) m pl) Q E s :=
  PySem.W.method_cls I.kIn r.ga (getst_ok I r k h)
end
section
variable {X : Cx} {CX : CXT} {k : Nat} {C p g : Addr} {mc : Value} {sp : Sp} {E : L2.St → XK} {o e : Expr} {es : List Expr} {m : Str} {pos apos : Pos} {ta : TE} {t : TA} {pl : Sem Bool}
theorem pe_stat (he : PE X o ta) (r : CRead X.K C mc) (c : CSt X.K C mc m p g) (F : FnR X.prog X.w X.K X.mg X.base CX k g sp) (hr : Room k X.A) (hx : ∀ σ, PassesAt CX X σ (E σ)) (ha : PA X (e :: es) t)
    (hst : starEach (e :: es) X.env = (false, eval e X.env) :: starEach es X.env := by rfl) (hpl : (backTo pos (starEach es X.env)).any (·.1) = false := by rfl)
    (ht : eval (.Call (.Attribute o m apos) (e :: es) [] pos) X.env = (do
      let ov ← eval o X.env
      standAt apos.atName
      let (f, first) ← holding [ov] (getMethod ov m pl)
      callWith pos f first (backTo pos (starEach (e :: es) X.env)) (backToKw pos (keywordEach [] X.env))) := by rfl) :
    PE X (.Call (.Attribute o m apos) (e :: es) [] pos) (tStat C sp E ta t) := by
  refine ⟨fun pins s σ H Q I h => ?_⟩
  refine PySem.W.methodCall_KW (pl := pl) (thn (he.run pins s σ H _ I h) fun u s1 ⟨x, H1, I1, rx, ex, q⟩ => ?_) ht
  subst ex
  obtain rfl : u = Value.ref C := rx
  refine getmethst_ok I1 r c fun s2 I2 => ?_
  refine PySem.W.callWith_K (first := []) (h₀ := X.base) I.ok.mod.kin c.kp (thn (ha.run pos pins s2 σ H1 _ I2 q) fun us s3 ⟨vs, H2, I3, rv, q2⟩ => ⟨I3.kIn, ?_⟩) hst hpl
  exact wpAny_call (K25.run_E F hr (hx σ) I3 rv q2)
end
end StX
namespace K25
open PySem PySem.Spec PyProof.Rows L2
abbrev sPOfNames : Stmt := inClass (top 16) 1
structure DfE (P : Program) (w : World) (K : PySem.W.Frag) (mg : Str → Option Value) (base : Heap) (x : Str) (k : Nat) (ps : List Str) (sp : Sp) (f : Addr) (fd : FuncData) : Prop where
  gl : mg x = some (.ref f)
  ok : FnOk P w K mg base (L2.CX P w) k f fd ps sp
  bi : Binds K fd ps []
  kp : PySem.W.keepIn K (.ref f) = true
theorem name_opt {v : V} (h : v = .non ∨ nameV v = true) : ∃ o, v = optV o := by
  rcases h with rfl | h
  · exact ⟨none, rfl⟩
  · cases v with
    | int i =>
      have h2 : (decide (0 ≤ i) && decide (i ≤ 10 ^ 30)) = true := h
      rw [Bool.and_eq_true, decide_eq_true_iff] at h2
      refine ⟨some i.toNat, ?_⟩
      show V.int i = V.int (i.toNat : Int)
      rw [Int.toNat_of_nonneg h2.1]
    | _ => cases h
theorem badAt_vals : ∀ {xs : List V} {i : Nat}, badAt i xs = none → ∃ l, xs = vals l
  | [], _, _ => ⟨[], rfl⟩
  | x :: xs, i, h => by
    have h : (if x = .non ∨ nameV x = true then badAt (i + 1) xs else some (i, ("name" : Str))) = none := h
    by_cases c : x = .non ∨ nameV x = true
    · rw [if_pos c] at h
      obtain ⟨l, rfl⟩ := badAt_vals h
      obtain ⟨o, rfl⟩ := name_opt c
      exact ⟨o :: l, rfl⟩
    · rw [if_neg c] at h
      cases h
theorem nf_none {xs : List V} {b : Bool} (h : nf xs b = none) : b = true ∧ xs.length ≤ 40 ∧ ∃ l, xs = vals l := by
  unfold nf at h
  by_cases c : b = true ∧ xs.length ≤ 40
  · rw [if_pos c] at h
    exact ⟨c.1, c.2, badAt_vals h⟩
  · rw [if_neg c] at h
    cases h
theorem Ns.sq {H : Hp} {v : V} {xs : List V} (n : Ns H v xs true) : ∃ a, v = .ref a ∧ Sq H a xs := by
  cases n with
  | seq h _ _ => exact ⟨_, rfl, h⟩
def spON (CP CN : Addr) : Sp := fun vs H Q E => ∃ (v : V) (xs : List V) (b : Bool), vs = [v] ∧ Ns H v xs b ∧ (∀ i z, nf xs b = some (i, z) → Fails CN H E i z) ∧
  (∀ l, nf xs b = none → xs = vals l → ∀ (H' : Hp) (z : Addr), Same H H' → PatAt CP H' z (num l) → Q (.ref z) H')
section
variable {P : Program} {w : World} {K : PySem.W.Frag} {mg : Str → Option Value} {base : Heap}
theorem ok_on {f fC fN fI CP CE CN : Addr} {fd fdC fdN fdI : FuncData} (F : FunD K "of_names" "Pattern.of_names" (defArgs sPOfNames) (defBody sPOfNames) (defScope sPOfNames) [] [] f fd) (dCk : DfE P w K mg base "check_names" 3 ["names"] (spCN CN) fC fdC) (dN : Df P w K mg base "numbered" 1 ["values"] spNbS fN fdN) (MK : PatMk P w K mg base CP CE fI fdI) :
    FnOk P w K mg base (L2.CX P w) 5 f fd ["names"] (spON CP CN) := by
  have sc : FnScope ["names"] ["names"] (defScope sPOfNames) := ⟨rfl, rfl, rfl, by decide +kernel, rfl, by decide +kernel, by decide +kernel⟩
  refine F.ok sc (fun vs H Q E h => ?_) (fun cdv A outer s H vs Q E hr4 h => ?_)
  · obtain ⟨v, xs, b, rfl, _⟩ := h
    rfl
  · obtain ⟨v, xs, b, rfl, nm, q0, q1⟩ := h
    have hr1 := hr4.mono (show 1 ≤ 4 by decide)
    have hr3 := hr4.mono (show 3 ≤ 4 by decide)
    refine ⟨_, (pss_cons (ps_expr (pe_callS dCk.ok hr3 (by rfl) dCk.gl dCk.kp dCk.bi (fun σ => passAt (takes_of rfl rfl rfl rfl) σ) (pa_cons (pv 0) pa_nil)))
    (pss_one (ps_ret (pe_make MK.mks MK.ok hr4 (by rfl) MK.gl MK.bi .nil passX0 (pa_cons (pe_call dN.ok hr1 (by rfl) dN.gl dN.kp dN.bi .nil pass0 (pa_cons (pv 0) pa_nil)) pa_nil))))), ?_⟩
    refine ⟨_, rfl, v, xs, b, rfl, nm, fun hok H1 s1 => ?_, fun i z e H' d n e2 s' => q0 i z e H' d n e2 s'⟩
    obtain ⟨rfl, l40, l, rfl⟩ := nf_none hok
    rw [len_vals] at l40
    obtain ⟨a, rfl, h⟩ := nm.sq
    · refine ⟨_, rfl, a, l, rfl, h.same s1, by omega, fun H2 z s2 nz ez => ?_⟩
      exact pat_make (.inl ez) (Pt.nums _) (by rw [num_len]; exact l40) fun H4 z4 s4 hz => q1 l hok rfl H4 z4 ((s1.trans s2).trans s4) hz
end
end K25

/-! repr of anything that the law shows: scalars, lists and tuples of data, an empty dict -/
namespace K25
open PySem PySem.Spec PyProof.Rows L2 GrdX
/-- the text of v -/
inductive RpA (H : Hp) : V → Str → Prop
  | non : RpA H .non (Str.ofString "None")
  | bl (b : Bool) : RpA H (.bl b) (if b then "True" else "False")
  | int (i : Int) (h : i.natAbs.log2 < 1920) : RpA H (.int i) (Str.ofString (toString i))
  | str (x : Str) (h : (reprText x).length ≤ sizeLine) : RpA H (.str x) (reprText x)
  | dt {a : Addr} {d : PyData} (h : Dt Any H (.ref a) d) (h1 : d.showable = true) (h2 : d.hasDict = false) (h3 : d.shown.length ≤ sizeLine) (h4 : d.depth ≤ 64) : RpA H (.ref a) d.shown
  | dic {a : Addr} (h : H a = some (.dK [])) : RpA H (.ref a) (PyData.dict []).shown
theorem RpA.same {H H' : Hp} {v : V} {z : Str} (r : RpA H v z) (s : Same H H') : RpA H' v z := by
  cases r with
  | non => exact .non
  | bl b => exact .bl b
  | int i h => exact .int i h
  | str x h => exact .str x h
  | dt h h1 h2 h3 h4 => exact .dt (h.same s) h1 h2 h3 h4
  | dic h => exact .dic (s _ _ h)
def rReprA : List V → Hp → VK → Prop := fun xs H Q => ∃ (v : V) (z : Str), xs = [v] ∧ RpA H v z ∧ Q (.str z) H
theorem call_reprA {X : Cx} {k : Nat} (hr : Room k X.A) (hG : Bare X.A) : CallR X (.builtin "repr") rReprA := by
  intro pins s σ H xs us Q I r ⟨v, z, rx, rp, q⟩
  subst rx
  obtain ⟨u, rfl, ru⟩ := r.one
  cases rp with
  | non =>
    cases ru
    exact P.repr_of_none ⟨.str _, H, I.tok _, ⟨_, rfl⟩, q⟩
  | bl b =>
    cases ru
    exact P.repr_of_bool ⟨.str _, H, I.tok _, ⟨_, rfl⟩, q⟩
  | int i h =>
    obtain ⟨t, rfl⟩ := ru
    exact P.repr_of_int h ⟨.str _, H, I.tok _, ⟨_, rfl⟩, q⟩
  | str x h =>
    obtain ⟨t, rfl⟩ := ru
    exact P.repr_of_str ⟨.str _, H, I.tok _, ⟨_, rfl⟩, q⟩ h
  | @dt a d h h1 h2 h3 h4 =>
    cases ru
    obtain ⟨as, R⟩ := Dp.reads I d _ _ h.dp rfl
    have hu := hr.un
    exact repr_of_reads' R h1 (fun z => by rw [h2] at z; cases z) hG (by omega) (fun b o e => e) (fun h' u tk hk => ⟨.str d.shown, H, I.kept hk, ⟨u, rfl⟩, q⟩) h3
  | @dic a h =>
    cases ru
    obtain ⟨_, ns, vs, kv, dof⟩ := (show ObjOk X.prog X.w H s.heap a (.dK []) from I.hok a _ h)
    have hu := hr.un
    have R : Reads s.heap (.ref a) (.dict []) [a] := by
      obtain ⟨o, es, ep, e1, e2, e3, e4, e5, _⟩ := dof
      cases kv
      have e6 : es.toList = [] := by
        cases hq : es.toList with
        | nil => rfl
        | cons x r =>
          rw [hq] at e5
          cases e5
      have z : Reads s.heap (.ref a) (.dict []) (a :: [] ++ []) := .dict e1 e2.1 e3 (by rw [e6]; exact .nil) (by rw [e6]; exact .nil)
      exact z
    have hd : X.A.units + ((PyData.dict []).depth + 1) < cLine := by
      have : (PyData.dict []).depth = 1 := rfl
      omega
    exact repr_of_reads' R rfl (fun _ m => by
      rw [List.mem_singleton.mp m] at ns
      simp at ns) hG hd (fun b o e => e) (fun h' u tk hk => ⟨.str _, H, I.kept hk, ⟨u, rfl⟩, q⟩) (by decide +kernel)
end K25

/-! for e in o, o an instance whose __iter__ gives iter(tuple) -/
namespace K25
open PySem PySem.Spec PyProof.Rows L2 LamX
/-- an iterator is no longer tracked -/
theorem untrack {X : Cx} {pins : List (Addr × Obj)} {σ : L2.St} {H : Hp} {s : Shared} {it t : Addr} {i : Nat} (I : Inv X pins σ (upd H it (ItT t it i)) s) (ni : H it = none) : Inv X pins σ H s := by
  have sub : ∀ {b : Addr} {u : HO}, H b = some u → upd H it (ItT t it i) b = some u := fun {b u} e => (upd_ne (ne_of_none e ni)).trans e
  have non : ∀ {b : Addr}, upd H it (ItT t it i) b = none → H b = none := fun {b} e => by
    cases q : H b with
    | none => rfl
    | some u => rw [sub q] at e; cases e
  have bk : ∀ {b : Addr} {u : HO}, upd H it (ItT t it i) b = some u → u ≠ ItT t it i → H b = some u := fun {b u} e n => by
    by_cases z : b = it
    · rw [z, upd_same] at e
      exact absurd (Option.some.inj e).symm n
    · rw [upd_ne z] at e
      exact e
  have B := I.base
  refine ⟨I.ok, I.os, I.bare, ⟨B.keep, B.slot, fun b o e n x => non (B.free b o e n x), B.there, fun b xs e => bk (B.tups b xs e) (fun z => by unfold ItT at z; cases z), fun b o u e => bk (B.frzs b o u e) (fun z => by unfold ItT at z; cases z), fun b ps e => ?_⟩, I.loc, I.cell, non I.free, fun x c e => non (I.freeC x c e), fun p hp => ?_, fun b u e => ?_, I.len⟩
  · obtain ⟨more, z⟩ := B.tbls b ps e
    exact ⟨more, bk z (fun z => by unfold ItT at z; cases z)⟩
  · obtain ⟨h1, h2, h3⟩ := I.pin p hp
    exact ⟨h1, non h2, h3⟩
  · exact (I.hok b u (sub e)).stay (fun c v _ q => q) (fun c q => bk q (fun z => by unfold ItT at z; cases z)) fun c xs q => bk q (fun z => by unfold ItT at z; cases z)
def iOwn (K : PySem.W.Frag) (C : Addr) (te : TE) : TI := fun σ H R => te σ H fun v H1 => ∃ (x dx ar : Addr) (fs : List (Str × V)) (ys : List V), v = .ref x ∧ H1 x = some (.ins C dx fs) ∧ fs.lookup ("entries" : Str) = some (V.ref ar) ∧ H1 ar = some (.tup ys) ∧ R (Itt K ar) H1
/-- iter(t), t a tuple: the iterator is younger than the frame -/
def rIterN (n : Nat) : List V → Hp → VK → Prop := fun xs H Q => ∃ (t : Addr) (ys : List V), xs = [.ref t] ∧ H t = some (.tup ys) ∧ ∀ it, H it = none → n ≤ it → Q (.ref it) (upd H it (ItT t it 0))
theorem call_iterN {X : Cx} : CallR X (.builtin "iter") (rIterN X.s_0.heap.objs.size) := by
  intro pins s σ H xs us Q I r h
  obtain ⟨t, ys, rfl, ht, q⟩ := h
  obtain rfl := Vals.ref1 r
  obtain ⟨its, rv, pl, hz⟩ := I.tuple (SqT.of ht)
  refine Calls.call_function_entry (by decide +kernel) (by decide +kernel) PySem.W.kdk_entry_iter (PySem.W.kdk_args_iter _) ?_
  unfold Builtin.«iter»
  refine wpAny_bind (m := someArgs "iter" 1 2 _) (wpAny_of_eq (a := [Value.ref t]) (by first | rfl | kernel_rfl!) ?_)
  show wpAny _ _ (pyIter (.ref t) >>= _) _ _ _
  refine wpAny_bind (wpAny_pyIter_tuple pl ?_)
  refine wpAny_pure ⟨_, rfl, ?_⟩
  exact ⟨.ref s.heap.objs.size, _, I.laid (t' := s.toks) (fun b u e => Heap.get?_push_of_some _ e) (Nat.le_refl _) (itT_ok ⟨_, Heap.get?_push_size _ rfl, rfl, rfl⟩), rfl, q _ (I.hok.fresh (Nat.le_refl _)) I.sz⟩
theorem pi_own {X : Cx} {C fI : Addr} {fdI : FuncData} {tg e : Expr} {te : TE} (FI : FunD X.K "__iter__" "Pattern.__iter__" (defArgs sPIter) (defBody sPIter) (defScope sPIter) [] [] fI fdI) (T : PatC X.K C) (zi : X.mg "iter" = none) (bI : Binds X.K fdI ["self"] [])
    (it_ : PySem.W.findIn X.K (.ref C) "__iter__" = some (some (.ref fI))) (itF : PySem.W.isFn X.K (.ref fI) = true) (hr : Room 1 X.A) (he : PE X e te) : PI X tg e (iOwn X.K C te) := by
  refine ⟨fun pins s σ H R I h => ?_⟩
  refine thn (he.run pins s σ H _ I h) fun v s1 ⟨x', H1, I1, r1, x, dx, ar, fs, ys, ex, hx, hl, ha, q⟩ => ?_
  subst ex
  cases r1
  obtain ⟨mA, J, _⟩ := ins_get I1.hok hx
  obtain ⟨od, J, _⟩ := J.look
  obtain ⟨m0, hF⟩ := I1.fr
  refine PySem.W.owit_iter hF I1.ok.mod.kin J it_ itF ?_
  have r2 : Vals [V.ref x] [Value.ref x] := .cons rfl .nil
  have sc : FnScope ["self"] ["self"] (defScope sPIter) := ⟨rfl, rfl, rfl, by decide +kernel, rfl, by decide +kernel, by decide +kernel⟩
  have called : codeAny (model X.prog X.w) X.A (.call (.ref fI) ⟨[.ref x], []⟩) (CR CX0 X.stack X.prog X.w H1 s1 (fun v H' => ∃ it, H1 it = none ∧ s1.heap.objs.size ≤ it ∧ v = .ref it ∧ H' = upd H1 it (ItT ar it 0)) E0) s1 := by
    obtain ⟨oc, od, dV, kV, doc, pm, an, cdv, ct, osl, rfl, lk, hcd, _, _⟩ := FI.ex
    refine run_ofS (N := ["self"]) (ps := ["self"]) (us := [.ref x]) (vs := [.ref x]) lk hcd sc hr I1.env0 (by
      have := bI s1 [.ref x] I1.kIn rfl
      simpa using this) r2 rfl fun room => ?_
    refine ⟨_, PSs.nox (pss_one (ps_ret (pe_callB call_iterN (by rfl) zi (by decide +kernel) (pa_cons (pe_fld (pv 0) rfl) pa_nil)))), ?_⟩
    exact ⟨_, rfl, x, C, dx, fs, _, rfl, hx, T.cl, T.nE, hl, ar, ys, rfl, ha, fun it ni fr => ⟨it, ni, fr, rfl, rfl⟩⟩
  refine wpAny_call (codeAny_mono called fun r s' hq' => ?_)
  cases r with
  | error e => exact hq'.elim
  | ok fl =>
    cases fl with
    | next => exact False.elim hq'
    | brk => exact False.elim hq'
    | cont => exact False.elim hq'
    | ret u =>
      obtain ⟨v2, H2, I2, rv2, it, ni, fresh, rfl, rfl⟩ := I1.after hq'
      cases rv2
      have tt := (I2.hok it _ upd_same).1
      unfold PySem.W.OwitIt
      refine wpAny_specialOf tt.typeIs PySem.F.slot_tuple_iterator_next.lookup ?_
      refine ⟨it, [it], _, _, H1, rfl, untrack I2 ni, turn_tuple ar _, tt, fun b hb => ?_, q⟩
      have e : b = it := by simpa using hb
      subst e
      exact I1.fpOk fresh ni
end K25

/-! the law's own faults -/
namespace K25
open PySem PySem.Spec PyProof.Rows L2
def isInt : V → Bool
  | .int _ => true
  | _ => false
def spWh : Sp := fun vs H Q _ => ∃ (v : V) (t : String), vs = [v] ∧ Odd H v t ∧ Q (.bl (isInt v)) H
def spSame : Sp := fun vs H Q _ => ∃ (a b : Bool), vs = [.bl a, .bl b] ∧ Q (.bl (decide (a = b))) H
theorem kit_int {v : V} {H : Hp} {t : String} (o : Odd H v t) : kitB t "int" = some (isInt v || (t == "bool")) ∧ kitB t "bool" = some (t == "bool") ∧ (isInt v = true → (t == "bool") = false) := by
  cases o <;> exact ⟨by first | exact (show kitB _ _ = some true by decide +kernel) | exact (show kitB _ _ = some false by decide +kernel), by decide +kernel, by first | exact fun _ => rfl | exact fun z => by cases z⟩
theorem kit_row {K : PySem.W.Frag} {v : V} {H : Hp} {t : String} (o : Odd H v t) : PySem.W.kitAny K (.type t) [.type "list", .type "tuple"] = some (seqT t) := by
  cases o with
  | tup _ => exact kit_seq (b1 := false) (b2 := true) (by decide +kernel) (by decide +kernel) (by decide +kernel)
  | lst _ => exact kit_seq (b1 := true) (b2 := false) (by decide +kernel) (by decide +kernel) (by decide +kernel)
  | _ => exact kit_seq (b1 := false) (b2 := false) (by decide +kernel) (by decide +kernel) (by decide +kernel)
theorem efV_other {v : V} {xs : List V} {i c : Nat} (n : v ≠ .non) (h : isInt v = false) : efV i c (v :: xs) = some (i, ("entry" : Str)) := by
  cases v with
  | non => exact absurd rfl n
  | int j => cases h
  | _ => rfl
theorem is_int {v : V} (h : isInt v = true) : ∃ j, v = .int j := by
  cases v with
  | int j => exact ⟨j, rfl⟩
  | _ => cases h
section
variable {P : Program} {w : World} {K : PySem.W.Frag} {mg : Str → Option Value} {base : Heap}
theorem ok_wh {f : Addr} {fd : FuncData} (F : FnP K "_law_whole" sWhole f fd) (z_int : mg "int" = none) (z_bool : mg "bool" = none) (z_isinstance : mg "isinstance" = none) : FnOk P w K mg base CX0 1 f fd ["_law_thing"] spWh := by
  have sc : FnScope ["_law_thing"] ["_law_thing"] (defScope sWhole) := ⟨rfl, rfl, rfl, by decide +kernel, rfl, by decide +kernel, by decide +kernel⟩
  refine F.ok sc (fun vs H Q E h => ?_) (fun cdv A outer s H vs Q E hr h => ?_)
  · obtain ⟨v, t, rfl, _⟩ := h
    rfl
  · obtain ⟨v, t, rfl, o, q⟩ := h
    refine ⟨_, PSs.nox (pss_one (ps_ret (pe_and (pe_callB call_isi (by rfl) z_isinstance (by decide +kernel) (pa_cons (pv 0) (pa_cons (pe_bltn (by rfl) z_int (by decide +kernel) (v := .ty "int") rfl) pa_nil))) (pe_one (pe_not (pe_callB call_isi (by rfl) z_isinstance (by decide +kernel) (pa_cons (pv 0) (pa_cons (pe_bltn (by rfl) z_bool (by decide +kernel) (v := .ty "bool") rfl) pa_nil)))))))), ?_⟩
    obtain ⟨k1, k2, k3⟩ := kit_int o
    refine ⟨_, rfl, _, _, _, _, _, rfl, .ty _, o.ty, kit_ty k1, _, rfl, ?_⟩
    cases hi : isInt v with
    | true =>
      rw [hi] at q
      rw [k3 hi] at k2
      exact iteT ⟨_, rfl, _, _, _, _, _, rfl, .ty _, o.ty, kit_ty k2, _, rfl, q⟩
    | false =>
      rw [hi] at q
      rw [Bool.false_or]
      cases hb : (t == "bool") with
      | false => exact iteF q
      | true =>
        rw [hb] at k2
        exact iteT ⟨_, rfl, _, _, _, _, _, rfl, .ty _, o.ty, kit_ty k2, _, rfl, q⟩
theorem ok_same {f : Addr} {fd : FuncData} (F : FnP K "_law_same" sSame f fd) (z_bool : mg "bool" = none) (z_isinstance : mg "isinstance" = none) : FnOk P w K mg base CX0 1 f fd ["_law_told", "_law_due"] spSame := by
  have sc : FnScope ["_law_told", "_law_due"] ["_law_told", "_law_due"] (defScope sSame) := ⟨rfl, rfl, rfl, by decide +kernel, rfl, by decide +kernel, by decide +kernel⟩
  refine F.ok sc (fun vs H Q E h => ?_) (fun cdv A outer s H vs Q E hr h => ?_)
  · obtain ⟨a, b, rfl, _⟩ := h
    rfl
  · obtain ⟨a, b, rfl, q⟩ := h
    refine ⟨_, PSs.nox (pss_one (ps_ret (pe_and (pe_callB call_isi (by rfl) z_isinstance (by decide +kernel) (pa_cons (pv 0) (pa_cons (pe_bltn (by rfl) z_bool (by decide +kernel) (v := .ty "bool") rfl) pa_nil))) (pe_one (pe_cmpR op_eq (pv 0) (pv 1) (nomark _)))))), ?_⟩
    refine ⟨_, rfl, _, _, _, _, true, rfl, .ty _, (Odd.bl (H := H) a).ty, kit_ty (by decide +kernel), _, rfl, iteT ⟨_, rfl, _, rfl, rfl, ?_⟩⟩
    have e : decide (V.bl a = V.bl b) = decide (a = b) := decide_eq_decide.mpr ⟨fun z => V.bl.inj z, fun z => by rw [z]⟩
    rw [e]
    exact q
theorem ok_fault {f fW : Addr} {fd fdW : FuncData} (F : FnP K "_law_fault" sFault f fd) (z_len : mg "len" = none) (z_enumerate : mg "enumerate" = none) (z_isinstance : mg "isinstance" = none) (z_list : mg "list" = none) (z_tuple : mg "tuple" = none) (dWh : Df P w K mg base "_law_whole" 1 ["_law_thing"] spWh fW fdW) :
    FnOk P w K mg base CX0 2 f fd ["_law_thing"] spEF := by
  have sc : FnScope ["_law_thing", "_law_met", "_law_at", "_law_item"] ["_law_thing"] (defScope sFault) := ⟨rfl, rfl, rfl, by decide +kernel, rfl, by decide +kernel, by decide +kernel⟩
  refine F.ok sc (fun vs H Q E h => ?_) (fun cdv A outer s H vs Q E hr1 h => ?_)
  · obtain ⟨v, xs, b, rfl, _⟩ := h
    rfl
  · obtain ⟨v, xs, b, rfl, nm, q0, q1⟩ := h
    refine ⟨_, PSs.nox (pss_cons (ps_if (PW.pt (pw_or (pt_not (pt_val (pe_callB call_isiT (by rfl) z_isinstance (by decide +kernel) (pa_cons (pv 0) (pa_cons (pe_tup (pa_cons (pe_bltn (by rfl) z_list (by decide +kernel) (v := .ty "list") rfl) (pa_cons (pe_bltn (by rfl) z_tuple (by decide +kernel) (v := .ty "tuple") rfl) pa_nil))) pa_nil))))) (pw_or1 (pt_cmpR op_gt (pe_callB call_len_seq (by rfl) z_len boot_len (pa_cons (pv 0) pa_nil)) pe_int (nomark _)))))
      (pss_one (ps_ret (pe_tup (pa_cons pe_int (pa_cons pe_str pa_nil)))))
      pss_nil)
    (pss_cons (ps_set (i := 1) sc.nd rfl (.inl rfl) pe_int)
    (pss_cons (ps_for PassesOwn.never rfl (pi_or (pi_enum (by rfl) z_enumerate (pa_cons (pv 0) pa_nil)) (pi_enumT (by rfl) z_enumerate (pa_cons (pv 0) pa_nil) rfl)) (pg_tup (by rfl) (pgs_cons (pg_name (i := 2) sc.nd rfl (.inl rfl)) (pgs_cons (pg_name (i := 3) sc.nd rfl (.inl rfl)) pgs_nil)))
      (pss_cons (ps_if (pt_cmpR op_isN (pv 3) pe_non (nomark _))
        (pss_one ps_continue)
        pss_nil)
      (pss_cons (ps_if (PW.pt (pw_or (pt_not (pt_val (pe_call dWh.ok hr1 (by rfl) dWh.gl dWh.kp dWh.bi .nil pass0 (pa_cons (pv 3) pa_nil)))) (pw_or1 (pt_cmpR op_lt (pv 3) pe_int (nomark _)))))
        (pss_one (ps_ret (pe_tup (pa_cons (pv 2) (pa_cons pe_str pa_nil)))))
        pss_nil)
      (pss_cons (ps_if (pt_cmpR op_gt (pv 3) (pv 1) (nomark _))
        (pss_one (ps_ret (pe_tup (pa_cons (pv 2) (pa_cons pe_str pa_nil)))))
        pss_nil)
      (pss_one (ps_set (i := 1) sc.nd rfl (.inl rfl) (pe_ifExp (pt_cmpR op_eq (pv 3) (pv 1) (nomark _)) (pe_op op_add (pv 1) pe_int) (pv 1))))))))
    (pss_one (ps_ret pe_non))))), ?_⟩
    cases nm with
    | bad o ns =>
      refine ⟨_, rfl, (by show 2 ≤ sizeLine; decide), fun u nu => ⟨_, u, _, _, [.type "list", .type "tuple"], _, rfl, upd_same, .cons (.ty _) (.cons (.ty _) .nil), (o.same (same_upd nu)).ty, kit_row o, _, rfl, ?_⟩⟩
      rw [ns]
      exact iteT ⟨(by show 2 ≤ sizeLine; decide), fun z nz => q0 0 _ rfl _ z ((same_upd nu).trans (same_upd nz)) upd_same⟩
    | @seq a xs h hl od =>
      obtain ⟨t, o, hs⟩ := h.odd
      refine ⟨_, rfl, (by show 2 ≤ sizeLine; decide), fun u nu => ⟨_, u, _, _, [.type "list", .type "tuple"], _, rfl, upd_same, .cons (.ty _) (.cons (.ty _) .nil), (o.same (same_upd nu)).ty, kit_row o, _, rfl, ?_⟩⟩
      rw [hs]
      refine iteF ?_
      have su := same_upd (o := .tup [.ty "list", .ty "tuple"]) nu
      have h1 := h.same su
      generalize upd H u (.tup [.ty "list", .ty "tuple"]) = H0 at su h1 ⊢
      refine ⟨_, rfl, _, _, rfl, h1.or, _, _, rfl, rfl, _, rfl, ite2 (fun z => ?_) (fun h40 => ?_)⟩
      · have h40 := of_decide_eq_true z
        exact ⟨(by show 2 ≤ sizeLine; decide), fun z nz => q0 0 _ (by unfold ef; rw [if_neg (fun w => by have := w.2; omega)]) _ z (su.trans (same_upd nz)) upd_same⟩
      have h40 : xs.length ≤ 40 := by
        have z : ¬ (40 : Int) < (xs.length : Int) := fun z => h40 (decide_eq_true z)
        omega
      unfold ef at q0 q1
      rw [if_pos ⟨rfl, h40⟩] at q0 q1
      refine enum_any (fun Q q => ⟨_, rfl, q⟩) h1 fun it G wk keep => for_it wk (fun i σ H' => ∃ (c : Nat) (x2 x3 : Option V), σ = [some (.ref a), some (.int (c : Int)), x2, x3] ∧ efV i c (xs.drop i) = efV 0 0 xs ∧ Same H0 H')
        ⟨0, none, none, rfl, by rw [List.drop_zero], Same.refl _⟩ (fun i σ H' _ ⟨_, _, _, _, _, s⟩ => keep _ (Same.kp s)) ?_ ?_
      · rintro i x σ H1 H2 hi ⟨c, x2, x3, rfl, hc, sm⟩ ⟨T, u', v, rfl, nT, rfl, eu, ev⟩
        obtain rfl : u' = .int (i : Int) := (Option.some.inj eu).symm
        obtain ⟨tv, ov⟩ := od v (List.mem_of_getElem? ev)
        rw [drop_cons ev] at hc
        have sT := sm.trans (same_upd (o := .tup [.int (i : Int), v]) nT)
        have sH := su.trans sT
        have oH := ov.same sH
        refine ⟨T, _, rfl, .inl (.inl upd_same), rfl, _, _, rfl, _, _, rfl, rfl, ?_⟩
        have ret : ∀ z : Str, efV 0 0 xs = some (i, z) → ∀ p, upd H1 T (.tup [.int (i : Int), v]) p = none → Q (.ref p) (upd (upd H1 T (.tup [.int (i : Int), v])) p (.tup [.int (i : Int), .str z])) := fun z e p np => q0 i z e _ p (sH.trans (same_upd np)) upd_same
        generalize upd H1 T (.tup [.int (i : Int), v]) = HT at sT sH oH ret ⊢
        refine ⟨_, rfl, rfl, _, rfl, ?_⟩
        by_cases hn : v = .non
        · subst hn
          exact iteT ⟨c, _, _, rfl, hc, sT⟩
        rw [decide_eq_false hn]
        refine iteF ⟨_, rfl, v, tv, rfl, oH, _, rfl, ?_⟩
        cases hi2 : isInt v with
        | false => exact iteT ⟨_, rfl, (by show 2 ≤ sizeLine; decide), fun p np => ret _ (hc.symm.trans (efV_other hn hi2)) p np⟩
        | true =>
          obtain ⟨j, rfl⟩ := is_int hi2
          have hc' : (if j < 0 then some (i, ("entry" : Str)) else if (c : Int) < j then some (i, "order") else if j = c then efV (i + 1) (c + 1) (xs.drop (i + 1)) else efV (i + 1) c (xs.drop (i + 1))) = efV 0 0 xs := hc
          refine iteF ⟨_, rfl, _, _, rfl, rfl, _, rfl, ite2 (fun g => ?_) (fun g => ?_)⟩
          · rw [if_pos (of_decide_eq_true g)] at hc'
            exact ⟨_, rfl, (by show 2 ≤ sizeLine; decide), fun p np => ret _ hc'.symm p np⟩
          rw [if_neg (fun z => g (decide_eq_true z))] at hc'
          refine ⟨_, rfl, _, rfl, _, _, rfl, rfl, _, rfl, ite2 (fun g => ?_) (fun g => ?_)⟩
          · rw [if_pos (of_decide_eq_true g)] at hc'
            exact ⟨_, rfl, (by show 2 ≤ sizeLine; decide), fun p np => ret _ hc'.symm p np⟩
          rw [if_neg (fun z => g (decide_eq_true z))] at hc'
          refine ⟨_, rfl, _, rfl, rfl, _, rfl, ite2 (fun g => ?_) (fun g => ?_)⟩
          · have ej : j = (c : Int) := V.int.inj (of_decide_eq_true g)
            rw [if_pos ej] at hc'
            exact ⟨_, rfl, _, _, rfl, rfl, ⟨c + 1, _, _, rfl, hc', sT⟩⟩
          · rw [if_neg (fun z => g (decide_eq_true (by rw [z])))] at hc'
            exact ⟨_, rfl, c, _, _, rfl, hc', sT⟩
      · rintro σ H1 ⟨c, x2, x3, rfl, hc, sm⟩
        rw [List.drop_of_length_le (Nat.le_refl _)] at hc
        exact q1 hc.symm H1 (su.trans sm)
def spNFl : Sp := fun vs H Q _ => ∃ (v : V) (xs : List V) (b : Bool), vs = [v] ∧ Ns H v xs b ∧
  (∀ i z, nf xs b = some (i, z) → ∀ (H' : Hp) (t : Addr), Same H H' → H' t = some (.tup [.int (i : Nat), .str z]) → Q (.ref t) H') ∧ (nf xs b = none → ∀ H', Same H H' → Q .non H')
theorem e30 : (10 : Int) ^ (30 : Int).toNat = 10 ^ 30 := congrArg (fun n : Nat => (10 : Int) ^ n) (rfl : (30 : Int).toNat = 30)
theorem ok_nfault {f fW : Addr} {fd fdW : FuncData} (F : FnP K "_law_names_fault" sNamesFault f fd) (z_len : mg "len" = none) (z_enumerate : mg "enumerate" = none) (z_isinstance : mg "isinstance" = none) (z_list : mg "list" = none) (z_tuple : mg "tuple" = none) (dWh : Df P w K mg base "_law_whole" 1 ["_law_thing"] spWh fW fdW) :
    FnOk P w K mg base CX0 2 f fd ["_law_thing"] spNFl := by
  have sc : FnScope ["_law_thing", "_law_at", "_law_item"] ["_law_thing"] (defScope sNamesFault) := ⟨rfl, rfl, rfl, by decide +kernel, rfl, by decide +kernel, by decide +kernel⟩
  refine F.ok sc (fun vs H Q E h => ?_) (fun cdv A outer s H vs Q E hr1 h => ?_)
  · obtain ⟨v, xs, b, rfl, _⟩ := h
    rfl
  · obtain ⟨v, xs, b, rfl, nm, q0, q1⟩ := h
    refine ⟨_, PSs.nox (pss_cons (ps_if (PW.pt (pw_or (pt_not (pt_val (pe_callB call_isiT (by rfl) z_isinstance (by decide +kernel) (pa_cons (pv 0) (pa_cons (pe_tup (pa_cons (pe_bltn (by rfl) z_list (by decide +kernel) (v := .ty "list") rfl) (pa_cons (pe_bltn (by rfl) z_tuple (by decide +kernel) (v := .ty "tuple") rfl) pa_nil))) pa_nil))))) (pw_or1 (pt_cmpR op_gt (pe_callB call_len_seq (by rfl) z_len boot_len (pa_cons (pv 0) pa_nil)) pe_int (nomark _)))))
      (pss_one (ps_ret (pe_tup (pa_cons pe_int (pa_cons pe_str pa_nil)))))
      pss_nil)
    (pss_cons (ps_for PassesOwn.never rfl (pi_or (pi_enum (by rfl) z_enumerate (pa_cons (pv 0) pa_nil)) (pi_enumT (by rfl) z_enumerate (pa_cons (pv 0) pa_nil) rfl)) (pg_tup (by rfl) (pgs_cons (pg_name (i := 1) sc.nd rfl (.inl rfl)) (pgs_cons (pg_name (i := 2) sc.nd rfl (.inl rfl)) pgs_nil)))
      (pss_one (ps_if (PW.pt (pw_and (pt_cmpR op_notN (pv 2) pe_non (nomark _)) (pw_and1 (pt_not (PW.pt (pw_and (pt_val (pe_call dWh.ok hr1 (by rfl) dWh.gl dWh.kp dWh.bi .nil pass0 (pa_cons (pv 2) pa_nil))) (pw_and1 (pt_chain op_le op_le pe_int (pv 2) (pe_op op_pow pe_int pe_int)))))))))
        (pss_one (ps_ret (pe_tup (pa_cons (pv 1) (pa_cons pe_str pa_nil)))))
        pss_nil)))
    (pss_one (ps_ret pe_non)))), ?_⟩
    cases nm with
    | bad o ns =>
      refine ⟨_, rfl, (by show 2 ≤ sizeLine; decide), fun u nu => ⟨_, u, _, _, [.type "list", .type "tuple"], _, rfl, upd_same, .cons (.ty _) (.cons (.ty _) .nil), (o.same (same_upd nu)).ty, kit_row o, _, rfl, ?_⟩⟩
      rw [ns]
      exact iteT ⟨(by show 2 ≤ sizeLine; decide), fun z nz => q0 0 _ rfl _ z ((same_upd nu).trans (same_upd nz)) upd_same⟩
    | @seq a xs h hl od =>
      obtain ⟨t, o, hs⟩ := h.odd
      refine ⟨_, rfl, (by show 2 ≤ sizeLine; decide), fun u nu => ⟨_, u, _, _, [.type "list", .type "tuple"], _, rfl, upd_same, .cons (.ty _) (.cons (.ty _) .nil), (o.same (same_upd nu)).ty, kit_row o, _, rfl, ?_⟩⟩
      rw [hs]
      refine iteF ?_
      have su := same_upd (o := .tup [.ty "list", .ty "tuple"]) nu
      have h1 := h.same su
      generalize upd H u (.tup [.ty "list", .ty "tuple"]) = H0 at su h1 ⊢
      refine ⟨_, rfl, _, _, rfl, h1.or, _, _, rfl, rfl, _, rfl, ite2 (fun z => ?_) (fun h40 => ?_)⟩
      · have h40 := of_decide_eq_true z
        exact ⟨(by show 2 ≤ sizeLine; decide), fun z nz => q0 0 _ (by unfold nf; rw [if_neg (fun w => by have := w.2; omega)]) _ z (su.trans (same_upd nz)) upd_same⟩
      have h40 : xs.length ≤ 40 := by
        have z : ¬ (40 : Int) < (xs.length : Int) := fun z => h40 (decide_eq_true z)
        omega
      unfold nf at q0 q1
      rw [if_pos ⟨rfl, h40⟩] at q0 q1
      refine enum_any (fun Q q => ⟨_, rfl, q⟩) h1 fun it G wk keep => for_it wk (fun i σ H' => ∃ (x1 x2 : Option V), σ = [some (.ref a), x1, x2] ∧ badAt i (xs.drop i) = badAt 0 xs ∧ Same H0 H')
        ⟨none, none, rfl, by rw [List.drop_zero], Same.refl _⟩ (fun i σ H' _ ⟨_, _, _, _, s⟩ => keep _ (Same.kp s)) ?_ ?_
      · rintro i x σ H1 H2 hi ⟨x1, x2, rfl, hc, sm⟩ ⟨T, u', v, rfl, nT, rfl, eu, ev⟩
        obtain rfl : u' = .int (i : Int) := (Option.some.inj eu).symm
        obtain ⟨tv, ov⟩ := od v (List.mem_of_getElem? ev)
        rw [drop_cons ev] at hc
        have hc : (if v = .non ∨ nameV v = true then badAt (i + 1) (xs.drop (i + 1)) else some (i, ("name" : Str))) = badAt 0 xs := hc
        have sT := sm.trans (same_upd (o := .tup [.int (i : Int), v]) nT)
        have sH := su.trans sT
        have oH := ov.same sH
        refine ⟨T, _, rfl, .inl (.inl upd_same), rfl, _, _, rfl, _, _, rfl, rfl, ?_⟩
        have ret : ∀ z : Str, badAt 0 xs = some (i, z) → ∀ p, upd H1 T (.tup [.int (i : Int), v]) p = none → Q (.ref p) (upd (upd H1 T (.tup [.int (i : Int), v])) p (.tup [.int (i : Int), .str z])) := fun z e p np => q0 i z e _ p (sH.trans (same_upd np)) upd_same
        generalize upd H1 T (.tup [.int (i : Int), v]) = HT at sT sH oH ret ⊢
        refine ⟨_, rfl, rfl, _, rfl, ?_⟩
        by_cases hn : v = .non
        · subst hn
          rw [if_pos (.inl rfl)] at hc
          exact iteF ⟨_, _, rfl, hc, sT⟩
        rw [decide_eq_false hn]
        refine iteT ⟨_, rfl, v, tv, rfl, oH, _, rfl, ?_⟩
        cases hi2 : isInt v with
        | false =>
          refine iteF (iteT ⟨_, rfl, (by show 2 ≤ sizeLine; decide), fun p np => ret _ (hc.symm.trans (if_neg fun z => ?_)) p np⟩)
          rcases z with z | z
          · exact hn z
          · cases v with
            | int j => cases hi2
            | _ => cases z
        | true =>
          obtain ⟨j, rfl⟩ := is_int hi2
          have en : nameV (.int j) = (decide (0 ≤ j) && decide (j ≤ 10 ^ 30)) := rfl
          refine iteT ⟨_, rfl, _, _, rfl, rfl, _, rfl, ?_⟩
          have bad : nameV (.int j) = false → badAt 0 xs = some (i, ("name" : Str)) := fun z => hc.symm.trans (if_neg fun w => w.elim (fun y => by cases y) fun y => by rw [z] at y; cases y)
          by_cases h0 : 0 ≤ j
          · rw [decide_eq_true h0]
            refine iteT ⟨_, _, rfl, rfl, ⟨by decide, by decide, by decide⟩, _, _, rfl, rfl, _, rfl, ?_⟩
            rw [e30]
            by_cases h1 : j ≤ 10 ^ 30
            · rw [decide_eq_true h1]
              rw [if_pos (.inr (by rw [en, decide_eq_true h0, decide_eq_true h1]; rfl))] at hc
              exact iteF ⟨_, _, rfl, hc, sT⟩
            · rw [decide_eq_false h1]
              exact iteT ⟨_, rfl, (by show 2 ≤ sizeLine; decide), fun p np => ret _ (bad (by rw [en, decide_eq_false h1, Bool.and_false])) p np⟩
          · rw [decide_eq_false h0]
            refine iteF ⟨_, rfl, iteT ⟨_, rfl, (by show 2 ≤ sizeLine; decide), fun p np => ret _ (bad (by rw [en, decide_eq_false h0, Bool.false_and])) p np⟩⟩
      · rintro σ H1 ⟨x1, x2, rfl, hc, sm⟩
        rw [List.drop_of_length_le (Nat.le_refl _)] at hc
        exact q1 hc.symm H1 (su.trans sm)
end
end K25

/-! the law's tries: a pattern made, names shown, an error's fields -/
namespace K25
open PySem PySem.Spec PyProof.Rows L2 LamX TaX StX
/-- an error that is caught, its fields -/
structure Er2 (K : PySem.W.Frag) (mg : Str → Option Value) (x : Str) (C : Addr) : Prop where
  g : mg x = some (.ref C)
  x : XfC K C
  nI : PySem.W.findIn K (.ref C) "index" = some none
  nW : PySem.W.findIn K (.ref C) "what" = some none
  ee : PySem.W.exmOne K (.ref C) (.ref C) = some true
theorem cnt_row : ∀ {xs : List V} {c0 c : Nat}, cnt c0 xs = some c → ∃ p, xs = vals p
  | [], _, _, _ => ⟨[], rfl⟩
  | v :: xs, c0, c, h => by
    have hv : ∃ o, v = optV o := by
      rcases cnt_kinds h v List.mem_cons_self with rfl | ⟨i, rfl, hi⟩
      · exact ⟨none, rfl⟩
      · refine ⟨some i.toNat, ?_⟩
        show V.int i = V.int (i.toNat : Int)
        rw [Int.toNat_of_nonneg hi]
    rw [cnt_cons] at h
    obtain ⟨o, rfl⟩ := hv
    cases e : stepE c0 (optV o) with
    | none => rw [e] at h; cases h
    | some d =>
      rw [e] at h
      obtain ⟨p, rfl⟩ := cnt_row h
      exact ⟨o :: p, rfl⟩
theorem ef_none {xs : List V} {b : Bool} (h : ef xs b = none) : b = true ∧ ∃ p, xs = vals p ∧ Pt p ∧ p.length ≤ 40 := by
  unfold ef at h
  by_cases c : b = true ∧ xs.length ≤ 40
  · rw [if_pos c] at h
    obtain ⟨d, hd⟩ := ef_cnt h
    obtain ⟨p, rfl⟩ := cnt_row hd
    exact ⟨c.1, p, rfl, pt_of_cnt hd, by have := c.2; rw [len_vals] at this; exact this⟩
  · rw [if_neg c] at h
    cases h
def spMade (CP : Addr) : Sp := fun vs H Q _ => ∃ (v : V) (xs : List V) (b : Bool), vs = [v] ∧ Ns H v xs b ∧
  (∀ p, ef xs b = none → xs = vals p → Pt p → p.length ≤ 40 → ∀ (H' : Hp) (T z : Addr), Same H H' → H' T = some (.tup [.ref z, .non]) → PatAt CP H' z p → Q (.ref T) H') ∧
  (∀ i w, ef xs b = some (i, w) → ∀ (H' : Hp) (T U : Addr), Same H H' → H' T = some (.tup [.non, .ref U]) → H' U = some (.tup [.int (i : Nat), .str w]) → Q (.ref T) H')
section
variable {P : Program} {w : World} {K : PySem.W.Frag} {mg : Str → Option Value} {base : Heap}
abbrev nmM : List Str := ["_law_thing", "_law_made_here", "_law_found", "e"]
theorem scMade : FnScope nmM ["_law_thing"] (defScope sMade) := ⟨rfl, rfl, rfl, by decide +kernel, rfl, by decide +kernel, by decide +kernel⟩
theorem ok_made {f fI CP CE : Addr} {fd fdI : FuncData} (F : FnP K "_law_made" sMade f fd) (M : PatMk P w K mg base CP CE fI fdI) (N : Er2 K mg "BadPattern" CE) : FnOk P w K mg base CX0 5 f fd ["_law_thing"] (spMade CP) := by
  refine F.ok scMade (fun vs H Q E h => ?_) (fun cdv A outer s H vs Q E hr4 h => ?_)
  · obtain ⟨v, xs, b, rfl, _⟩ := h
    rfl
  · obtain ⟨v, xs, b, rfl, nm, q1, q0⟩ := h
    refine ⟨_, PSs.nox (pss_cons (ps_asg (pe_tup (pa_cons pe_non (pa_cons pe_non pa_nil))) (pg_tup (by rfl) (pgs_cons (pg_name (i := 1) scMade.nd rfl (.inl rfl)) (pgs_cons (pg_name (i := 2) scMade.nd rfl (.inl rfl)) pgs_nil))))
      (pss_cons (ps_try_cls (l := [⟨.ref CE, 3, fun a cls d => tAsg (tTup (tCons (tXf a cls d CE "index" (tVar 3)) (tCons (tXf a cls d CE "what" (tVar 3)) tNil))) (gName 2)⟩])
        (tb := fun W => tAsg (tMakeS CP (spPat CP CE) (fun σ => WE W σ) (tCons (tVar 0) tNil)) (gName 1))
        (Wout := fun _ _ _ _ => False) rfl rfl scMade.nd L2.takes0
        (fun W pn xe tk _ => ?_)
        (.cons ⟨rfl, by decide, .inl N.g⟩ rfl rfl (fun a oe cls d pn hz hf => by
          show PSs _ _ (tAsg (tTup (tCons (tXf a cls d CE "index" (tVar 3)) (tCons (tXf a cls d CE "what" (tVar 3)) tNil))) (gName 2))
          exact pss_one (ps_set (i := 2) scMade.nd rfl (.inl rfl) (pe_tup (pa_cons (pe_xf N.x N.nI hz hf (pv 3)) (pa_cons (pe_xf N.x N.nW hz hf (pv 3)) pa_nil))))) .nil))
      (pss_one (ps_ret (pe_tup (pa_cons (pv 1) (pa_cons (pv 2) pa_nil))))))), ?_⟩
    · exact pss_one (ps_set (i := 1) scMade.nd rfl (.inl rfl) (pe_makeS M.mks M.ok hr4 (by rfl) M.gl M.bi (fun σ => passAt tk σ) (pa_cons (pv 0) pa_nil)))
    · refine ⟨(by show 2 ≤ sizeLine; decide), fun N0 nN => ⟨N0, _, rfl, .inl (.inl upd_same), rfl, _, _, rfl, _, _, rfl, rfl, ?_⟩⟩
      have sN := same_upd (o := .tup [.non, .non]) nN
      refine ⟨_, rfl, fun x dx nx nd ne => ?_⟩
      have s0 := sN.trans (same_ins (C := CP) (fs := []) nx nd ne)
      refine ⟨x, dx, v, xs, b, rfl, upd_same, nm.same s0, fun c e0 ec H2 t hx ht k => ⟨rfl, ?_⟩, fun i z e H2 d nd2 hd s2 => ?_⟩
      · obtain ⟨rfl, p, rfl, pp, lp⟩ := ef_none e0
        have s1 : Same H H2 := fun y o e => k y o (s0 _ _ e) (ne_of_none (sN _ _ e) nx)
        refine ⟨_, rfl, _, rfl, (by show 2 ≤ sizeLine; decide), fun T nT => ?_⟩
        have sT := same_upd (o := .tup [.ref x, .non]) nT
        exact q1 p e0 rfl pp lp _ T x (s1.trans sT) upd_same ⟨dx, t, c, sT _ _ hx, sT _ _ ht, lp, ec⟩
      · refine ⟨true, N.ee, fun _ a na => ?_, fun z => by cases z⟩
        refine ⟨_, rfl, rfl, rfl, d, _, _, rfl, hd, rfl, _, rfl, rfl, rfl, d, _, _, rfl, hd, rfl, (by show 2 ≤ sizeLine; decide), fun U nU => ?_⟩
        refine ⟨_, rfl, _, rfl, (by show 2 ≤ sizeLine; decide), fun T nT => ?_⟩
        have sU := same_upd (o := .tup [.int (i : Nat), .str z]) nU
        have sT := same_upd (o := .tup [.non, .ref U]) nT
        exact q0 i z e _ T U (((s0.trans s2).trans sU).trans sT) upd_same (sT _ _ upd_same)
abbrev rListOf (K : PySem.W.Frag) : List V → Hp → VK → Prop := fun xs H Q => ∃ p ys, xs = [V.ref p] ∧ (SqL K H p ys ∨ SqT K H p ys) ∧ ∀ l, H l = none → Q (.ref l) (upd H l (.lst ys))
/-- Pattern.of_names, as the class has it -/
structure OnS (P : Program) (w : World) (K : PySem.W.Frag) (mg : Str → Option Value) (base : Heap) (CP CN : Addr) (mc : Value) (p g : Addr) (fd : FuncData) : Prop where
  gl : mg "Pattern" = some (.ref CP)
  rd : ClX.CRead K CP mc
  st : CSt K CP mc "of_names" p g
  ok : FnOk P w K mg base (L2.CX P w) 5 g fd ["names"] (spON CP CN)
  bi : Binds K fd ["names"] []
def spShown : Sp := fun vs H Q _ => ∃ (v : V) (xs : List V) (b : Bool), vs = [v] ∧ Ns H v xs b ∧
  (∀ l, nf xs b = none → xs = vals l → ∀ (H' : Hp) (T D : Addr), Same H H' → H' T = some (.tup [.ref D, .non]) → H' D = some (.lst (vals (num l))) → Q (.ref T) H') ∧
  (∀ i w, nf xs b = some (i, w) → ∀ (H' : Hp) (T U : Addr), Same H H' → H' T = some (.tup [.non, .ref U]) → H' U = some (.tup [.int (i : Nat), .str w]) → Q (.ref T) H')
abbrev nmS : List Str := ["_law_thing", "_law_entries_here", "_law_found", "e"]
theorem scShown : FnScope nmS ["_law_thing"] (defScope sShown) := ⟨rfl, rfl, rfl, by decide +kernel, rfl, by decide +kernel, by decide +kernel⟩
theorem ok_shown {f pO gO CP CN : Addr} {mc : Value} {fd fdO : FuncData} (F : FnP K "_law_shown" sShown f fd) (T0 : PatC K CP) (z_list : mg "list" = none) (M : OnS P w K mg base CP CN mc pO gO fdO) (N : Er2 K mg "BadNames" CN) : FnOk P w K mg base CX0 6 f fd ["_law_thing"] spShown := by
  refine F.ok scShown (fun vs H Q E h => ?_) (fun cdv A outer s H vs Q E hr5 h => ?_)
  · obtain ⟨v, xs, b, rfl, _⟩ := h
    rfl
  · obtain ⟨v, xs, b, rfl, nm, q1, q0⟩ := h
    refine ⟨_, PSs.nox (pss_cons (ps_asg (pe_tup (pa_cons pe_non (pa_cons pe_non pa_nil))) (pg_tup (by rfl) (pgs_cons (pg_name (i := 1) scShown.nd rfl (.inl rfl)) (pgs_cons (pg_name (i := 2) scShown.nd rfl (.inl rfl)) pgs_nil))))
      (pss_cons (ps_try_cls (l := [⟨.ref CN, 3, fun a cls d => tAsg (tTup (tCons (tXf a cls d CN "index" (tVar 3)) (tCons (tXf a cls d CN "what" (tVar 3)) tNil))) (gName 2)⟩])
        (tb := fun W => tAsg (tCB (rListOf K) (tCons (tFld K (tStat CP (spON CP CN) (fun σ => WE W σ) (tC (.ref CP)) (tCons (tVar 0) tNil)) "entries") tNil)) (gName 1))
        (Wout := fun _ _ _ _ => False) rfl rfl scShown.nd L2.takes0
        (fun W pn xe tk _ => ?_)
        (.cons ⟨rfl, by decide, .inl N.g⟩ rfl rfl (fun a oe cls d pn hz hf => by
          show PSs _ _ (tAsg (tTup (tCons (tXf a cls d CN "index" (tVar 3)) (tCons (tXf a cls d CN "what" (tVar 3)) tNil))) (gName 2))
          exact pss_one (ps_set (i := 2) scShown.nd rfl (.inl rfl) (pe_tup (pa_cons (pe_xf N.x N.nI hz hf (pv 3)) (pa_cons (pe_xf N.x N.nW hz hf (pv 3)) pa_nil))))) .nil))
      (pss_one (ps_ret (pe_tup (pa_cons (pv 1) (pa_cons (pv 2) pa_nil))))))), ?_⟩
    · exact pss_one (ps_set (i := 1) scShown.nd rfl (.inl rfl) (pe_callTy call_list_of (by rfl) z_list (by decide +kernel) (pa_cons (pe_fld (pe_stat (pe_glob (by rfl) M.gl (v := .ref CP) rfl) M.rd M.st (FnOk.r M.ok M.bi) hr5 (fun σ => passAt tk σ) (pa_cons (pv 0) pa_nil)) rfl) pa_nil)))
    · refine ⟨(by show 2 ≤ sizeLine; decide), fun N0 nN => ⟨N0, _, rfl, .inl (.inl upd_same), rfl, _, _, rfl, _, _, rfl, rfl, ?_⟩⟩
      have sN := same_upd (o := .tup [.non, .non]) nN
      refine ⟨rfl, _, rfl, v, xs, b, rfl, nm.same sN, fun i z e H2 d nd2 hd s2 => ?_, fun l e0 ex H2 z s2 hz => ?_⟩
      · refine ⟨true, N.ee, fun _ a na => ?_, fun z => by cases z⟩
        refine ⟨_, rfl, rfl, rfl, d, _, _, rfl, hd, rfl, _, rfl, rfl, rfl, d, _, _, rfl, hd, rfl, (by show 2 ≤ sizeLine; decide), fun U nU => ?_⟩
        refine ⟨_, rfl, _, rfl, (by show 2 ≤ sizeLine; decide), fun T nT => ?_⟩
        have sU := same_upd (o := .tup [.int (i : Nat), .str z]) nU
        have sT := same_upd (o := .tup [.non, .ref U]) nT
        exact q0 i z e _ T U (((sN.trans s2).trans sU).trans sT) upd_same (sT _ _ upd_same)
      · obtain ⟨dx, t, c, hx, ht, lp, ec⟩ := hz
        refine ⟨z, CP, dx, _, _, rfl, hx, T0.cl, T0.nE, rfl, t, _, rfl, .inr (SqT.of ht), fun D nD => ?_⟩
        have sD := same_upd (o := .lst (vals (num l))) nD
        refine ⟨_, rfl, _, rfl, (by show 2 ≤ sizeLine; decide), fun T nT => ?_⟩
        have sT := same_upd (o := .tup [.ref D, .non]) nT
        exact q1 l e0 ex _ T D (((sN.trans s2).trans sD).trans sT) upd_same (sT _ _ upd_same)
end
end K25

/-! a lambda called in a try: the fields of its error -/
namespace K25
open PySem PySem.Spec PyProof.Rows L2 LamX TaX GrdX
/-- a def as it stands, its code object known -/
structure FunC (K : PySem.W.Frag) (x qual : Str) (params : Arguments) (body : List Stmt) (scope : Scope) (c f : Addr) (fd : FuncData) : Prop where
  ex : ∃ (oc : Value) (od : Option Addr) (dV kV doc pm : Value) (an : Option Addr) (ct : Value) (osl : Array (Option Value)),
    fd = PySem.W.fnOf x qual params body scope dV kV doc pm an (.ref c) ct ∧ K.lookup f = some ⟨oc, od, .func fd, osl⟩ ∧ PySem.W.codeIn K (.ref c) qual = true
theorem FunC.okG {P : Program} {w : World} {K : PySem.W.Frag} {mg : Str → Option Value} {base : Heap} {x qual : Str} {params : Arguments} {body : List Stmt} {scope : Scope} {c f : Addr} {fd : FuncData} {CX : CXT} {N ps : List Str} {k : Nat} {sp : Sp} (F : FunC K x qual params body scope c f fd) (S : FnScope N ps scope) (len : ∀ vs H Q E, sp vs H Q E → vs.length = ps.length)
    (hbody : ∀ (A : Around) (outer : List Env) (s : Shared) (H : Hp) (vs : List V) (Q : VK) (E : XK), Room k (A.deeper (envOfC qual scope s.heap.objs.size f (.ref c))) → Bare (A.deeper (envOfC qual scope s.heap.objs.size f (.ref c))) → sp vs H Q E →
      ∃ t, PSs (cxOf CX P w K mg base N qual scope f (.ref c) A outer s H E) body t ∧ t { nx := fun _ H' => Q .non H', rt := Q } (L2.start N vs) H) : FnG P w K mg base CX (k + 1) f fd ps sp := by
  obtain ⟨oc, od, dV, kV, doc, pm, an, ct, osl, rfl, lk, hcd⟩ := F.ex
  exact ⟨len, fun A outer s H args us vs Q E hr hg e0 hb r hsp => run_ofS lk hcd S hr e0 hb r (len _ _ _ _ hsp) fun hr' => hbody A outer s H vs Q E hr' hg hsp⟩
theorem FunC.ok {P : Program} {w : World} {K : PySem.W.Frag} {mg : Str → Option Value} {base : Heap} {x qual : Str} {params : Arguments} {body : List Stmt} {scope : Scope} {c f : Addr} {fd : FuncData} {CX : CXT} {N ps : List Str} {k : Nat} {sp : Sp} (F : FunC K x qual params body scope c f fd) (S : FnScope N ps scope) (len : ∀ vs H Q E, sp vs H Q E → vs.length = ps.length)
    (hbody : ∀ (A : Around) (outer : List Env) (s : Shared) (H : Hp) (vs : List V) (Q : VK) (E : XK), Room k (A.deeper (envOfC qual scope s.heap.objs.size f (.ref c))) → sp vs H Q E →
      ∃ t, PSs (cxOf CX P w K mg base N qual scope f (.ref c) A outer s H E) body t ∧ t { nx := fun _ H' => Q .non H', rt := Q } (L2.start N vs) H) : FnOk P w K mg base CX (k + 1) f fd ps sp := by
  obtain ⟨oc, od, dV, kV, doc, pm, an, ct, osl, rfl, lk, hcd⟩ := F.ex
  exact fn_of lk hcd S len fun A outer s H vs Q E hr hsp => hbody A outer s H vs Q E hr hsp
theorem tabs_same {T : List (Addr × Str)} {H H' : Hp} (h : Tabs T H) (s : Same H H') : Tabs T H' := h.ext fun b o e => s b o e
theorem ext_same {H H' : Hp} (s : Same H H') : ExtN H H' := ExtN.of fun b o e => s b o e
theorem lst_ext {H H' : Hp} {a : Addr} {xs : List V} (h : H a = some (.lst xs)) (e : ExtN H H') : H' a = some (.lst xs) := e _ _ h fun ps z => by cases z
mutual
theorem Dt.ext {H H' : Hp} {v : V} {d : PyData} (h : Dt Any H v d) (e : ExtN H H') : Dt Any H' v d := by
  cases h with
  | non => exact .non
  | bl b => exact .bl b
  | int i => exact .int i
  | str x h1 h2 => exact .str x h1 h2
  | lst _ h1 h2 => exact .lst trivial (e _ _ h1 fun ps z => by cases z) (h2.ext e)
  | tup _ h1 h2 => exact .tup trivial (e _ _ h1 fun ps z => by cases z) (h2.ext e)
theorem DtAll.ext {H H' : Hp} {vs : List V} {ds : List PyData} (h : DtAll Any H vs ds) (e : ExtN H H') : DtAll Any H' vs ds := by
  cases h with
  | nil => exact .nil
  | cons h1 h2 => exact .cons (h1.ext e) (h2.ext e)
end
/-- the errors, caught -/
structure ErP (K : PySem.W.Frag) (mg : Str → Option Value) (CB CC : Addr) : Prop where
  gB : mg "BadPlaces" = some (.ref CB)
  gC : mg "BadClass" = some (.ref CC)
  xB : XfC K CB
  xC : XfC K CC
  nI : PySem.W.findIn K (.ref CB) "index" = some none
  nW : PySem.W.findIn K (.ref CB) "what" = some none
  nN : PySem.W.findIn K (.ref CC) "number" = some none
  eBB : PySem.W.exmOne K (.ref CB) (.ref CB) = some true
  eCB : PySem.W.exmOne K (.ref CC) (.ref CB) = some false
  eCC : PySem.W.exmOne K (.ref CC) (.ref CC) = some true
def EPe (CB CC : Addr) (Q : VK) : XK := fun cls d H' =>
  (cls = .ref CB ∧ ∃ (dd : Addr) (fs : List (Str × V)) (v w : V), d = some dd ∧ H' dd = some (.xd fs) ∧ fs.lookup ("index" : Str) = some v ∧ fs.lookup ("what" : Str) = some w ∧ ∀ U, H' U = none → Q (.ref U) (upd H' U (.tup [v, w]))) ∨
  (cls = .ref CC ∧ ∃ (dd : Addr) (fs : List (Str × V)) (v : V), d = some dd ∧ H' dd = some (.xd fs) ∧ fs.lookup ("number" : Str) = some v ∧ ∀ U, H' U = none → Q (.ref U) (upd H' U (.tup [v])))
def TPe (CB CC : Addr) : (XK → Hp → VK → Prop) → Hp → VK → Prop := fun tl H Q => tl (EPe CB CC Q) H fun _ H' => Q .non H'
abbrev nmE : List Str := ["_law_call", "_law_found", "e"]
theorem scPe : FnScope nmE ["_law_call"] (defScope sPlaceError) := ⟨rfl, rfl, rfl, by decide +kernel, rfl, by decide +kernel, by decide +kernel⟩
theorem pe_gives {X : Cx} {q : Str} {g CB CC : Addr} {cdg : Value} (N : ErP X.K X.mg CB CC) : GivesA X nmE "_law_place_error" (defScope sPlaceError) g cdg (defBody sPlaceError) "_law_call" q (TPe CB CC) := by
  intro f c' s H Q tl act hc h
  refine ⟨_, pss_cons (ps_set (X := (cxOf C8.CX0 X.prog X.w X.K X.mg X.base nmE "_law_place_error" (defScope sPlaceError) g cdg X.A X.stack s H C8.E0).nox) (i := 1) scPe.nd rfl (.inl rfl) pe_non)
    (pss_cons (ps_try_cls (X := (cxOf C8.CX0 X.prog X.w X.K X.mg X.base nmE "_law_place_error" (defScope sPlaceError) g cdg X.A X.stack s H C8.E0).nox)
      (l := [⟨.ref CB, 2, fun a cls d => tAsg (tTup (tCons (tXf a cls d CB "index" (tVar 2)) (tCons (tXf a cls d CB "what" (tVar 2)) tNil))) (gName 1)⟩,
        ⟨.ref CC, 2, fun a cls d => tAsg (tTup (tCons (tXf a cls d CC "number" (tVar 2)) tNil)) (gName 1)⟩])
      (tb := fun W D σ H => σ[0]? = some (some (.ref f)) ∧ H c' = some (CodeO c' q) ∧ ∃ E : XK, (∀ cls d H', E cls d H' → W cls d σ H') ∧ tl E H fun _ H1 => D.nx σ H1)
      (Wout := fun _ _ _ _ => False) rfl rfl scPe.nd L2.takes0
      (fun W pn xe tk _ => ?_)
      (.cons ⟨rfl, by decide, .inl N.gB⟩ rfl rfl (fun a oe cls d pn hz hf => by
        show PSs _ _ (tAsg (tTup (tCons (tXf a cls d CB "index" (tVar 2)) (tCons (tXf a cls d CB "what" (tVar 2)) tNil))) (gName 1))
        exact pss_one (ps_set (i := 1) scPe.nd rfl (.inl rfl) (pe_tup (pa_cons (pe_xf N.xB N.nI hz hf (pv 2)) (pa_cons (pe_xf N.xB N.nW hz hf (pv 2)) pa_nil))))) (.cons ⟨rfl, by decide, .inl N.gC⟩ rfl rfl (fun a oe cls d pn hz hf => by
        show PSs _ _ (tAsg (tTup (tCons (tXf a cls d CC "number" (tVar 2)) tNil)) (gName 1))
        exact pss_one (ps_set (i := 1) scPe.nd rfl (.inl rfl) (pe_tup (pa_cons (pe_xf N.xC N.nN hz hf (pv 2)) pa_nil)))) .nil)))
    (pss_one (ps_ret (pv 1)))), ?_⟩
  · exact pss_one (ps_expr (act W pn xe _ _ tk))
  · refine ⟨rfl, hc, EPe CB CC Q, fun cls d H' z => ?_, ?_⟩
    · rcases z with ⟨rfl, dd, fs, v, w, rfl, e1, l1, l2, k⟩ | ⟨rfl, dd, fs, v, rfl, e1, l1, k⟩
      · refine ⟨true, N.eBB, fun _ a na => ?_, fun z => by cases z⟩
        refine ⟨_, rfl, rfl, rfl, dd, fs, v, rfl, e1, l1, _, rfl, rfl, rfl, dd, fs, w, rfl, e1, l2, (by show 2 ≤ sizeLine; decide), fun U nU => ?_⟩
        exact ⟨_, rfl, k U nU⟩
      · refine ⟨false, N.eCB, (fun z => by cases z), fun _ => ⟨true, N.eCC, fun _ a na => ?_, fun z => by cases z⟩⟩
        refine ⟨_, rfl, rfl, rfl, dd, fs, v, rfl, e1, l1, (by show 1 ≤ sizeLine; decide), fun U nU => ?_⟩
        exact ⟨_, rfl, k U nU⟩
    · have e : (fun (_ : V) (H' : Hp) => Q .non H') = fun (_ : V) H1 => ∃ y : V, (some (some V.non) : Option (Option V)) = some (some y) ∧ Q y H1 := by
        funext _ H1
        exact propext ⟨fun z => ⟨_, rfl, z⟩, fun ⟨y, e, z⟩ => by cases e; exact z⟩
      have h : tl (EPe CB CC Q) H fun _ H' => Q .non H' := h
      rw [e] at h
      exact h
theorem lamcall_pe {X : Cx} {T : List (Addr × Str)} {fT CB CC c Pt : Addr} {fdT : FuncData} {k : Nat} {params : Arguments} {body : Expr} {scope : Scope} {t : XK → TE} {p lpos pos : Pos} {q : Str} (FT : FnP X.K "_law_place_error" sPlaceError fT fdT) (gT : X.mg "_law_place_error" = some (.ref fT)) (bT : Binds X.K fdT ["_law_call"] []) (N : ErP X.K X.mg CB CC) (TB : TabB X.base X.mg c Pt) (hmT : (Pt, q) ∈ T) (huT : ∀ p ∈ T, p.1 = Pt → p.2 = q) (hr : Room (k + 2) X.A)
    (hbody : ∀ (A : Around) (outer : List Env) (s : Shared) (H : Hp) (E : XK) (f c' : Addr), Room k (A.deeper (lamEnv X scope s.heap.objs.size f c')) → PE (lamCx X A outer s H E scope f c') body (t E)) (L : lamSB X.env.scope scope = true)
    (hg : Gl X "_law_place_error" := by rfl) (hcode : X.env.code = .ref c := by rfl) (hq : X.env.qual ++ "<lambda>" = q := by rfl) (hdef : defaultsOf params X.env = ([], []) := by rfl)
    (hbind : ∀ (q : Str) (cl : List (Str × Addr)) (pm cv ctv : Value), bindArgs (PySem.W.kla_fn "<lambda>" q params body scope cl pm cv ctv) ⟨[], []⟩ = pure [] := by intros; rfl) :
    PE X (.Call (.Name "_law_place_error" p) [.Lambda params body scope lpos] [] pos) (tLam T (TPe CB CC) t) := by
  have kp := FT.kp
  obtain ⟨oc, od, dV, kV, doc, pm, an, cdv, ct, osl, rfl, lk, hcd, _, _⟩ := FT.ex
  exact pe_lamA hg gT kp lk hcd bT scPe rfl (.inl rfl) (pe_gives N) TB hcode (by rw [hq]; exact hmT) (fun p hp e => by rw [hq]; exact huT p hp e) hr (lamS_by L) hdef hbind hbody
end K25

/-! what a pattern tells is right -/
namespace K25
open PySem PySem.Spec PyProof.Rows L2 LamX TaX GrdX
theorem passAt0 {X : Cx} {σ : L2.St} : PassesAt (L2.CX X.prog X.w) X σ E0 := fun _ _ _ _ _ _ h => by
  obtain ⟨_, _, _, _, _, _, _, _, _, _, _, _, e⟩ := h
  exact e.elim
/-- len(x) -/
def rLenI (C : Addr) : List V → Hp → VK → Prop := fun xs H Q => ∃ (x dx ar : Addr) (fs : List (Str × V)) (ys : List V), xs = [.ref x] ∧ H x = some (.ins C dx fs) ∧ fs.lookup ("entries" : Str) = some (V.ref ar) ∧ H ar = some (.tup ys) ∧ Q (.int (ys.length : Int)) H
theorem call_lenI {X : Cx} {C fI fL : Addr} {fdI fdL : FuncData} (O : OwnC X.prog X.w X.K X.mg X.base C fI fL fdI fdL) (hr : Room 2 X.A) : CallR X (.builtin "len") (rLenI C) := by
  intro pins s σ H xs us Q I rv h
  obtain ⟨x, dx, ar, fs, ys, rfl, hx, hl, ha, q⟩ := h
  obtain ⟨u, rfl, ru⟩ := rv.one
  cases ru
  exact own_len ⟨hr, rfl⟩ O I hx hl ha fun t s' I' => ⟨.int (ys.length : Int), H, I', ⟨t, rfl⟩, q⟩
theorem cnt_top : ∀ {p : List (Option Nat)} {c0 c : Nat}, cnt c0 (vals p) = some c → c ≤ c0 + p.length
  | [], _, _, h => by cases h; exact Nat.le_refl _
  | o :: p, c0, c, h => by
    have h : (match stepE c0 (optV o) with | some d => cnt d (vals p) | none => none) = some c := h
    have st : ∀ d, stepE c0 (optV o) = some d → d ≤ c0 + 1 := fun d e => by
      cases o with
      | none => cases (show some c0 = some d from e); omega
      | some k =>
        rw [stepE_some] at e
        split at e
        · cases e
        · split at e <;> cases e <;> omega
    cases e : stepE c0 (optV o) with
    | none => rw [e] at h; cases h
    | some d =>
      rw [e] at h
      have z := cnt_top h
      have z2 := st d e
      rw [List.length_cons]
      omega
theorem rgc (n : Nat) (h : n ≤ 40) : ∃ m : Nat, RgC 0 (n : Int) (1 + (n : Int) / 9) m ∧ ∀ i : Nat, i < m → ∃ k : Nat, (0 : Int) + (i : Int) * (1 + (n : Int) / 9) = (k : Int) ∧ k < n := by
  have z : ∀ n : Fin 41, ((1 + ((n.1 : Nat) : Int) / 9 ≠ 0) ∧ (1 + ((n.1 : Nat) : Int) / 9).natAbs < 1073741824 ∧ Builtin.Range.small 0 ((n.1 : Nat) : Int) (1 + ((n.1 : Nat) : Int) / 9) = true) ∧ (0 ≤ (Builtin.Range.rangeSize 0 ((n.1 : Nat) : Int) (1 + ((n.1 : Nat) : Int) / 9)) ∧ (Builtin.Range.rangeSize 0 ((n.1 : Nat) : Int) (1 + ((n.1 : Nat) : Int) / 9)) ≤ 40) ∧
      ∀ i : Fin 41, ((i.1 : Nat) : Int) < (Builtin.Range.rangeSize 0 ((n.1 : Nat) : Int) (1 + ((n.1 : Nat) : Int) / 9)) → ((0 : Int) + (i.1 : Int) * (1 + ((n.1 : Nat) : Int) / 9)).toNat < n.1 := by decide +kernel
  obtain ⟨⟨z1, z2, z3⟩, ⟨z4, z4'⟩, z5⟩ := z ⟨n, by omega⟩
  have z4 : 0 ≤ Builtin.Range.rangeSize 0 (n : Int) (1 + (n : Int) / 9) := z4
  have z4' : Builtin.Range.rangeSize 0 (n : Int) (1 + (n : Int) / 9) ≤ 40 := z4'
  refine ⟨(Builtin.Range.rangeSize 0 (n : Int) (1 + (n : Int) / 9)).toNat, ⟨z1, z2, z3, (Int.toNat_of_nonneg z4).symm⟩, fun i hi => ⟨((0 : Int) + (i : Int) * (1 + (n : Int) / 9)).toNat, ?_, z5 ⟨i, by omega⟩ (by show (i : Int) < Builtin.Range.rangeSize 0 (n : Int) (1 + (n : Int) / 9); omega)⟩⟩
  refine (Int.toNat_of_nonneg ?_).symm
  have h1 : (0 : Int) ≤ (i : Int) * (1 + (n : Int) / 9) := Int.mul_nonneg (Int.natCast_nonneg i) (by omega)
  omega
theorem cnt_pre : ∀ {xs ys : List V} {c0 c : Nat}, cnt c0 (xs ++ ys) = some c → ∃ d, cnt c0 xs = some d
  | [], _, c0, _, _ => ⟨c0, rfl⟩
  | v :: xs, ys, c0, c, h => by
    have h : (match stepE c0 v with | some d => cnt d (xs ++ ys) | none => none) = some c := h
    cases e : stepE c0 v with
    | none => rw [e] at h; cases h
    | some d =>
      rw [e] at h
      obtain ⟨d', hd⟩ := cnt_pre h
      exact ⟨d', by rw [cnt_cons, e]; exact hd⟩
theorem cnt_take {p : List (Option Nat)} {c : Nat} (h : cnt 0 (vals p) = some c) (i : Nat) : ∃ d, cnt 0 (vals (p.take i)) = some d := by
  have e : vals p = vals (p.take i) ++ vals (p.drop i) := by rw [← vals_app, List.take_append_drop]
  rw [e] at h
  exact cnt_pre h
theorem inV_opt (k : Nat) (l : List (Option Nat)) : inV (.int (k : Int)) (vals l) = decide (some k ∈ l) := by
  induction l with
  | nil => rfl
  | cons o l ih =>
    show (eqV (optV o) (.int (k : Int)) || inV (.int (k : Int)) (vals l)) = _
    rw [ih]
    have e : eqV (optV o) (.int (k : Int)) = decide (o = some k) := by
      cases o with
      | none => rfl
      | some j =>
        show decide ((j : Int) = (k : Int)) = _
        exact decide_eq_decide.mpr ⟨fun z => by rw [show j = k by omega], fun z => by rw [Option.some.inj z]⟩
    rw [e]
    by_cases h1 : o = some k
    · subst h1
      simp
    · have h2 : (some k ∈ o :: l) ↔ some k ∈ l := ⟨fun z => (List.mem_cons.mp z).elim (fun y => absurd y.symm h1) fun y => y, fun z => List.mem_cons_of_mem _ z⟩
      rw [decide_eq_false h1, Bool.false_or]
      exact decide_eq_decide.mpr h2.symm
theorem flat_vals (l : List (Option Nat)) : (vals l).all flatV = true := by
  rw [List.all_eq_true]
  intro v hv
  exact (fl_vals v hv).flat
/-- the first of each class, one after another -/
theorem first_step {p : List (Option Nat)} {i : Nat} {o : Option Nat} {d : Nat} (e : p[i]? = some o) (hd : cnt 0 (vals (p.take i)) = some d) {c : Nat} (hc : cnt 0 (vals p) = some c) :
    (o = none ∧ cnt 0 (vals (p.take (i + 1))) = some d) ∨ (∃ k, o = some k ∧ some k ∈ p.take i ∧ cnt 0 (vals (p.take (i + 1))) = some d) ∨ (o = some d ∧ ¬ some d ∈ p.take i ∧ cnt 0 (vals (p.take (i + 1))) = some (d + 1)) := by
  have es : cnt 0 (vals (p.take (i + 1))) = stepE d (optV o) := by
    rw [take_snoc' e, vals_app]
    exact cnt_app hd
  obtain ⟨d', hd'⟩ := cnt_take hc (i + 1)
  have kl := (pt_of_cnt hd).classes hd
  have mem : ∀ k, some k ∈ p.take i ↔ k < d := fun k => ⟨fun h => (kl k).mp (List.getElem?_of_mem h), fun h => by
    obtain ⟨j, hj⟩ := (kl k).mpr h
    exact List.mem_of_getElem? hj⟩
  cases o with
  | none => exact .inl ⟨rfl, es⟩
  | some k =>
    rw [stepE_some] at es
    rw [es] at hd'
    split at hd'
    · cases hd'
    · split at hd'
      · rename_i h1 h2
        subst h2
        rw [if_neg h1, if_pos rfl] at es
        exact .inr (.inr ⟨rfl, fun z => absurd ((mem k).mp z) (Nat.lt_irrefl _), es⟩)
      · rename_i h1 h2
        rw [if_neg h1, if_neg h2] at es
        exact .inr (.inl ⟨k, rfl, (mem k).mpr (by omega), es⟩)
theorem cut_upto (vs : List V) (k : Nat) : cutV vs none (some (k : Int)) = vs.take k := by
  show (vs.drop 0).take (HT.sIx vs.length vs.length (some (k : Int)) - 0) = _
  rw [List.drop_zero, HT.sIx_nat, Nat.sub_zero]
  by_cases h : k ≤ vs.length
  · rw [Nat.min_eq_left h]
  · rw [Nat.min_eq_right (by omega), List.take_of_length_le (Nat.le_refl _), List.take_of_length_le (by omega)]
theorem dt_nats {S : Addr → Prop} {H : Hp} : ∀ ns : List Nat, DtAll S H (natL ns) (ns.map fun n : Nat => PyData.int (n : Int))
  | [] => .nil
  | n :: ns => .cons (.int _) (dt_nats ns)
theorem shaped_nats (ns : List Nat) : SeqAt.shaped (.tuple (ns.map fun n : Nat => PyData.int (n : Int))) = true :=
  shaped_of (lay_all fun d hd => by obtain ⟨o, _, rfl⟩ := List.mem_map.mp hd; rfl) (by
    show PyData.depthAll (ns.map fun n : Nat => PyData.int (n : Int)) + 1 ≤ 64
    have : PyData.depthAll (ns.map fun n : Nat => PyData.int (n : Int)) ≤ 8 := dep_all fun d hd => by obtain ⟨o, _, rfl⟩ := List.mem_map.mp hd; exact Nat.zero_le _
    omega)
theorem of_iteT {p q : Prop} (h : if (true : Bool) = true then p else q) : p := by
  rw [if_pos rfl] at h
  exact h
theorem of_iteF {p q : Prop} (h : if (false : Bool) = true then p else q) : q := by
  rw [if_neg Bool.false_ne_true] at h
  exact h
def Ts (H0 : Hp) (t : TT) (σ : L2.St) (b : Bool) : Prop := ∀ H1, Same H0 H1 → ∀ Q : Bool → Hp → Prop, (∀ H', Same H1 H' → Q b H') → t σ H1 Q
theorem ts_or {H0 : Hp} {σ : L2.St} {t u : TT} {b : Bool} (h : Ts H0 t σ false) (g : Ts H0 u σ b) : Ts H0 (tOr t u) σ b := fun H1 s1 Q q => h H1 s1 _ fun H2 s2 => iteF (g H2 (s1.trans s2) Q fun H3 s3 => q H3 (s2.trans s3))
theorem ts_not {H0 : Hp} {σ : L2.St} {t : TT} {b : Bool} (h : Ts H0 t σ (!b)) : Ts H0 (tNot t) σ b := fun H1 s1 Q q => h H1 s1 _ fun H2 s2 => by
  rw [Bool.not_not]
  exact q H2 s2
theorem seq_not {H0 : Hp} {σ : L2.St} {t : TT} {a u : TS} {D : Ends} {H : Hp} (h : Ts H0 t σ false) (s : Same H0 H) (g : ∀ H', Same H0 H' → u D σ H') : tSeq (tIfS t a tNext) u D σ H := h H s _ fun H2 s2 => iteF (g H2 (s.trans s2))
theorem tNext_of {D : Ends} {σ : L2.St} {H : Hp} (h : D.nx σ H) : tNext D σ H := h
theorem seq_asgN {e : TE} {i : Nat} {u : TS} {D : Ends} {σ : L2.St} {H : Hp} (h : e σ H fun v H1 => u D (σ.set i (some v)) H1) : tSeq (tAsg e (gName i)) u D σ H := h
theorem state_eq {u : TS} {D : Ends} {σ σ' : L2.St} {H : Hp} (e : σ = σ') (h : u D σ' H) : u D σ H := e ▸ h
theorem mT_not {a : TT} (ha : MonoT a) : MonoT (tNot a) := fun _ _ _ _ h q => ha _ _ _ _ (fun _ _ q1 => h _ _ q1) q
theorem mT_b {e : TE} (he : MonoE e) : MonoT (tB e) := fun _ _ _ _ h q => he _ _ _ _ (fun _ _ ⟨k, e, q⟩ => ⟨k, e, h _ _ q⟩) q
theorem mE_wh {t : TA} (h : MonoA t) : MonoE (tCall spWh [] E0 t) := fun _ _ _ _ hq q => h _ _ _ _ (fun _ _ ⟨v, t, e, o, q⟩ => ⟨v, t, e, o, hq _ _ q⟩) q
theorem mT_and {a b : TT} (ha : MonoT a) (hb : MonoT b) : MonoT (tAnd a b) := fun _ _ _ _ h q => ha _ _ _ _ (fun c _ q1 => by
  cases c with
  | true => exact iteT (hb _ _ _ _ h (of_iteT q1))
  | false => exact iteF (h _ _ (of_iteF q1))) q
theorem mE_slTo {K : PySem.W.Frag} {te th : TE} (h1 : MonoE te) (h2 : MonoE th) : MonoE (tSl (rSlL K) te tNoPart (tPart th)) := fun _ _ _ _ h q => h1 _ _ _ _ (fun _ _ q1 => h2 _ _ _ _ (fun _ _ ⟨i, e, a, xs, e1, e2, q2⟩ => ⟨i, e, a, xs, e1, e2, fun p np => h _ _ (q2 p np)⟩) q1) q
def spRd (CP : Addr) : Sp := fun vs H Q _ => ∃ (x a : Addr) (p : List (Option Nat)), vs = [.ref x, .ref a] ∧ PatAt CP H x p ∧ H a = some (.lst (vals p)) ∧ ∀ H', Same H H' → Q (.bl true) H'
theorem due_val {K : PySem.W.Frag} {σ : L2.St} {H : Hp} {Q : VK} {a : Addr} {p : List (Option Nat)} {i k : Nat} {o o2 : Option Nat} (ea : σ[1]? = some (some (.ref a))) (e6 : σ[6]? = some (some (.int (i : Int)))) (e8 : σ[8]? = some (some (.int (k : Int)))) (ha : SqL K H a (vals p)) (h1 : atI (vals p) (i : Int) = some (optV o)) (h2 : atI (vals p) (k : Int) = some (optV o2))
    (q : Q (.bl (o.isSome && decide (o = o2))) H) : tAndV (tOp (fun x y H Q => y = V.non ∧ Q (V.bl !decide (x = V.non)) H) (tOp (rIxL K) (tVar 1) (tVar 6)) (tC V.non)) (tOp rEq (tOp (rIxL K) (tVar 1) (tVar 6)) (tOp (rIxL K) (tVar 1) (tVar 8))) σ H Q := by
  refine ⟨_, ea, _, e6, a, _, (i : Int), _, rfl, rfl, ha, h1, rfl, ?_⟩
  cases o with
  | none => exact ⟨_, rfl, iteF q⟩
  | some n =>
    refine ⟨_, rfl, iteT ⟨_, ea, _, e6, a, _, (i : Int), _, rfl, rfl, ha, h1, _, ea, _, e8, a, _, (k : Int), _, rfl, rfl, ha, h2, scal_opt _ _, ?_⟩⟩
    have e : decide (optV (some n) = optV o2) = decide (some n = o2) := decide_eq_decide.mpr ⟨fun z => optV_inj z, fun z => by rw [z]⟩
    rw [e]
    exact q
theorem same_val {H0 : Hp} {σ : L2.St} {t : TE} {i : Nat} {b : Bool} (e : σ[i]? = some (some (.bl b))) (h : ∀ H1, Same H0 H1 → ∀ Q : VK, Q (.bl b) H1 → t σ H1 Q) : Ts H0 (tB (tCall spSame [] E0 (tCons t (tCons (tVar i) tNil)))) σ true := fun H1 s1 Q q => h H1 s1 _ ⟨_, e, b, b, rfl, _, rfl, by
  rw [decide_eq_true rfl]
  exact q _ (Same.refl _)⟩
theorem seq_ifLast {σ : L2.St} {t : TT} {a : TS} {D : Ends} {H : Hp} (h : Ts H t σ false) (g : ∀ H', Same H H' → D.nx σ H') : tIfS t a tNext D σ H := h H (Same.refl _) _ fun H2 s2 => iteF (g H2 s2)
theorem alike_val {CP CB x dx tx : Addr} {c : Nat} {σ : L2.St} {H : Hp} {Q : VK} {i j : Nat} {u v : Nat} {p : List (Option Nat)} (e0 : σ[0]? = some (some (.ref x))) (e1 : σ[i]? = some (some (.int (u : Int)))) (e2 : σ[j]? = some (some (.int (v : Int)))) (ex : H x = some (.ins CP dx (patO tx c))) (hx : PatAt CP H x p) (hu : u < p.length) (hv : v < p.length)
    (q : Q (.bl (alikeB p u v)) H) : tMethE CP ("are_alike" : Str) (spAA CP CB) (fun _ => E0) (tVar 0) (tCons (tVar i) (tCons (tVar j) tNil)) σ H Q := by
  refine ⟨_, e0, x, dx, _, rfl, ex, rfl, _, e1, _, e2, x, _, _, _, _, p, rfl, hx, .int _, .int _, fun a b _ _ ea eb => ?_, fun bad => ?_, fun _ bad => ?_⟩
  · have h1 : a = u := by have := V.int.inj ea; omega
    have h2 : b = v := by have := V.int.inj eb; omega
    rw [h1, h2]
    exact q
  · rw [nat_place hu] at bad
    cases bad
  · rw [nat_place hv] at bad
    cases bad
theorem alike_comm (p : List (Option Nat)) (i j : Nat) : alikeB p i j = alikeB p j i := by
  unfold alikeB
  generalize p.getD i none = a
  generalize p.getD j none = b
  cases a <;> cases b
  · rfl
  · rfl
  · rfl
  · rename_i m n
    show (true && decide (some m = some n)) = (true && decide (some n = some m))
    rw [Bool.true_and, Bool.true_and]
    exact decide_eq_decide.mpr ⟨fun z => z.symm, fun z => z.symm⟩
section
variable {P : Program} {w : World} {K : PySem.W.Frag} {mg : Str → Option Value} {base : Heap}
theorem ok_rd {f fI fL fPl fCA fAA pG fG fWh fSm CP CB CC : Addr} {fd fdI fdL fdPl fdCA fdAA fdG fdWh fdSm : FuncData} (F : FnP K "_law_reads" sReads f fd) (T : PatC K CP) (z_len : mg "len" = none) (z_enumerate : mg "enumerate" = none) (z_isinstance : mg "isinstance" = none) (z_list : mg "list" = none) (z_tuple : mg "tuple" = none) (z_range : mg "range" = none) (z_iter : mg "iter" = none)
    (O : OwnC P w K mg base CP fI fL fdI fdL) (FI : FunD K "__iter__" "Pattern.__iter__" (defArgs sPIter) (defBody sPIter) (defScope sPIter) [] [] fI fdI) (bI : Binds K fdI ["self"] []) (iI : PySem.W.findIn K (.ref CP) "__iter__" = some (some (.ref fI))) (iF : PySem.W.isFn K (.ref fI) = true) (PR : CountP P w K mg base CP pG fG fdG)
    (mPl : MethM P w K mg base CP "places_of" 3 ["self", "number"] (spPl CP CC) fPl fdPl) (mCA : MethM P w K mg base CP "class_at" 4 ["self", "place"] (spCA CP CB) fCA fdCA) (mAA : MethM P w K mg base CP "are_alike" 4 ["self", "one", "other"] (spAA CP CB) fAA fdAA)
    (dWh : Df P w K mg base "_law_whole" 1 ["_law_thing"] spWh fWh fdWh) (dSm : Df P w K mg base "_law_same" 1 ["_law_told", "_law_due"] spSame fSm fdSm) : FnOk P w K mg base CX0 5 f fd ["_law_pattern", "_law_entries_here"] (spRd CP) := by
  have sc : FnScope ["_law_pattern", "_law_entries_here", "_law_count", "_law_at", "_law_entry", "_law_number", "_law_one", "_law_told", "_law_other", "_law_due"] ["_law_pattern", "_law_entries_here"] (defScope sReads) := ⟨rfl, rfl, rfl, by decide +kernel, rfl, by decide +kernel, by decide +kernel⟩
  refine F.ok sc (fun vs H Q E h => ?_) (fun cdv A outer s H vs Q E hr4 h => ?_)
  · obtain ⟨x, a, p, rfl, _⟩ := h
    rfl
  · obtain ⟨x, a, p, rfl, hx, ha, q⟩ := h
    have hr := hr4
    have hr3 := hr4.mono (show 3 ≤ 4 by decide)
    have hr2 := hr4.mono (show 2 ≤ 4 by decide)
    have hr1 := hr4.mono (show 1 ≤ 4 by decide)
    refine ⟨_, PSs.nox (pss_cons (ps_set (i := 2) sc.nd rfl (.inl rfl) (pe_callB call_len_seq (by rfl) z_len boot_len (pa_cons (pe_lc (own := [("_law_at", 3), ("_law_entry", 4)]) (g := gTup K 2 (gCons (gName 3) (gCons (gName 4) gNil))) (tt := tAnd (tTest (tOp (fun x y H Q => y = V.non ∧ Q (V.bl !decide (x = V.non)) H) (tVar 4) (tC .non))) (tTest (tOp (rIn K true) (tVar 4) (tSl (rSlL K) (tVar 1) tNoPart (tPart (tVar 3)))))) rfl sc.nd (pi_enum (by rfl) z_enumerate (pa_cons (pv 1) pa_nil)) (blkOk_by (N := ["_law_pattern", "_law_entries_here", "_law_count", "_law_at", "_law_entry", "_law_number", "_law_one", "_law_told", "_law_other", "_law_due"]) (sc := defScope sReads) (by decide +kernel)) (fun _ _ _ _ _ => pg_tup (by rfl) (pgs_cons (pg_name (i := 3) sc.nd rfl (Or.inl rfl)) (pgs_cons (pg_name (i := 4) sc.nd rfl (Or.inl rfl)) pgs_nil))) (fun _ _ _ _ _ => pts_one (PW.pt (pw_and (pt_cmpR op_notN (pv 4) pe_non (nomark _)) (pw_and1 (pt_cmpR op_notIn_seq (pv 4) (pe_slice sl_list (pv 1) po_none (po_some (pv 3))) (by rfl)))))) (fun _ _ _ _ _ => (pv 4))) pa_nil)))
    (pss_cons (ps_if (PW.pt (pw_or (pt_cmpR (op_neD hr.units) (pe_fld (pv 0) rfl) (pe_callTy call_tuple_of (by rfl) z_tuple (by decide +kernel) (pa_cons (pv 1) pa_nil)) (nomark _)) (pw_or (pt_not (pt_val (pe_callB call_isi (by rfl) z_isinstance (by decide +kernel) (pa_cons (pe_fld (pv 0) rfl) (pa_cons (pe_bltn (by rfl) z_tuple (by decide +kernel) (v := .ty "tuple") rfl) pa_nil))))) (pw_or1 (pt_cmpR (op_neD hr.units) (pe_callTy (call_listI O hr4) (by rfl) z_list (by decide +kernel) (pa_cons (pv 0) pa_nil)) (pv 1) (nomark _))))))
      (pss_one (ps_ret pe_bl))
      pss_nil)
    (pss_cons (ps_if (PW.pt (pw_or (pt_cmpR op_ne (pe_callB (call_lenI O hr2) (by rfl) z_len boot_len (pa_cons (pv 0) pa_nil)) (pe_callB call_len_seq (by rfl) z_len boot_len (pa_cons (pv 1) pa_nil)) (nomark _)) (pw_or (pt_cmpR op_ne (pe_prop (pv 0) T.cl PR.pr PR.ok hr2 PR.bi .nil pass0 rfl) (pv 2) (nomark _)) (pw_or1 (pt_not (pt_val (pe_call dWh.ok hr1 (by rfl) dWh.gl dWh.kp dWh.bi .nil pass0 (pa_cons (pe_prop (pv 0) T.cl PR.pr PR.ok hr2 PR.bi .nil pass0 rfl) pa_nil))))))))
      (pss_one (ps_ret pe_bl))
      pss_nil)
    (pss_cons (ps_if (pt_cmpR (op_neD hr.units) (pe_lc (own := [("_law_entry", 4)]) (g := gName 4) rfl sc.nd (pi_own FI T z_iter bI iI iF hr1 (pv 0)) (blkOk_by (N := ["_law_pattern", "_law_entries_here", "_law_count", "_law_at", "_law_entry", "_law_number", "_law_one", "_law_told", "_law_other", "_law_due"]) (sc := defScope sReads) (by decide +kernel)) (fun _ _ _ _ _ => pg_name (i := 4) sc.nd rfl (Or.inl rfl)) (fun _ _ _ _ _ => pts_one (PW.pt (pw_and (pt_cmpR op_notN (pv 4) pe_non (nomark _)) (pw_and1 (pt_not (pt_val (pe_call dWh.ok hr1 (by rfl) dWh.gl dWh.kp dWh.bi .nil pass0 (pa_cons (pv 4) pa_nil)))))))) (fun _ _ _ _ _ => (pv 4))) (pe_lst pa_nil) (nomark _))
      (pss_one (ps_ret pe_bl))
      pss_nil)
    (pss_cons (ps_for PassesOwn.never rfl (pi_range1 (by rfl) z_range (pa_cons (pv 2) pa_nil)) (pg_name (i := 5) sc.nd rfl (Or.inr rfl))
      (pss_one (ps_if (pt_cmpR (op_neD hr.units) (pe_methE (E := fun _ => E0) (pv 0) T.cl mPl.mt (FnOk.r mPl.ok mPl.bi) hr3 (fun _ => passAt0) (pa_cons (pv 5) pa_nil)) (pe_callTy call_tuple_of (by rfl) z_tuple (by decide +kernel) (pa_cons (pe_lc (own := [("_law_at", 3), ("_law_entry", 4)]) (g := gTup K 2 (gCons (gName 3) (gCons (gName 4) gNil))) rfl sc.nd (pi_enum (by rfl) z_enumerate (pa_cons (pv 1) pa_nil)) (blkOk_by (N := ["_law_pattern", "_law_entries_here", "_law_count", "_law_at", "_law_entry", "_law_number", "_law_one", "_law_told", "_law_other", "_law_due"]) (sc := defScope sReads) (by decide +kernel)) (fun _ _ _ _ _ => pg_tup (by rfl) (pgs_cons (pg_name (i := 3) sc.nd rfl (Or.inl rfl)) (pgs_cons (pg_name (i := 4) sc.nd rfl (Or.inl rfl)) pgs_nil))) (fun _ _ _ _ _ => pts_one (pt_cmpR op_eq (pv 4) (pv 5) (nomark _))) (fun _ _ _ _ _ => (pv 3))) pa_nil)) (nomark _))
        (pss_one (ps_ret pe_bl))
        pss_nil)))
    (pss_cons (ps_for PassesOwn.never rfl (pi_range1 (by rfl) z_range (pa_cons (pe_callB call_len_seq (by rfl) z_len boot_len (pa_cons (pv 1) pa_nil)) pa_nil)) (pg_name (i := 6) sc.nd rfl (.inl rfl))
      (pss_cons (ps_set (i := 7) sc.nd rfl (.inl rfl) (pe_methE (E := fun _ => E0) (pv 0) T.cl mCA.mt (FnOk.r mCA.ok mCA.bi) hr4 (fun _ => passAt0) (pa_cons (pv 6) pa_nil)))
      (pss_cons (ps_if (PW.pt (pw_or (pt_cmpR op_ne (pv 7) (pe_ix ix_list (pv 1) (pv 6) (fun _ _ => rfl)) (nomark _)) (pw_or1 (pt_cmpR op_ne (pe_cmpR op_isN (pv 7) pe_non (nomark _)) (pe_cmpR op_isN (pe_ix ix_list (pv 1) (pv 6) (fun _ _ => rfl)) pe_non (nomark _)) (nomark _)))))
        (pss_one (ps_ret pe_bl))
        pss_nil)
      (pss_one (ps_for PassesOwn.never rfl (pi_range3 (by rfl) z_range (pa_cons pe_int (pa_cons (pe_callB call_len_seq (by rfl) z_len boot_len (pa_cons (pv 1) pa_nil)) (pa_cons (pe_op op_add pe_int (pe_op op_fdiv (pe_callB call_len_seq (by rfl) z_len boot_len (pa_cons (pv 1) pa_nil)) pe_int)) pa_nil)))) (pg_name (i := 8) sc.nd rfl (.inl rfl))
        (pss_cons (ps_set (i := 9) sc.nd rfl (.inl rfl) (pe_and (pe_cmpR op_notN (pe_ix ix_list (pv 1) (pv 6) (fun _ _ => rfl)) pe_non (nomark _)) (pe_one (pe_cmpR op_eq (pe_ix ix_list (pv 1) (pv 6) (fun _ _ => rfl)) (pe_ix ix_list (pv 1) (pv 8) (fun _ _ => rfl)) (nomark _)))))
        (pss_one (ps_if (PW.pt (pw_or (pt_not (pt_val (pe_call dSm.ok hr1 (by rfl) dSm.gl dSm.kp dSm.bi .nil pass0 (pa_cons (pe_methE (E := fun _ => E0) (pv 0) T.cl mAA.mt (FnOk.r mAA.ok mAA.bi) hr4 (fun _ => passAt0) (pa_cons (pv 6) (pa_cons (pv 8) pa_nil))) (pa_cons (pv 9) pa_nil))))) (pw_or1 (pt_not (pt_val (pe_call dSm.ok hr1 (by rfl) dSm.gl dSm.kp dSm.bi .nil pass0 (pa_cons (pe_methE (E := fun _ => E0) (pv 0) T.cl mAA.mt (FnOk.r mAA.ok mAA.bi) hr4 (fun _ => passAt0) (pa_cons (pv 8) (pa_cons (pv 6) pa_nil))) (pa_cons (pv 9) pa_nil))))))))
          (pss_one (ps_ret pe_bl))
          pss_nil))))))))
    (pss_one (ps_ret pe_bl)))))))), ?_⟩
    obtain ⟨dx, tx, c, ex, etx, lx, ec⟩ := id hx
    have lv : (vals p).length = p.length := len_vals p
    refine seq_asgN ⟨_, rfl, a, _, rfl, SqL.of ha, fun D nD => lc_E (K := K) walk_enum (fun i acc _ => ∃ d, acc = natL (List.range d) ∧ d ≤ i ∧ cnt 0 (vals (p.take i)) = some d) ⟨fun _ _ _ _ _ r _ _ => r, fun i acc _ ⟨d, e, h, _⟩ => by rw [e, List.length_map, List.length_range]; exact h⟩ nD (by rw [lv]; exact Nat.lt_of_le_of_lt lx (by decide)) ⟨0, rfl, Nat.le_refl _, rfl⟩ (fun H' s' => SqL.of (s' _ _ ha)) (fun _ _ => rfl) ?_ ?_ mE_var ?_⟩
    · rintro i v acc H' ev s' eD ⟨d, rfl, hd, hc⟩
      rw [vals_get] at ev
      obtain ⟨o, eo, rfl⟩ := Option.map_eq_some_iff.mp ev
      rcases first_step eo hc ec with ⟨rfl, hc'⟩ | ⟨k, rfl, hm, hc'⟩ | ⟨rfl, hm, hc'⟩
      · exact ⟨_, rfl, rfl, _, rfl, iteF ⟨Same.refl _, d, rfl, by omega, hc'⟩⟩
      · refine ⟨_, rfl, rfl, _, rfl, iteT ⟨_, rfl, _, rfl, _, rfl, _, rfl, a, _, rfl, SqL.of (s' _ _ ha), fun L nL => ⟨L, _, rfl, .inl (SqL.of upd_same), rfl, ?_, _, rfl, ?_⟩⟩⟩
        · rw [cut_upto, show (vals p).take i = vals (p.take i) from List.map_take.symm]
          exact flat_vals _
        · rw [cut_upto, show (vals p).take i = vals (p.take i) from List.map_take.symm]
          show Same _ _ ∧ if (!(inV (.int (k : Int)) (vals (p.take i)))) = true then _ else _
          rw [inV_opt, decide_eq_true hm]
          exact ⟨same_upd nL, d, rfl, by omega, hc'⟩
      · refine ⟨_, rfl, rfl, _, rfl, iteT ⟨_, rfl, _, rfl, _, rfl, _, rfl, a, _, rfl, SqL.of (s' _ _ ha), fun L nL => ⟨L, _, rfl, .inl (SqL.of upd_same), rfl, ?_, _, rfl, ?_⟩⟩⟩
        · rw [cut_upto, show (vals p).take i = vals (p.take i) from List.map_take.symm]
          exact flat_vals _
        · rw [cut_upto, show (vals p).take i = vals (p.take i) from List.map_take.symm]
          show Same _ _ ∧ if (!(inV (.int (d : Int)) (vals (p.take i)))) = true then _ else _
          rw [inV_opt, decide_eq_false hm]
          refine ⟨same_upd nL, _, rfl, Same.refl _, d + 1, ?_, by omega, hc'⟩
          rw [List.range_succ]
          exact (List.map_append (f := fun n : Nat => V.int (n : Int)) (l₁ := List.range d) (l₂ := [d])).symm
    · exact mT_and (mT_test (mE_op mR_isN mE_var mE_c)) (mT_test (mE_op mR_in mE_var (mE_slTo mE_var mE_var)))
    · rintro H1 acc s1 eD ⟨d, rfl, _, hd⟩
      rw [lv, List.take_of_length_le (Nat.le_refl _), ec] at hd
      obtain rfl := Option.some.inj hd
      refine ⟨D, _, rfl, .inl (SqL.of eD), ?_⟩
      rw [show (natL (List.range c)).length = c by rw [List.length_map, List.length_range]]
      have ctop : c ≤ p.length := by
        have z := cnt_top ec
        rw [Nat.zero_add] at z
        exact z
      have ha1 := s1 _ _ ha
      have ex1 := s1 _ _ ex
      have etx1 := s1 _ _ etx
      have hx1 := hx.sm s1
      dsimp only
      refine state_eq (σ' := [some (.ref x), some (.ref a), some (.int (c : Int)), none, none, none, none, none, none, none]) rfl ?_
      refine seq_not (H0 := H1) (ts_or (fun G1 g1 R r => ?_) (ts_or (ts_not fun G1 g1 R r => ?_) (fun G1 g1 R r => ?_))) (Same.refl _) fun H2 s2 => ?_
      · refine ⟨_, rfl, x, CP, dx, _, _, rfl, g1 _ _ ex1, T.cl, T.nE, rfl, _, rfl, a, _, rfl, .inl ⟨SqL.of (g1 _ _ ha1), fun t nt => ?_⟩⟩
        have st := same_upd (o := .tup (vals p)) nt
        refine ⟨_, _, (Dt.tup (S := Any) trivial (st _ _ (g1 _ _ etx1)) (dt_vals p)).dp, (Dt.tup (S := Any) trivial upd_same (dt_vals p)).dp, shaped_optT p, shaped_optT p, _, rfl, ?_⟩
        show R (!PyData.eqvAll (p.map datO) (p.map datO)) _
        rw [eqv_opts, decide_eq_true rfl]
        exact r _ st
      · exact ⟨_, rfl, x, CP, dx, _, _, rfl, g1 _ _ ex1, T.cl, T.nE, rfl, _, _, _, _, true, rfl, .ty _, (Odd.tup (g1 _ _ etx1)).ty, kit_ty (by decide +kernel), _, rfl, r _ (Same.refl _)⟩
      · refine ⟨_, rfl, x, dx, tx, _, _, rfl, g1 _ _ ex1, rfl, g1 _ _ etx1, fun G2 L g2 nL eL => ⟨_, rfl, _, _, (Dt.lst (S := Any) trivial eL (dt_vals p)).dp, (Dt.lst (S := Any) trivial (g2 _ _ (g1 _ _ ha1)) (dt_vals p)).dp, shaped_vals p, shaped_vals p, _, rfl, ?_⟩⟩
        show R (!PyData.eqvAll (p.map datO) (p.map datO)) _
        rw [eqv_opts, decide_eq_true rfl]
        exact r _ g2
      refine seq_not (H0 := H1) (ts_or (fun G1 g1 R r => ?_) (ts_or (fun G1 g1 R r => ?_) (ts_not fun G1 g1 R r => ?_))) s2 fun H3 s3 => ?_
      · refine ⟨_, rfl, x, dx, tx, _, _, rfl, g1 _ _ ex1, rfl, g1 _ _ etx1, _, rfl, a, _, rfl, .inl (SqL.of (g1 _ _ ha1)), rfl, _, rfl, ?_⟩
        rw [decide_eq_true rfl]
        exact r _ (Same.refl _)
      · refine ⟨_, rfl, x, dx, _, rfl, g1 _ _ ex1, x, dx, _, _, rfl, g1 _ _ ex1, rfl, _, rfl, rfl, _, rfl, ?_⟩
        rw [decide_eq_true rfl]
        exact r _ (Same.refl _)
      · exact ⟨_, rfl, x, dx, _, rfl, g1 _ _ ex1, x, dx, _, _, rfl, g1 _ _ ex1, rfl, _, _, rfl, .int _, _, rfl, r _ (Same.refl _)⟩
      refine seq_not (H0 := H1) (fun G1 g1 R r => ?_) s3 fun H4 s4 => ?_
      · refine ⟨_, rfl, x, dx, tx, _, _, rfl, g1 _ _ ex1, rfl, g1 _ _ etx1, fun D2 nD2 => lc_N walk_tup (fun i acc _ => acc = []) ⟨fun _ _ _ _ _ r _ _ => r, fun i acc _ r => by rw [r]; exact Nat.zero_le _⟩ nD2 (by rw [lv]; exact Nat.lt_of_le_of_lt lx (by decide)) rfl (fun H' s' => SqT.of (s' _ _ (g1 _ _ etx1))) (fun _ => rfl) ?_ ?_ mE_var ?_⟩
        · rintro i v acc H' ev s' eD2 rfl
          rw [vals_get] at ev
          obtain ⟨o, eo, rfl⟩ := Option.map_eq_some_iff.mp ev
          cases o with
          | none => exact ⟨_, rfl, rfl, _, rfl, iteF ⟨Same.refl _, rfl⟩⟩
          | some k => exact ⟨_, rfl, rfl, _, rfl, iteT ⟨_, rfl, _, _, rfl, .int _, _, rfl, Same.refl _, rfl⟩⟩
        · exact mT_and (mT_test (mE_op mR_isN mE_var mE_c)) (mT_not (mT_b (mE_wh (mA_cons mE_var mA_nil))))
        · rintro G2 acc g2 eD2 rfl
          refine ⟨Nat.zero_le _, fun L nL => ?_⟩
          have sL := same_upd (o := .lst []) nL
          refine ⟨_, _, (Dt.lst (S := Any) trivial (sL _ _ eD2) .nil).dp, (Dt.lst (S := Any) trivial upd_same .nil).dp, by rfl, by rfl, _, rfl, ?_⟩
          exact r _ (g2.trans sL)
      refine ⟨_, rfl, (c : Int), rfl, by omega, by omega, ?_⟩
      rw [Int.toNat_natCast]
      refine for_it walk_range (fun i σ G => ∃ x5 : Option V, σ = [some (.ref x), some (.ref a), some (.int (c : Int)), none, none, x5, none, none, none, none] ∧ Same H1 G) ⟨none, rfl, s4⟩ (fun _ _ _ _ _ => trivial) ?_ ?_
      · rintro k v σ Hx G1 hk ⟨x5, rfl, g1⟩ ⟨rfl, ev0⟩
        obtain rfl : v = .int (k : Int) := ev0.trans (by show V.int (0 + (k : Int)) = V.int (k : Int); rw [Int.zero_add])
        have ex2 := g1 _ _ ex1
        have ha2 := g1 _ _ ha1
        have hx2 := hx1.sm g1
        refine ⟨_, rfl, x, dx, _, rfl, ex2, rfl, _, rfl, x, _, _, p, c, rfl, hx2, ec, .int _, fun k2 hk2 ev G2 t g2 ht => ?_, fun bad => ?_⟩
        · obtain rfl : k2 = k := by
            have := V.int.inj ev
            omega
          have ha3 := g2 _ _ ha2
          refine ⟨_, rfl, a, _, rfl, SqL.of ha3, fun D3 nD3 => lc_E (K := K) walk_enum (fun i acc _ => acc = natL (plcL p k2 i)) ⟨fun _ _ _ _ _ r _ _ => r, fun i acc _ r => by rw [r, List.length_map]; exact plcL_len _ _ _⟩ nD3 (by rw [lv]; exact Nat.lt_of_le_of_lt lx (by decide)) rfl (fun H' s' => SqL.of (s' _ _ ha3)) (fun _ _ => rfl) ?_ (mT_test (mE_op mR_eq mE_var mE_var)) mE_var ?_⟩
          · rintro i v acc H' ev s' eD rfl
            rw [vals_get] at ev
            obtain ⟨o, eo, rfl⟩ := Option.map_eq_some_iff.mp ev
            have e0' : p.getD i none = o := by rw [List.getD_eq_getElem?_getD, eo]; rfl
            refine ⟨_, rfl, _, rfl, scal_opt o (some k2), _, rfl, Same.refl _, ?_⟩
            rw [plcL_succ, e0']
            have ed : decide (optV o = V.int (k2 : Int)) = decide (o = some k2) := decide_eq_decide.mpr ⟨fun z => optV_inj (b := some k2) z, fun z => by rw [z]; rfl⟩
            rw [ed]
            by_cases h : o = some k2
            · rw [decide_eq_true h, if_pos rfl, if_pos h]
              exact ⟨_, rfl, Same.refl _, (List.map_append (f := fun n : Nat => V.int (n : Int)) (l₁ := plcL p k2 i) (l₂ := [i])).symm⟩
            · rw [decide_eq_false h, if_neg Bool.false_ne_true, if_neg h, List.append_nil]
          · rintro G3 acc g3 eD3 rfl
            rw [lv] at eD3
            refine ⟨D3, _, rfl, .inl ⟨SqL.of eD3, fun t2 nt2 => ?_⟩⟩
            have s2' := same_upd (o := .tup (natL (plcL p k2 p.length))) nt2
            have d1 : Dt Any (upd G3 t2 (.tup (natL (plcL p k2 p.length)))) (.ref t) (.tuple ((plcL p k2 p.length).map fun n : Nat => PyData.int (n : Int))) := .tup trivial (s2' _ _ (g3 _ _ ht)) (dt_nats _)
            have d2 : Dt Any (upd G3 t2 (.tup (natL (plcL p k2 p.length)))) (.ref t2) (.tuple ((plcL p k2 p.length).map fun n : Nat => PyData.int (n : Int))) := .tup trivial upd_same (dt_nats _)
            refine ⟨_, _, d1.dp, d2.dp, shaped_nats _, shaped_nats _, _, rfl, ?_⟩
            rw [SeqAt.eqv_refl _ d1.lay]
            exact iteF ⟨_, rfl, ((g1.trans g2).trans g3).trans s2'⟩
        · have z : classV c (.int (k : Int)) = true := nat_place hk
          rw [z] at bad
          cases bad
      rintro σ G1 ⟨x5, rfl, g1⟩
      have ha2 := g1 _ _ ha1
      refine ⟨_, rfl, a, _, rfl, .inl (SqL.of ha2), _, rfl, by omega, by omega, ?_⟩
      rw [lv, Int.toNat_natCast]
      refine for_it walk_range (fun i σ G => ∃ x6 x7 x8 x9 : Option V, σ = [some (.ref x), some (.ref a), some (.int (c : Int)), none, none, x5, x6, x7, x8, x9] ∧ Same H1 G) ⟨none, none, none, none, rfl, g1⟩ (fun _ _ _ _ _ => trivial) ?_ ?_
      · rintro i v σ Hx G2 hi ⟨x6, x7, x8, x9, rfl, g2⟩ ⟨rfl, ev0⟩
        obtain rfl : v = .int (i : Int) := ev0.trans (by show V.int (0 + (i : Int)) = V.int (i : Int); rw [Int.zero_add])
        have ex3 := g2 _ _ ex1
        have ha3 := g2 _ _ ha1
        have hx3 := hx1.sm g2
        refine seq_asgN ⟨_, rfl, x, dx, _, rfl, ex3, rfl, _, rfl, x, _, _, p, rfl, hx3, .int _, fun i2 hi2 ev => ?_, fun bad => ?_⟩
        · obtain rfl : i2 = i := by
            have := V.int.inj ev
            omega
          have ati : atI (vals p) (i2 : Int) = some (optV (p.getD i2 none)) := atI_nat (getD_at hi)
          dsimp only
          generalize ho : p.getD i2 none = o at ati ⊢
          refine seq_not (H0 := G2) (ts_or (fun F1 f1 R r => ?_) (fun F1 f1 R r => ?_)) (Same.refl _) fun G3 g3 => ?_
          · refine ⟨_, rfl, _, rfl, _, rfl, a, _, (i2 : Int), _, rfl, rfl, SqL.of (f1 _ _ ha3), ati, scal_opt o o, _, rfl, ?_⟩
            rw [decide_eq_true rfl]
            exact r _ (Same.refl _)
          · refine ⟨_, rfl, rfl, _, rfl, _, rfl, a, _, (i2 : Int), _, rfl, rfl, SqL.of (f1 _ _ ha3), ati, rfl, rfl, _, rfl, ?_⟩
            rw [decide_eq_true rfl]
            exact r _ (Same.refl _)
          have ha4 := g3 _ _ ha3
          obtain ⟨m, rg, rgk⟩ := rgc p.length lx
          refine ⟨_, rfl, a, _, rfl, .inl (SqL.of ha4), _, rfl, a, _, rfl, .inl (SqL.of ha4), _, _, rfl, rfl, ⟨by decide, by decide⟩, _, _, rfl, rfl, 0, _, _, m, rfl, by rw [lv]; exact rg, ?_⟩
          rw [lv]
          refine for_it walk_rangeC (fun j σ G => ∃ x8 x9 : Option V, σ = [some (.ref x), some (.ref a), some (.int (c : Int)), none, none, x5, some (.int (i2 : Int)), some (optV o), x8, x9] ∧ Same H1 G) ⟨x8, x9, rfl, g2.trans g3⟩ (fun _ _ _ _ _ => trivial) ?_ ?_
          · rintro j v σ Hy G4 hj ⟨x8, x9, rfl, g4⟩ ⟨rfl, ev0⟩
            obtain ⟨k, ek, hk⟩ := rgk j hj
            obtain rfl : v = .int (k : Int) := ev0.trans (by show V.int (0 + (j : Int) * (1 + (p.length : Int) / 9)) = V.int (k : Int); rw [ek])
            have ex5 := g4 _ _ ex1
            have ha5 := g4 _ _ ha1
            have hx5 := hx1.sm g4
            have atk : atI (vals p) (k : Int) = some (optV (p.getD k none)) := atI_nat (getD_at hk)
            refine seq_asgN (due_val rfl rfl rfl (SqL.of ha5) ati atk ?_)
            rw [← ho]
            refine seq_ifLast (ts_or (ts_not (b := false) (same_val (i := 9) (b := alikeB p i2 k) ?_ ?_)) (ts_not (b := false) (same_val (i := 9) (b := alikeB p i2 k) ?_ ?_))) fun G5 g5 => ⟨_, _, rfl, g4.trans g5⟩
            · exact rfl
            · exact fun F1 f1 R r => alike_val rfl rfl rfl (f1 _ _ ex5) (hx5.sm f1) hi hk r
            · exact rfl
            · exact fun F1 f1 R r => alike_val rfl rfl rfl (f1 _ _ ex5) (hx5.sm f1) hk hi (by rw [alike_comm]; exact r)
          · rintro σ G4 ⟨x8, x9, rfl, g4⟩
            exact ⟨_, _, _, _, rfl, g4⟩
        · have z : placeV p.length (.int (i : Int)) = true := nat_place hi
          rw [z] at bad
          cases bad
      · rintro σ G2 ⟨x6, x7, x8, x9, rfl, g2⟩
        exact q _ (s1.trans g2)
end
end K25

/-! rows of short data, as texts -/
namespace K25
open PySem PySem.Spec PyProof.Rows L2 LamX TaX GrdX
structure Sh (d : PyData) : Prop where
  ls : d.leavesShort 40 = true
  wt : d.weight ≤ 200
  sb : d.showable = true
  nd : d.hasDict = false
  dp : d.depth ≤ 4
theorem Sh.non : Sh .none := ⟨rfl, Nat.zero_le _, rfl, rfl, Nat.zero_le _⟩
theorem Sh.bl (b : Bool) : Sh (.bool b) := ⟨rfl, (by cases b <;> decide), rfl, rfl, Nat.zero_le _⟩
theorem Sh.int {i : Int} (h : i.natAbs ≤ 10 ^ 32) : Sh (.int i) := by
  have l1 : i.natAbs.log2 < 110 := by
    by_cases z : i.natAbs = 0
    · rw [z]; decide
    · exact (Nat.log2_lt z).mpr (Nat.lt_of_le_of_lt h (by decide))
  refine ⟨?_, ?_, ?_, rfl, Nat.zero_le _⟩
  · show decide ((Str.ofString (toString i)).length ≤ 40) = true
    rw [decide_eq_true_iff]
    have pos : ∀ n : Nat, n ≤ 10 ^ 32 → (Str.ofString (toString (n : Int))).length ≤ 33 := fun n hn => toString_length_le (by omega) (k := 33) (by decide) (by
      have z : (10 : Int) ^ 33 = ((10 ^ 33 : Nat) : Int) := by decide
      rw [z]
      have z2 : (10 : Nat) ^ 32 < 10 ^ 33 := by decide
      omega)
    cases i with
    | ofNat n => exact Nat.le_trans (pos n h) (by decide)
    | negSucc m =>
      have e : toString (Int.negSucc m) = "-" ++ toString ((m + 1 : Nat) : Int) := rfl
      have p := pos (m + 1) h
      rw [PySem.ofString_length] at p
      rw [e, PySem.ofString_length, String.length_append]
      have e1 : "-".length = 1 := rfl
      omega
  · show (if i == 0 then 0 else i.natAbs.log2 + 1) ≤ 200
    split
    · exact Nat.zero_le _
    · omega
  · show decide (i.natAbs.log2 < 1920) = true
    rw [decide_eq_true_iff]
    omega
theorem sh_rows : ∀ {ds : List PyData}, (∀ d ∈ ds, Sh d) → PyData.leavesShortAll 40 ds = true ∧ PyData.weightAll ds ≤ 201 * ds.length ∧ PyData.showableAll ds = true ∧ PyData.hasDictAll ds = false ∧ PyData.depthAll ds ≤ 4
  | [], _ => ⟨rfl, Nat.le_refl _, rfl, rfl, Nat.zero_le _⟩
  | d :: ds, h => by
    have a := h d List.mem_cons_self
    obtain ⟨b1, b2, b3, b4, b5⟩ := sh_rows (ds := ds) fun e he => h e (List.mem_cons_of_mem _ he)
    have a1 := a.ls
    have a2 := a.wt
    have a3 := a.sb
    have a4 := a.nd
    have a5 := a.dp
    refine ⟨?_, ?_, ?_, ?_, ?_⟩
    · show (d.leavesShort 40 && PyData.leavesShortAll 40 ds) = true
      rw [a1, b1]
      rfl
    · show d.weight + 1 + PyData.weightAll ds ≤ 201 * (ds.length + 1)
      omega
    · show (d.showable && PyData.showableAll ds) = true
      rw [a3, b3]
      rfl
    · show (d.hasDict || PyData.hasDictAll ds) = false
      rw [a4, b4]
      rfl
    · show max d.depth (PyData.depthAll ds) ≤ 4
      exact Nat.max_le.mpr ⟨a5, b5⟩
theorem rp_list {H : Hp} {a : Addr} {ds : List PyData} (h : Dt Any H (.ref a) (.list ds)) (l : ds.length ≤ 64) (s : ∀ d ∈ ds, Sh d) : RpA H (.ref a) (PyData.list ds).shown := by
  obtain ⟨b1, b2, b3, b4, b5⟩ := sh_rows s
  refine .dt h b3 b4 (Nat.le_trans (PyData.shown_le 40 (by decide) (.list ds) b1) ?_) (by show PyData.depthAll ds + 1 ≤ 64; omega)
  have e : (PyData.list ds).weight = PyData.weightAll ds := rfl
  rw [e]
  exact Nat.le_trans (show (40 + 2) * PyData.weightAll ds + 40 ≤ 42 * (201 * 64) + 40 by omega) (by decide)
theorem rp_tup {H : Hp} {a : Addr} {ds : List PyData} (h : Dt Any H (.ref a) (.tuple ds)) (l : ds.length ≤ 64) (s : ∀ d ∈ ds, Sh d) : RpA H (.ref a) (PyData.tuple ds).shown := by
  obtain ⟨b1, b2, b3, b4, b5⟩ := sh_rows s
  refine .dt h b3 b4 (Nat.le_trans (PyData.shown_le 40 (by decide) (.tuple ds) b1) ?_) (by show PyData.depthAll ds + 1 ≤ 64; omega)
  have e : (PyData.tuple ds).weight = PyData.weightAll ds := rfl
  rw [e]
  exact Nat.le_trans (show (40 + 2) * PyData.weightAll ds + 40 ≤ 42 * (201 * 64) + 40 by omega) (by decide)
end K25

/-! drawn places, spoilt entries -/
namespace K25
open PySem PySem.Spec PyProof.Rows L2
abbrev Off (p D : Addr) : Addr → Prop := fun a => a ≠ p ∧ a ≠ D
/-- flat short values -/
inductive Sc : V → PyData → Prop
  | non : Sc .non .none
  | bl (b : Bool) : Sc (.bl b) (.bool b)
  | int (i : Int) (h : i.natAbs ≤ 10 ^ 32) : Sc (.int i) (.int i)
  | zero : Sc (.str ("0" : Str)) (.str ("0" : Str))
theorem Sc.dt {S : Addr → Prop} {H : Hp} {v : V} {d : PyData} (h : Sc v d) : Dt S H v d := by
  cases h with
  | non => exact .non
  | bl b => exact .bl b
  | int i h => exact .int i
  | zero => exact .str _ (by show (1 : Nat) ≤ 1000; decide) (by decide +kernel)
theorem Sc.sh {v : V} {d : PyData} (h : Sc v d) : Sh d := by
  cases h with
  | non => exact .non
  | bl b => exact .bl b
  | int i h => exact .int h
  | zero => exact ⟨by decide +kernel, by decide +kernel, rfl, rfl, Nat.zero_le _⟩
/-- a list of flat short values -/
def ScL (xs : List V) (ds : List PyData) : Prop := Paired Sc xs ds
theorem ScL.dt {S : Addr → Prop} {H : Hp} : ∀ {xs : List V} {ds : List PyData}, ScL xs ds → DtAll S H xs ds
  | _, _, .nil => .nil
  | _, _, .cons a b => .cons a.dt (ScL.dt b)
theorem ScL.sh : ∀ {xs : List V} {ds : List PyData}, ScL xs ds → ∀ d ∈ ds, Sh d
  | _, _, .nil, _, h => by cases h
  | _, _, .cons a b, d, h => by
    rcases List.mem_cons.mp h with rfl | h
    · exact a.sh
    · exact ScL.sh b d h
theorem ScL.len : ∀ {xs : List V} {ds : List PyData}, ScL xs ds → xs.length = ds.length
  | _, _, .nil => rfl
  | _, _, .cons _ b => congrArg (· + 1) (ScL.len b)
theorem ScL.app : ∀ {xs : List V} {ds : List PyData} {v : V} {d : PyData}, ScL xs ds → Sc v d → ScL (xs ++ [v]) (ds ++ [d])
  | _, _, _, _, .nil, h => .cons h .nil
  | _, _, _, _, .cons a b, h => .cons a (ScL.app b h)
def spPlcs : Sp := fun vs H Q _ => ∃ (p l : Addr) (n : Nat), vs = [.ref p, .int (n : Int)] ∧ Hand p l H ∧ n ≤ 40 ∧ ∀ (H' : Hp) (z : Addr) (xs : List V) (ds : List PyData), Kept p H H' → Hand p l H' → H z = none → H' z = some (.lst xs) → ScL xs ds → xs.length ≤ 40 → Q (.ref z) H'
theorem seq_rng {te : TE} {g : TG} {t U : TS} {D : Ends} {σ : L2.St} {H : Hp} (h : te σ H fun v H1 => tSeq (tFor (iRng1 (tCons (fun _ H Q => Q v H) tNil)) g t) U D σ H1) : tSeq (tFor (iRng1 (tCons te tNil)) g t) U D σ H := h
theorem many_val {p l : Addr} {σ : L2.St} {H : Hp} {Q : VK} (e : σ[0]? = some (some (.ref p))) (hp : Hand p l H) (q : ∀ (m : Nat) (H' : Hp), m ≤ 40 → Kept p H H' → Hand p l H' → Q (.int (m : Int)) H') :
    tIf (tTest (tOp rEq (tCall spDr [] E0 (tCons (tVar 0) (tCons (tC (V.int 9)) tNil))) (tC (V.int 0)))) (tC (V.int 40)) (tCall spDr [] E0 (tCons (tVar 0) (tCons (tC (V.int 7)) tNil))) σ H Q := by
  refine ⟨_, e, p, l, 9, rfl, hp, by decide, by decide +kernel, fun d H1 d0 d1 k1 h1 => ⟨rfl, _, rfl, ite2 (fun g => q 40 H1 (Nat.le_refl _) k1 h1) (fun g => ?_)⟩⟩
  refine ⟨_, e, p, l, 7, rfl, h1, by decide, by decide +kernel, fun d H2 d0 d1 k h => ?_⟩
  obtain ⟨n, rfl⟩ := Int.eq_ofNat_of_zero_le d0
  exact q n _ (by omega) (k1.trans k) h
theorem e20 : (10 : Int) ^ (20 : Int).toNat = 10 ^ 20 := congrArg (fun n : Nat => (10 : Int) ^ n) (rfl : (20 : Int).toNat = 20)
/-- a place that is wrong, drawn -/
theorem odd_place {p l : Addr} {n : Nat} {σ : L2.St} {H : Hp} {Q : VK} (e0 : σ[0]? = some (some (.ref p))) (e1 : σ[1]? = some (some (.int (n : Int)))) (hp : Hand p l H) (n40 : n ≤ 40) (q : ∀ (v : V) (d : PyData) (H' : Hp), Sc v d → Kept p H H' → Hand p l H' → Q v H') :
    tCall spPk [] E0 (tCons (tVar 0) (tCons (tLst (tCons (tUn (rU fun i => V.int (-i)) (tC (V.int 1))) (tCons (tVar 1) (tCons (tC (V.bl true)) (tCons (tC (V.str ("0" : Str))) (tCons (tC V.non) (tCons (tOp (rI0 fun i j => V.int (i + j)) (tVar 1) (tCall spDr [] E0 (tCons (tVar 0) (tCons (tOp (rI CPow fun i j => V.int (i ^ j.toNat)) (tC (V.int 10)) (tC (V.int 20))) tNil)))) tNil))))))) tNil)) σ H Q := by
  refine ⟨_, e0, _, rfl, _, e1, _, e1, _, e0, _, _, rfl, rfl, ⟨by decide, by decide, by decide⟩, p, l, _, rfl, hp, by rw [e20]; decide +kernel, by rw [e20]; decide +kernel, fun d H1 d0 d1 k1 h1 => ⟨_, _, rfl, rfl, (by show 6 ≤ sizeLine; decide), fun L nL => ?_⟩⟩
  rw [e20] at d1
  have sL := same_upd (o := .lst [.int (-1), .int (n : Int), .bl true, .str ("0" : Str), .non, .int ((n : Int) + d)]) nL
  refine ⟨p, l, L, _, rfl, h1.same sL, upd_same, h1.nn nL, (by show 0 < 6; decide), (by show 6 ≤ 1000; decide), fun v H2 hv k2 h2 => ?_⟩
  have kk := (k1.trans (Kept.same sL)).trans k2
  rcases List.mem_cons.mp hv with rfl | hv
  · exact q _ _ _ (.int _ (by decide)) kk h2
  rcases List.mem_cons.mp hv with rfl | hv
  · exact q _ _ _ (.int _ (by rw [Int.natAbs_natCast]; exact Nat.le_trans n40 (by decide))) kk h2
  rcases List.mem_cons.mp hv with rfl | hv
  · exact q _ _ _ (.bl _) kk h2
  rcases List.mem_cons.mp hv with rfl | hv
  · exact q _ _ _ .zero kk h2
  rcases List.mem_cons.mp hv with rfl | hv
  · exact q _ _ _ .non kk h2
  rcases List.mem_cons.mp hv with rfl | hv
  · refine q _ _ _ (.int _ ?_) kk h2
    have z : (10 : Int) ^ 20 = ((10 ^ 20 : Nat) : Int) := by decide
    rw [z] at d1
    have z2 : (10 : Nat) ^ 20 + 40 ≤ 10 ^ 32 := by decide
    omega
  cases hv
section
variable {P : Program} {w : World} {K : PySem.W.Frag} {mg : Str → Option Value} {base : Heap}
theorem ok_plcs {f fD fP : Addr} {fd fdD fdP : FuncData} (F : FnP K "_law_places" sPlaces f fd) (z_range : mg "range" = none) (dD : Df P w K mg base "_law_draw" 2 ["_law_hand_here", "_law_many"] spDr fD fdD) (dP : Df P w K mg base "_law_pick" 3 ["_law_hand_here", "_law_things"] spPk fP fdP) : FnOk P w K mg base CX0 4 f fd ["_law_hand_here", "_law_size_here"] spPlcs := by
  have sc : FnScope ["_law_hand_here", "_law_size_here", "_law_places_here", "_law_k"] ["_law_hand_here", "_law_size_here"] (defScope sPlaces) := ⟨rfl, rfl, rfl, by decide +kernel, rfl, by decide +kernel, by decide +kernel⟩
  refine F.ok sc (fun vs H Q E h => ?_) (fun cdv A outer s H vs Q E hr3 h => ?_)
  · obtain ⟨p, l, n, rfl, _⟩ := h
    rfl
  · obtain ⟨p, l, n, rfl, hp, hn, q⟩ := h
    have hr2 := hr3.mono (show 2 ≤ 3 by decide)
    refine ⟨_, PSs.nox (pss_cons (ps_set (i := 2) sc.nd rfl (.inl rfl) (pe_lst pa_nil))
    (pss_cons (ps_for PassesOwn.never rfl (pi_range1 (by rfl) z_range (pa_cons (pe_ifExp (pt_cmpR op_eq (pe_call dD.ok hr2 (by rfl) dD.gl dD.kp dD.bi .nil pass0 (pa_cons (pv 0) (pa_cons pe_int pa_nil))) pe_int (nomark _)) pe_int (pe_call dD.ok hr2 (by rfl) dD.gl dD.kp dD.bi .nil pass0 (pa_cons (pv 0) (pa_cons pe_int pa_nil)))) pa_nil)) (pg_name (i := 3) sc.nd rfl (.inl rfl))
      (pss_one (ps_if (PW.pt (pw_or (pt_cmpR op_eq (pv 1) pe_int (nomark _)) (pw_or1 (pt_cmpR op_eq (pe_call dD.ok hr2 (by rfl) dD.gl dD.kp dD.bi .nil pass0 (pa_cons (pv 0) (pa_cons pe_int pa_nil))) pe_int (nomark _)))))
        (pss_one (ps_expr (pe_bm PySem.F.plainAttrs_list PySem.F.slot_list_append PySem.F.type_list_append mt_append (pv 2) (pa_cons (pe_call dP.ok hr3 (by rfl) dP.gl dP.kp dP.bi .nil pass0 (pa_cons (pv 0) (pa_cons (pe_lst (pa_cons (pe_un un_neg pe_int) (pa_cons (pv 1) (pa_cons pe_bl (pa_cons pe_str (pa_cons pe_non (pa_cons (pe_op op_add (pv 1) (pe_call dD.ok hr2 (by rfl) dD.gl dD.kp dD.bi .nil pass0 (pa_cons (pv 0) (pa_cons (pe_op op_pow pe_int pe_int) pa_nil)))) pa_nil))))))) pa_nil))) pa_nil))))
        (pss_one (ps_expr (pe_bm PySem.F.plainAttrs_list PySem.F.slot_list_append PySem.F.type_list_append mt_append (pv 2) (pa_cons (pe_call dD.ok hr2 (by rfl) dD.gl dD.kp dD.bi .nil pass0 (pa_cons (pv 0) (pa_cons (pv 1) pa_nil))) pa_nil)))))))
    (pss_one (ps_ret (pv 2))))), ?_⟩
    refine seq_asgN ⟨Nat.zero_le _, fun D nD => ?_⟩
    have Dp := hp.nn nD
    have Dl := hp.nl nD
    have s0 := same_upd (o := .lst []) nD
    dsimp only
    refine seq_rng (many_val rfl (hp.app Dp Dl) fun m H1 hm k1 h1 => ?_)
    have kk1 : Kept p H H1 := (Kept.same s0).trans k1
    have eD1 := k1 _ _ Dp upd_same
    refine ⟨(m : Int), rfl, by omega, by omega, ?_⟩
    rw [Int.toNat_natCast]
    refine for_it walk_range (fun i σ G => ∃ (x3 : Option V) (xs : List V) (ds : List PyData), σ = [some (.ref p), some (.int (n : Int)), some (.ref D), x3] ∧ G D = some (.lst xs) ∧ ScL xs ds ∧ xs.length = i ∧ Kept p H G ∧ Hand p l G)
      ⟨none, [], [], rfl, eD1, .nil, rfl, kk1, h1⟩ (fun _ _ _ _ _ => trivial) ?_ ?_
    · rintro i v σ Hx G hi ⟨x3, xs, ds, rfl, gD, sc1, li, gk, gh⟩ ⟨rfl, ev0⟩
      have xl : xs.length < sizeLine := Nat.lt_of_lt_of_le (show xs.length < 41 by omega) (by decide)
      have fin : ∀ (v2 : V) (d : PyData) (G2 : Hp), Sc v2 d → Kept p G G2 → Hand p l G2 → ∃ (x3 : Option V) (xs' : List V) (ds' : List PyData), [some (.ref p), some (.int (n : Int)), some (.ref D), some v] = [some (.ref p), some (.int (n : Int)), some (.ref D), x3] ∧ (upd G2 D (.lst (xs ++ [v2]))) D = some (.lst xs') ∧ ScL xs' ds' ∧ xs'.length = i + 1 ∧ Kept p H (upd G2 D (.lst (xs ++ [v2]))) ∧ Hand p l (upd G2 D (.lst (xs ++ [v2]))) := fun v2 d G2 h k2 h2 =>
        ⟨_, xs ++ [v2], ds ++ [d], rfl, upd_same, sc1.app h, by rw [List.length_append, li]; rfl, kput nD (gk.trans k2), h2.app Dp Dl⟩
      have ap : ∀ (G2 : Hp), Kept p G G2 → G2 D = some (.lst xs) := fun G2 k => k _ _ Dp gD
      refine ⟨_, rfl, rfl, _, rfl, ?_⟩
      by_cases hn0 : n = 0
      · rw [decide_eq_true (by rw [hn0]; rfl : V.int (n : Int) = V.int 0)]
        refine iteT (iteT ?_)
        exact ⟨_, rfl, .inl ⟨rfl, _, SqL.of gD⟩, odd_place rfl rfl gh hn fun v2 d G3 sc3 k3 h3 => ⟨D, _, _, rfl, rfl, ap G3 k3, xl, fin v2 d G3 sc3 k3 h3⟩⟩
      · rw [decide_eq_false (fun z => hn0 (by have := V.int.inj z; omega) : V.int (n : Int) ≠ V.int 0)]
        refine iteF ⟨_, rfl, p, l, 12, rfl, gh, by decide, by decide +kernel, fun d G2 d0 d1 k2 h2 => ⟨rfl, _, rfl, ite2 (fun g => ?_) (fun g => ?_)⟩⟩
        · exact ⟨_, rfl, .inl ⟨rfl, _, SqL.of (ap G2 k2)⟩, odd_place rfl rfl h2 hn fun v2 d G3 sc3 k3 h3 => ⟨D, _, _, rfl, rfl, ap G3 (k2.trans k3), xl, fin v2 d G3 sc3 (k2.trans k3) h3⟩⟩
        · refine ⟨_, rfl, .inl ⟨rfl, _, SqL.of (ap G2 k2)⟩, _, rfl, _, rfl, p, l, (n : Int), rfl, h2, by omega, Nat.lt_of_le_of_lt (show ((n : Int)).natAbs ≤ 40 by omega) (by decide +kernel), fun d2 G3 d20 d21 k3 h3 => ⟨D, _, _, rfl, rfl, ap G3 (k2.trans k3), xl, fin _ _ G3 (.int d2 ?_) (k2.trans k3) h3⟩⟩
          exact Nat.le_trans (show d2.natAbs ≤ 40 by omega) (by decide)
    · rintro σ G ⟨x3, xs, ds, rfl, gD, sc1, li, gk, gh⟩
      exact ⟨_, rfl, q G D xs ds gk gh nD gD sc1 (by omega)⟩
end
end K25

/-! spoilt entries -/
namespace K25
open PySem PySem.Spec PyProof.Rows L2
theorem Hand.neq {p l a : Addr} {H : Hp} (h : Hand p l H) (x : List (Option Nat)) (e : H a = some (.lst (vals x))) : a ≠ p := fun z => by
  obtain ⟨cells, i, r, t, h1, _⟩ := h
  rw [z, h1] at e
  have e2 := HO.lst.inj (Option.some.inj e)
  cases x with
  | nil => cases e2
  | cons o x =>
    have e3 := (List.cons.inj e2).1
    cases o <;> cases e3
theorem hand_ne {p l a : Addr} {H : Hp} {o : HO} (h : Hand p l H) (e : H a = some o) (n : ∀ i r t, handO l i r t ≠ o) : a ≠ p := fun z => by
  obtain ⟨cells, i, r, t, h1, _⟩ := h
  rw [z, h1] at e
  exact n i r t (Option.some.inj e)
theorem kept_lst {p l : Addr} {H H1 : Hp} {l0 : Addr} {xs : List V} (hp : Hand p l H) (k : Kept p H H1) (h : H l0 = some (.lst xs)) (n : ∀ r, xs.head? ≠ some (.ref r)) : H1 l0 = some (.lst xs) := k _ _ (hand_ne hp h fun i r t z => by
  have z := HO.lst.inj z
  rw [← z] at n
  exact n l rfl) h
theorem vals_head {y : List (Option Nat)} (r : Addr) : (vals y).head? ≠ some (.ref r) := fun z => by
  cases y with
  | nil => cases z
  | cons o y => cases o <;> cases z
theorem DtAll.set {S : Addr → Prop} {H : Hp} {v : V} {d : PyData} (h : Dt S H v d) : ∀ {xs : List V} {ds : List PyData} (j : Nat), DtAll S H xs ds → DtAll S H (xs.set j v) (ds.set j d)
  | _, _, _, .nil => .nil
  | _, _, 0, .cons a b => .cons h b
  | _, _, j + 1, .cons a b => .cons a (DtAll.set h j b)
theorem sh_set {d : PyData} (h : Sh d) {ds : List PyData} (a : ∀ e ∈ ds, Sh e) (j : Nat) : ∀ e ∈ ds.set j d, Sh e := fun e he => (List.mem_or_eq_of_mem_set he).elim (a e) fun z => z ▸ h
theorem sh_snoc {d : PyData} (h : Sh d) {ds : List PyData} (a : ∀ e ∈ ds, Sh e) : ∀ e ∈ ds ++ [d], Sh e := fun e he => (List.mem_append.mp he).elim (a e) fun z => by rw [List.mem_singleton.mp z]; exact h
theorem sh_opt {o : Option Nat} (h : ∀ n, o = some n → n ≤ 10 ^ 30) : Sh (datO o) := by
  cases o with
  | none => exact .non
  | some n => exact .int (by rw [Int.natAbs_natCast]; exact Nat.le_trans (h n rfl) (by decide))
theorem sh_opts {x : List (Option Nat)} (h : ∀ n, some n ∈ x → n ≤ 10 ^ 30) : ∀ d ∈ x.map datO, Sh d := fun d hd => by
  obtain ⟨o, ho, rfl⟩ := List.mem_map.mp hd
  exact sh_opt fun n e => h n (e ▸ ho)
theorem row_list {H : Hp} {a : Addr} {xs : List V} {ds : List PyData} (e : H a = some (.lst xs)) (h : DtAll Any H xs ds) (s : ∀ d ∈ ds, Sh d) (l : xs.length ≤ 64) : Ns H (.ref a) xs true ∧ RpA H (.ref a) (PyData.list ds).shown :=
  ⟨.seq (.inl e) (by omega) fun x hx => by
    obtain ⟨d, _, hd⟩ := DtAll.mem h hx
    exact ⟨_, hd.odd⟩, rp_list (.lst trivial e h) (by rw [← h.len]; exact l) s⟩
theorem row_tup {H : Hp} {a : Addr} {xs : List V} {ds : List PyData} (e : H a = some (.tup xs)) (h : DtAll Any H xs ds) (s : ∀ d ∈ ds, Sh d) (l : xs.length ≤ 64) : Ns H (.ref a) xs true ∧ RpA H (.ref a) (PyData.tuple ds).shown :=
  ⟨.seq (.inr e) (by omega) fun x hx => by
    obtain ⟨d, _, hd⟩ := DtAll.mem h hx
    exact ⟨_, hd.odd⟩, rp_tup (.tup trivial e h) (by rw [← h.len]; exact l) s⟩
def spSpt : Sp := fun vs H Q _ => ∃ (p l a : Addr) (x : List (Option Nat)), vs = [.ref p, .ref a] ∧ Hand p l H ∧ H a = some (.lst (vals x)) ∧ (∀ n, some n ∈ x → n ≤ 10 ^ 30) ∧ x.length ≤ 40 ∧
  ∀ (H' : Hp) (v : V) (xs : List V) (b : Bool) (z : Str), Kept p H H' → Hand p l H' → Ns H' v xs b → RpA H' v z → Q v H'
theorem seq_if {c : TT} {t u : TS} {D : Ends} {σ : L2.St} {H : Hp} (h : c σ H fun b H1 => if b = true then t { D with nx := u D } σ H1 else u D σ H1) : tSeq (tIfS c t tNext) u D σ H := h
/-- an item, drawn -/
theorem odd_item {K : PySem.W.Frag} {p l D : Addr} {u : Int} {xs : List V} {σ : L2.St} {H : Hp} {Q : VK} (e0 : σ[0]? = some (some (.ref p))) (e3 : σ[3]? = some (some (.ref D))) (e5 : σ[5]? = some (some (.int u))) (u0 : 0 ≤ u) (u1 : u < 10 ^ 30) (hp : Hand p l H) (eD : H D = some (.lst xs)) (lx : xs.length ≤ 40)
    (q : ∀ (v : V) (d : PyData) (H' : Hp), Dt (Off p D) H' v d → Sh d → Kept p H H' → Hand p l H' → Q v H') :
    tCall spPk [] E0 (tCons (tVar 0) (tCons (tLst (tCons (tC (V.bl true)) (tCons (tC (V.bl false)) (tCons (tUn (rU fun i => V.int (-i)) (tC (V.int 1))) (tCons (tOp (rI0 fun i j => V.int (i - j)) (tUn (rU fun i => V.int (-i)) (tC (V.int 1))) (tVar 5)) (tCons (tOp (rI0 fun i j => V.int (i + j)) (tC (V.int 41)) (tVar 5)) (tCons (tOp (rI0 fun i j => V.int (i + j)) (tCB (fun xs H_1 Q => ∃ p ys, xs = [V.ref p] ∧ (SqL K H_1 p ys ∨ SqT K H_1 p ys) ∧ Q (V.int ys.length) H_1) (tCons (tVar 3) tNil)) (tC (V.int 1))) (tCons (tC (V.str ("0" : Str))) (tCons (tLst (tCons (tC (V.int 0)) tNil)) (tCons (tC (V.int 1)) (tCons (tC (V.int 2)) tNil))))))))))) tNil)) σ H Q := by
  refine ⟨_, e0, _, rfl, _, rfl, _, e5, _, _, rfl, rfl, _, e5, _, _, rfl, rfl, _, e3, D, _, rfl, .inl (SqL.of eD), _, _, rfl, rfl, (by show 1 ≤ sizeLine; decide), fun L0 n0 => ⟨(by show 10 ≤ sizeLine; decide), fun L nL => ?_⟩⟩
  have s0 := same_upd (o := .lst [.int 0]) n0
  have sL := same_upd (o := .lst [.bl true, .bl false, .int (-1), .int (-1 - u), .int (41 + u), .int ((xs.length : Int) + 1), .str ("0" : Str), .ref L0, .int 1, .int 2]) nL
  have h2 := (hp.same s0).same sL
  refine ⟨p, l, L, _, rfl, h2, upd_same, (hp.same s0).nn nL, (by show 0 < 10; decide), (by show 10 ≤ 1000; decide), fun v H2 hv k2 h3 => ?_⟩
  have kk := (Kept.same (p := p) (s0.trans sL)).trans k2
  have z : (10 : Int) ^ 30 = ((10 ^ 30 : Nat) : Int) := by decide
  rw [z] at u1
  have z2 : (10 : Nat) ^ 30 + 41 ≤ 10 ^ 32 := by decide
  have sc : ∀ (v : V) (d : PyData), Sc v d → Q v H2 := fun v d h => q v d H2 h.dt h.sh kk h3
  rcases List.mem_cons.mp hv with rfl | hv
  · exact sc _ _ (.bl _)
  rcases List.mem_cons.mp hv with rfl | hv
  · exact sc _ _ (.bl _)
  rcases List.mem_cons.mp hv with rfl | hv
  · exact sc _ _ (.int _ (by decide))
  rcases List.mem_cons.mp hv with rfl | hv
  · exact sc _ _ (.int _ (by omega))
  rcases List.mem_cons.mp hv with rfl | hv
  · exact sc _ _ (.int _ (by omega))
  rcases List.mem_cons.mp hv with rfl | hv
  · exact sc _ _ (.int _ (by omega))
  rcases List.mem_cons.mp hv with rfl | hv
  · exact sc _ _ .zero
  rcases List.mem_cons.mp hv with rfl | hv
  · have np : L0 ≠ p := hp.nn n0
    have nD : L0 ≠ D := fun y => by rw [y, eD] at n0; cases n0
    exact q _ (.list [.int 0]) H2 (.lst ⟨np, nD⟩ (k2 _ _ np (sL _ _ upd_same)) (.cons (.int 0) .nil)) ⟨by decide +kernel, by decide +kernel, by decide, rfl, by decide⟩ kk h3
  rcases List.mem_cons.mp hv with rfl | hv
  · exact sc _ _ (.int _ (by decide))
  rcases List.mem_cons.mp hv with rfl | hv
  · exact sc _ _ (.int _ (by decide))
  cases hv
section
variable {P : Program} {w : World} {K : PySem.W.Frag} {mg : Str → Option Value} {base : Heap}
theorem ok_spt {f fD fP : Addr} {fd fdD fdP : FuncData} (F : FnP K "_law_spoilt" sSpoilt f fd) (z_range : mg "range" = none) (z_len : mg "len" = none) (z_list : mg "list" = none) (z_tuple : mg "tuple" = none) (dD : Df P w K mg base "_law_draw" 2 ["_law_hand_here", "_law_many"] spDr fD fdD) (dP : Df P w K mg base "_law_pick" 3 ["_law_hand_here", "_law_things"] spPk fP fdP) : FnOk P w K mg base CX0 4 f fd ["_law_hand_here", "_law_entries_here"] spSpt := by
  have sc : FnScope ["_law_hand_here", "_law_entries_here", "_law_kind", "_law_odd", "_law_k", "_law_high", "_law_item"] ["_law_hand_here", "_law_entries_here"] (defScope sSpoilt) := ⟨rfl, rfl, rfl, by decide +kernel, rfl, by decide +kernel, by decide +kernel⟩
  refine F.ok sc (fun vs H Q E h => ?_) (fun cdv A outer s H vs Q E hr3 h => ?_)
  · obtain ⟨p, l, a, x, rfl, _⟩ := h
    rfl
  · obtain ⟨p, l, a, x, rfl, hp, ha, hx, lx, q⟩ := h
    have hr := hr3
    have hr2 := hr3.mono (show 2 ≤ 3 by decide)
    refine ⟨_, PSs.nox (pss_cons (ps_set (i := 2) sc.nd rfl (.inl rfl) (pe_call dD.ok hr2 (by rfl) dD.gl dD.kp dD.bi .nil pass0 (pa_cons (pv 0) (pa_cons pe_int pa_nil))))
    (pss_cons (ps_if (pt_cmpR op_eq (pv 2) pe_int (nomark _))
      (pss_one (ps_ret (pe_call dP.ok hr3 (by rfl) dP.gl dP.kp dP.bi .nil pass0 (pa_cons (pv 0) (pa_cons (pe_lst (pa_cons pe_non (pa_cons pe_int (pa_cons pe_str (pa_cons pe_dnewK pa_nil))))) pa_nil)))))
      pss_nil)
    (pss_cons (ps_set (i := 3) sc.nd rfl (.inl rfl) (pe_callTy call_list_of (by rfl) z_list (by decide +kernel) (pa_cons (pv 1) pa_nil)))
    (pss_cons (ps_if (pt_cmpR op_eq (pv 2) pe_int (nomark _))
      (pss_one (ps_ret (pe_op op_cat (pv 3) (pe_op op_rep (pe_lst (pa_cons pe_int pa_nil)) (pe_op op_sub pe_int (pe_callB call_len_seq (by rfl) z_len boot_len (pa_cons (pv 3) pa_nil)))))))
      pss_nil)
    (pss_cons (ps_for PassesOwn.never rfl (pi_range1 (by rfl) z_range (pa_cons (pe_op op_add pe_int (pe_call dD.ok hr2 (by rfl) dD.gl dD.kp dD.bi .nil pass0 (pa_cons (pv 0) (pa_cons pe_int pa_nil)))) pa_nil)) (pg_name (i := 4) sc.nd rfl (.inl rfl))
      (pss_cons (ps_set (i := 5) sc.nd rfl (.inl rfl) (pe_call dD.ok hr2 (by rfl) dD.gl dD.kp dD.bi .nil pass0 (pa_cons (pv 0) (pa_cons (pe_op op_pow pe_int pe_int) pa_nil))))
      (pss_cons (ps_set (i := 6) sc.nd rfl (.inl rfl) (pe_call dP.ok hr3 (by rfl) dP.gl dP.kp dP.bi .nil pass0 (pa_cons (pv 0) (pa_cons (pe_lst (pa_cons pe_bl (pa_cons pe_bl (pa_cons (pe_un un_neg pe_int) (pa_cons (pe_op op_sub (pe_un un_neg pe_int) (pv 5)) (pa_cons (pe_op op_add pe_int (pv 5)) (pa_cons (pe_op op_add (pe_callB call_len_seq (by rfl) z_len boot_len (pa_cons (pv 3) pa_nil)) pe_int) (pa_cons pe_str (pa_cons (pe_lst (pa_cons pe_int pa_nil)) (pa_cons pe_int (pa_cons pe_int pa_nil))))))))))) pa_nil))))
      (pss_one (ps_if (PW.pt (pw_or (pt_cmpR (op_eqD hr.units) (pv 3) (pe_lst pa_nil) (nomark _)) (pw_or1 (pt_cmpR op_eq (pe_call dD.ok hr2 (by rfl) dD.gl dD.kp dD.bi .nil pass0 (pa_cons (pv 0) (pa_cons pe_int pa_nil))) pe_int (nomark _)))))
        (pss_one (ps_if (pt_cmpR op_lt (pe_callB call_len_seq (by rfl) z_len boot_len (pa_cons (pv 3) pa_nil)) pe_int (nomark _))
          (pss_one (ps_expr (pe_bm PySem.F.plainAttrs_list PySem.F.slot_list_append PySem.F.type_list_append mt_append (pv 3) (pa_cons (pv 6) pa_nil))))
          pss_nil))
        (pss_one (ps_asg (pv 6) (pg_sub (pv 3) (pe_call dD.ok hr2 (by rfl) dD.gl dD.kp dD.bi .nil pass0 (pa_cons (pv 0) (pa_cons (pe_callB call_len_seq (by rfl) z_len boot_len (pa_cons (pv 3) pa_nil)) pa_nil))) set_list))))))))
    (pss_one (ps_ret (pe_ifExp (pt_cmpR op_eq (pe_call dD.ok hr2 (by rfl) dD.gl dD.kp dD.bi .nil pass0 (pa_cons (pv 0) (pa_cons pe_int pa_nil))) pe_int (nomark _)) (pv 3) (pe_callTy call_tuple_of (by rfl) z_tuple (by decide +kernel) (pa_cons (pv 3) pa_nil)))))))))), ?_⟩
    refine seq_asgN ⟨_, rfl, p, l, 12, rfl, hp, by decide, by decide +kernel, fun kd H1 kd0 kd1 k1 h1 => ?_⟩
    dsimp only
    have ha1 := k1 _ _ (hp.neq x ha) ha
    refine seq_if ⟨_, rfl, rfl, _, rfl, ite2 (fun g => ?_) (fun g => ?_)⟩
    · refine ⟨_, rfl, fun d nd => ⟨(by show 4 ≤ sizeLine; decide), fun L nL => ?_⟩⟩
      have sd := same_upd (o := .dK []) nd
      have sL := same_upd (o := .lst [.non, .int 0, .str ("00" : Str), .ref d]) nL
      refine ⟨p, l, L, _, rfl, (h1.same sd).same sL, upd_same, (h1.same sd).nn nL, (by show 0 < 4; decide), (by show 4 ≤ 1000; decide), fun v H2 hv k2 h2 => ?_⟩
      have kk := (k1.trans (Kept.same (sd.trans sL))).trans k2
      rcases List.mem_cons.mp hv with rfl | hv
      · exact q H2 _ [] false _ kk h2 (.bad .non (by decide)) .non
      rcases List.mem_cons.mp hv with rfl | hv
      · exact q H2 _ [] false _ kk h2 (.bad (.int 0) (by decide)) (.int 0 (by decide +kernel))
      rcases List.mem_cons.mp hv with rfl | hv
      · exact q H2 _ [] false _ kk h2 (.bad (.str _ (by show 2 ≤ 1000; decide) (by decide +kernel)) (by decide)) (.str _ (by decide +kernel))
      rcases List.mem_cons.mp hv with rfl | hv
      · have ed := k2 _ _ (h1.nn nd) (sL _ _ (upd_same (H := H1) (a := d) (o := .dK [])))
        exact q H2 _ [] false _ kk h2 (.bad (.dic ed) (by decide)) (.dic ed)
      cases hv
    refine seq_asgN ⟨_, rfl, a, _, rfl, .inl (SqL.of ha1), fun D nD => ?_⟩
    dsimp only
    have sD := same_upd (o := .lst (vals x)) nD
    have Dp := h1.nn nD
    have Dl := h1.nl nD
    have h2 := h1.app (o := .lst (vals x)) Dp Dl
    have kk := k1.trans (Kept.same (p := p) sD)
    have nDH : H D = none := by
      cases e : H D with
      | none => rfl
      | some o =>
        have z := k1 _ _ Dp e
        rw [nD] at z
        cases z
    have eD : upd H1 D (.lst (vals x)) D = some (.lst (vals x)) := upd_same
    generalize upd H1 D (.lst (vals x)) = H2 at sD h2 kk eD ⊢
    refine seq_if ⟨_, rfl, rfl, _, rfl, ite2 (fun g2 => ?_) (fun g2 => ?_)⟩
    · refine ⟨_, rfl, (by show 1 ≤ sizeLine; decide), fun Z nZ => ?_⟩
      have sZ := same_upd (o := .lst [.int 0]) nZ
      refine ⟨_, rfl, D, _, rfl, .inl (SqL.of (sZ _ _ eD)), _, _, rfl, rfl, Z, _, [.int 0], rfl, rfl, upd_same, by rw [len_vals]; omega, by rw [len_vals]; omega, ?_, fun M nM => ?_⟩
      · rw [len_vals]
        exact Nat.le_trans (show 1 * ((41 : Int) - (x.length : Int)).toNat ≤ 41 by omega) (by decide)
      rw [len_vals]
      have eR : (List.replicate ((41 : Int) - (x.length : Int)).toNat [V.int 0]).flatten = vals (List.replicate ((41 : Int) - (x.length : Int)).toNat (some 0)) := by
        generalize ((41 : Int) - (x.length : Int)).toNat = m
        induction m with
        | zero => rfl
        | succ m ih =>
          show V.int 0 :: (List.replicate m [V.int 0]).flatten = _
          rw [ih]
          rfl
      have sM := same_upd (o := .lst (List.replicate ((41 : Int) - (x.length : Int)).toNat [V.int 0]).flatten) nM
      refine ⟨D, M, _, _, rfl, rfl, sM _ _ (sZ _ _ eD), upd_same, ?_, fun R nR => ?_⟩
      · rw [eR, len_vals, len_vals, List.length_replicate]
        exact Nat.le_trans (show x.length + ((41 : Int) - (x.length : Int)).toNat ≤ 41 by omega) (by decide)
      have sR := same_upd (o := .lst (vals x ++ (List.replicate ((41 : Int) - (x.length : Int)).toNat [V.int 0]).flatten)) nR
      have eV : vals x ++ (List.replicate ((41 : Int) - (x.length : Int)).toNat [V.int 0]).flatten = vals (x ++ List.replicate ((41 : Int) - (x.length : Int)).toNat (some 0)) := by rw [eR, vals_app]
      obtain ⟨r1, r2⟩ := row_list (H := upd (upd (upd H2 Z (.lst [.int 0])) M (.lst (List.replicate ((41 : Int) - (x.length : Int)).toNat [V.int 0]).flatten)) R (.lst (vals x ++ (List.replicate ((41 : Int) - (x.length : Int)).toNat [V.int 0]).flatten))) (a := R) (xs := vals (x ++ List.replicate ((41 : Int) - (x.length : Int)).toNat (some 0))) (by rw [upd_same, eV]) (dt_vals _) (sh_opts fun n hn => by
        rcases List.mem_append.mp hn with hn | hn
        · exact hx n hn
        · cases (List.mem_replicate.mp hn).2
          exact Nat.zero_le _) (by rw [len_vals, List.length_append, List.length_replicate]; omega)
      exact q _ _ _ true _ (kk.trans (Kept.same ((sZ.trans sM).trans sR))) (((h2.same sZ).same sM).same sR) r1 r2
    refine ⟨_, rfl, p, l, 2, rfl, h2, by decide, by decide +kernel, fun td H3 td0 td1 k3 h3 => ⟨_, _, rfl, rfl, _, rfl, by omega, by omega, ?_⟩⟩
    obtain ⟨t, rfl⟩ := Int.eq_ofNat_of_zero_le td0
    rw [show ((1 : Int) + (t : Int)).toNat = 1 + t by omega]
    have kk3 := kk.trans k3
    have eD3 := k3 _ _ Dp eD
    refine for_it walk_range (fun i σ G => ∃ (x4 x5 x6 : Option V) (xs : List V) (ds : List PyData), σ = [some (.ref p), some (.ref a), some (.int kd), some (.ref D), x4, x5, x6] ∧ G D = some (.lst xs) ∧ DtAll (Off p D) G xs ds ∧ (∀ d ∈ ds, Sh d) ∧ xs.length ≤ 40 ∧ Kept p H G ∧ Hand p l G)
      ⟨none, none, none, vals x, x.map datO, rfl, eD3, dt_vals _, sh_opts hx, by rw [len_vals]; exact lx, kk3, h3⟩ (fun _ _ _ _ _ => trivial) ?_ ?_
    · rintro i v σ Hx G hi ⟨x4, x5, x6, xs, ds, rfl, gD, dt, sh, li, gk, gh⟩ ⟨rfl, ev0⟩
      have keep : ∀ {G2 : Hp}, Kept p G G2 → G2 D = some (.lst xs) ∧ DtAll (Off p D) G2 xs ds := fun k => ⟨k _ _ Dp gD, dt.to (fun _ z => z) fun a o s e => k _ _ s.1 e⟩
      refine seq_asgN ⟨_, rfl, _, _, rfl, rfl, ⟨by decide, by decide, by decide⟩, p, l, _, rfl, gh, by rw [e30]; decide +kernel, by rw [e30]; decide +kernel, fun u G1 u0 u1 k1 g1 => ?_⟩
      rw [e30] at u1
      refine seq_asgN (odd_item rfl rfl rfl u0 u1 g1 (keep k1).1 li fun w d G2 dw sw k2 g2 => ?_)
      dsimp only
      have k12 := k1.trans k2
      have gD2 := (keep k12).1
      have dt2 := (keep k12).2
      have gk2 := gk.trans k12
      -- what stands behind a turn
      have fin : ∀ (G3 : Hp) (xs' : List V) (ds' : List PyData), Kept p G2 G3 → Hand p l G3 → DtAll (Off p D) G3 xs' ds' → (∀ d ∈ ds', Sh d) → xs'.length ≤ 40 → ∃ (x4 x5 x6 : Option V) (xs : List V) (ds : List PyData), [some (.ref p), some (.ref a), some (.int kd), some (.ref D), some v, some (.int u), some w] = [some (.ref p), some (.ref a), some (.int kd), some (.ref D), x4, x5, x6] ∧ (upd G3 D (.lst xs')) D = some (.lst xs) ∧ DtAll (Off p D) (upd G3 D (.lst xs')) xs ds ∧ (∀ d ∈ ds, Sh d) ∧ xs.length ≤ 40 ∧ Kept p H (upd G3 D (.lst xs')) ∧ Hand p l (upd G3 D (.lst xs')) := fun G3 xs' ds' k3 g3 dt3 sh3 l3 =>
        ⟨_, _, _, xs', ds', rfl, upd_same, dt3.to (fun _ z => z) (fun a o s e => (upd_ne s.2).trans e), sh3, l3, kput nDH (gk2.trans k3), g3.app Dp Dl⟩
      have keep2 : ∀ {G3 : Hp}, Kept p G2 G3 → G3 D = some (.lst xs) ∧ DtAll (Off p D) G3 xs ds ∧ Dt (Off p D) G3 w d := fun k => ⟨k _ _ Dp gD2, dt2.to (fun _ z => z) fun a o s e => k _ _ s.1 e, dw.to (fun _ z => z) fun a o s e => k _ _ s.1 e⟩
      have app : ∀ (G3 : Hp), Kept p G2 G3 → Hand p l G3 → xs.length < 40 → _ := fun G3 k3 g3 lt => fin G3 (xs ++ [w]) (ds ++ [d]) k3 g3 ((keep2 k3).2.1.app (.cons (keep2 k3).2.2 .nil)) (sh_snoc sw sh) (by rw [List.length_append]; exact lt)
      refine ⟨_, rfl, Nat.zero_le _, fun Z nZ => ?_⟩
      have sZ := same_upd (o := .lst []) nZ
      obtain ⟨_, _, _, _, dep⟩ := sh_rows sh
      have dL := (Dt.lst (S := Any) (a := D) trivial (sZ _ _ gD2) (dt2.any.same sZ))
      refine ⟨_, _, dL.dp, (Dt.lst (S := Any) trivial upd_same .nil).dp, shaped_of dL.lay (by show PyData.depthAll ds + 1 ≤ 64; omega), by rfl, _, rfl, ?_⟩
      have g2Z := g2.same sZ
      have kZ : Kept p G2 (upd G2 Z (.lst [])) := Kept.same sZ
      generalize upd G2 Z (.lst []) = GZ at g2Z kZ ⊢
      cases xs with
      | nil =>
        cases dt2 with
        | nil =>
          refine iteT (iteT ?_)
          exact ⟨_, rfl, D, _, rfl, .inl (SqL.of (keep2 kZ).1), _, _, rfl, rfl, _, rfl, iteT ⟨_, rfl, .inl ⟨rfl, _, SqL.of (keep2 kZ).1⟩, _, rfl, D, _, _, rfl, rfl, (keep2 kZ).1, (by show 0 < sizeLine; decide), app GZ kZ g2Z (by show 0 < 40; decide)⟩⟩
      | cons v0 xs0 =>
        cases dt2 with
        | @cons _ _ d0 ds0 q1 q2 =>
          refine iteF ⟨_, rfl, p, l, 3, rfl, g2Z, by decide, by decide +kernel, fun c G3 c0 c1 k3 g3 => ⟨rfl, _, rfl, ?_⟩⟩
          have kz3 := kZ.trans k3
          refine ite2 (fun g => ?_) (fun g => ?_)
          · refine ⟨_, rfl, D, _, rfl, .inl (SqL.of (keep2 kz3).1), _, _, rfl, rfl, _, rfl, ite2 (fun g4 => ?_) (fun g4 => ?_)⟩
            · have lt : (v0 :: xs0).length < 40 := by have := of_decide_eq_true g4; omega
              exact ⟨_, rfl, .inl ⟨rfl, _, SqL.of (keep2 kz3).1⟩, _, rfl, D, _, _, rfl, rfl, (keep2 kz3).1, Nat.lt_of_lt_of_le lt (by decide), app G3 kz3 g3 lt⟩
            · exact ⟨_, _, _, _, _, rfl, (keep2 kz3).1, (keep2 kz3).2.1, sh, li, gk2.trans kz3, g3⟩
          · refine ⟨_, rfl, _, rfl, _, rfl, _, rfl, D, _, rfl, .inl (SqL.of (keep2 kz3).1), p, l, _, rfl, g3, by show (0 : Int) < ((xs0.length + 1 : Nat) : Int); omega, Nat.lt_of_le_of_lt (show (((v0 :: xs0).length : Nat) : Int).natAbs ≤ 40 by omega) (by decide +kernel), fun jd G4 j0 j1 k4 g4 => ?_⟩
            obtain ⟨j, rfl⟩ := Int.eq_ofNat_of_zero_le j0
            have kz4 := kz3.trans k4
            refine ⟨D, _, (j : Int), j, rfl, rfl, (keep2 kz4).1, ?_, fin G4 _ _ kz4 g4 (DtAll.set (keep2 kz4).2.2 j (keep2 kz4).2.1) (sh_set sw sh j) (by rw [List.length_set]; exact li)⟩
            unfold ixN
            rw [if_pos (by omega), if_pos (by omega), Int.toNat_natCast]
    · rintro σ G ⟨x4, x5, x6, xs, ds, rfl, gD, dt, sh, li, gk, gh⟩
      refine ⟨_, rfl, p, l, 2, rfl, gh, by decide, by decide +kernel, fun c G1 c0 c1 k1 g1 => ⟨rfl, _, rfl, ?_⟩⟩
      have gD1 := k1 _ _ Dp gD
      have dt1 : DtAll (Off p D) G1 xs ds := dt.to (fun _ z => z) fun a o s e => k1 _ _ s.1 e
      refine ite2 (fun g => ?_) (fun g => ?_)
      · obtain ⟨r1, r2⟩ := row_list gD1 dt1.any sh (by omega)
        exact ⟨_, rfl, q G1 _ xs true _ (gk.trans k1) g1 r1 r2⟩
      · refine ⟨_, rfl, D, _, rfl, .inl ⟨SqL.of gD1, fun T nT => ?_⟩⟩
        have sT := same_upd (o := .tup xs) nT
        obtain ⟨r1, r2⟩ := row_tup (H := upd G1 T (.tup xs)) upd_same (dt1.any.same sT) sh (by omega)
        exact q _ _ xs true _ ((gk.trans k1).trans (Kept.same sT)) (g1.same sT) r1 r2
end
end K25

/-! the pattern of some places is right -/
namespace K25
open PySem PySem.Spec PyProof.Rows L2 LamX TaX GrdX StX
abbrev tLenA (K : PySem.W.Frag) (i : Nat) : TE := tCB (fun xs H Q => ∃ p ys, xs = [V.ref p] ∧ (SqL K H p ys ∨ SqT K H p ys) ∧ Q (.int ys.length) H) (tCons (tVar i) tNil)
/-- the places that are wrong, from i on -/
def wr (n i : Nat) : List V → List Nat
  | [] => []
  | x :: xs => if placeV n x = true then wr n (i + 1) xs else i :: wr n (i + 1) xs
theorem wr_bad {n : Nat} : ∀ {xs : List V} {i : Nat}, plBad n i xs = (wr n i xs).head?.map fun k => (k, ("place" : Str))
  | [], _ => rfl
  | x :: xs, i => by
    show (if placeV n x = true then plBad n (i + 1) xs else some (i, ("place" : Str))) = (if placeV n x = true then wr n (i + 1) xs else i :: wr n (i + 1) xs).head?.map fun k => (k, ("place" : Str))
    split
    · exact wr_bad
    · rfl
theorem wr_snoc {n : Nat} {v : V} : ∀ {xs : List V} {i : Nat}, wr n i (xs ++ [v]) = wr n i xs ++ (if placeV n v = true then [] else [i + xs.length])
  | [], i => by
    show (if placeV n v = true then [] else [i]) = [] ++ (if placeV n v = true then [] else [i + 0])
    rw [List.nil_append, Nat.add_zero]
  | x :: xs, i => by
    show (if placeV n x = true then wr n (i + 1) (xs ++ [v]) else i :: wr n (i + 1) (xs ++ [v])) = (if placeV n x = true then wr n (i + 1) xs else i :: wr n (i + 1) xs) ++ _
    rw [wr_snoc (xs := xs) (i := i + 1), show i + 1 + xs.length = i + (x :: xs).length by rw [List.length_cons]; omega]
    split
    · rfl
    · rfl
theorem wr_len {n : Nat} : ∀ {xs : List V} {i : Nat}, (wr n i xs).length ≤ xs.length
  | [], _ => Nat.le_refl _
  | x :: xs, i => by
    show (if placeV n x = true then wr n (i + 1) xs else i :: wr n (i + 1) xs).length ≤ xs.length + 1
    have z := wr_len (n := n) (xs := xs) (i := i + 1)
    split
    · omega
    · show (wr n (i + 1) xs).length + 1 ≤ _
      omega
theorem ScL.mem : ∀ {xs : List V} {ds : List PyData}, ScL xs ds → ∀ x ∈ xs, ∃ d, Sc x d
  | _, _, .nil, _, h => by cases h
  | _, _, .cons a b, x, h => by
    rcases List.mem_cons.mp h with rfl | h
    · exact ⟨_, a⟩
    · exact ScL.mem b x h
theorem shaped_natl (ns : List Nat) : SeqAt.shaped (.list (ns.map fun n : Nat => PyData.int (n : Int))) = true :=
  shaped_of (lay_all fun d hd => by obtain ⟨o, _, rfl⟩ := List.mem_map.mp hd; rfl) (by
    show PyData.depthAll (ns.map fun n : Nat => PyData.int (n : Int)) + 1 ≤ 64
    have : PyData.depthAll (ns.map fun n : Nat => PyData.int (n : Int)) ≤ 8 := dep_all fun d hd => by obtain ⟨o, _, rfl⟩ := List.mem_map.mp hd; exact Nat.zero_le _
    omega)
theorem mT_chain {r r' : R2} {a b c : TE} (mr : MonoR r) (mr' : MonoR r') (ha : MonoE a) (hb : MonoE b) (hc : MonoE c) : MonoT (tTest (tChain r r' a b c)) := fun _ _ _ _ h q => ha _ _ _ _ (fun _ _ q1 => hb _ _ _ _ (fun _ _ q2 => mr _ _ _ _ _ (fun _ _ ⟨k, e, q3⟩ => ⟨k, e, by
  cases k with
  | true => exact iteT (hc _ _ _ _ (fun _ _ q4 => mr' _ _ _ _ _ (fun _ _ ⟨k, e, q⟩ => ⟨k, e, h _ _ q⟩) q4) (of_iteT q3))
  | false =>
    obtain ⟨k, e, q⟩ := of_iteF q3
    exact iteF ⟨k, e, h _ _ q⟩⟩) q2) q1) q
theorem mR_I {g : Int → Int → V} : MonoR (rI0 g) := fun _ _ _ _ _ h ⟨i, j, e1, e2, q⟩ => ⟨i, j, e1, e2, h _ _ q⟩
theorem mE_lenA {K : PySem.W.Frag} {i : Nat} : MonoE (tLenA K i) := fun _ _ _ _ h ⟨v, e, p, ys, e1, e2, q⟩ => ⟨v, e, p, ys, e1, e2, h _ _ q⟩
def spNumI : Sp := fun vs H Q _ => ∃ (a : Addr) (l : List (Option Nat)), vs = [.ref a] ∧ H a = some (.lst (vals l)) ∧ l.length ≤ 64 ∧ ∀ (H' : Hp) (z : Addr), Same H H' → H z = none → H' z = some (.lst (vals (num l))) → Q (.ref z) H'
def spPrt (CP : Addr) : Sp := fun vs H Q _ => ∃ (x a z : Addr) (p : List (Option Nat)) (xs : List V) (ds : List PyData), vs = [.ref x, .ref a, .ref z] ∧ PatAt CP H x p ∧ H a = some (.lst (vals p)) ∧ H z = some (.lst xs) ∧ ScL xs ds ∧ xs.length ≤ 40 ∧ ∀ H', Same H H' → Q (.bl true) H'
section
variable {P : Program} {w : World} {K : PySem.W.Frag} {mg : Str → Option Value} {base : Heap}
theorem Df.numI {f : Addr} {fd : FuncData} (d : Df P w K mg base "_law_numbers" 1 ["_law_things"] (spNums fun n : Nat => PyData.int (n : Int)) f fd) : Df P w K mg base "_law_numbers" 1 ["_law_things"] spNumI f fd :=
  ⟨d.gl, d.ok.imp fun vs H Q E ⟨a, l, e, ha, hl, q⟩ => ⟨a, vals l, l, e, ha, len_vals _, fun i v o e1 e2 => by
    rw [vals_get, e2] at e1
    cases e1
    cases o with
    | none => rfl
    | some x => exact .int _, hl, q⟩, d.bi, d.kp⟩
theorem ok_prt {f fAP fWh fNu CP CB : Addr} {fd fdAP fdWh fdNu : FuncData} (F : FnP K "_law_part_right" sPartRight f fd) (T : PatC K CP) (z_len : mg "len" = none) (z_enumerate : mg "enumerate" = none) (z_list : mg "list" = none) (z_repr : mg "repr" = none) (N : Er2 K mg "BadPlaces" CB) (mAP : MethM P w K mg base CP "at_places" 5 ["self", "places"] (spAP CP CB) fAP fdAP)
    (dWh : Df P w K mg base "_law_whole" 1 ["_law_thing"] spWh fWh fdWh) (dNu : Df P w K mg base "_law_numbers" 1 ["_law_things"] spNumI fNu fdNu) : FnG P w K mg base CX0 6 f fd ["_law_pattern", "_law_entries_here", "_law_places_here"] (spPrt CP) := by
  have sc : FnScope ["_law_pattern", "_law_entries_here", "_law_places_here", "_law_wrong", "_law_at", "_law_place", "_law_kept", "_law_found", "_law_part", "e"] ["_law_pattern", "_law_entries_here", "_law_places_here"] (defScope sPartRight) := ⟨rfl, rfl, rfl, by decide +kernel, rfl, by decide +kernel, by decide +kernel⟩
  refine okG F sc (fun vs H Q E h => ?_) (fun cdv A outer s H vs Q E hr hG h => ?_)
  · obtain ⟨x, a, z, p, xs, ds, rfl, _⟩ := h
    rfl
  · obtain ⟨x, a, z, p, xs, ds, rfl, hx, ha, hz, sl, lx, q⟩ := h
    have hr5 := hr
    have hr1 := hr.mono (show 1 ≤ 5 by decide)
    refine ⟨_, PSs.nox (pss_cons (ps_setLc (i := 3) (own := [("_law_at", 4), ("_law_place", 5)]) (g := gTup K 2 (gCons (gName 4) (gCons (gName 5) gNil))) (tt := tNot (tAnd (tB (tCall spWh [] E0 (tCons (tVar 5) tNil))) (tTest (tChain (rI0 fun i j => V.bl (decide (i ≤ j))) (rI0 fun i j => V.bl (decide (i < j))) (tC (V.int 0)) (tVar 5) (tLenA K 1))))) rfl sc.nd rfl rfl (sw_true rfl rfl rfl (by decide +kernel)) (pi_enum (by rfl) z_enumerate (pa_cons (pv 2) pa_nil)) (blkOk_by (N := ["_law_pattern", "_law_entries_here", "_law_places_here", "_law_wrong", "_law_at", "_law_place", "_law_kept", "_law_found", "_law_part", "e"]) (sc := defScope sPartRight) (by decide +kernel)) (fun _ _ _ _ _ => pg_tup (by rfl) (pgs_cons (pg_name (i := 4) sc.nd rfl (Or.inl rfl)) (pgs_cons (pg_name (i := 5) sc.nd rfl (Or.inl rfl)) pgs_nil))) (fun _ _ _ _ _ => pts_one (pt_not (PW.pt (pw_and (pt_val (pe_call dWh.ok hr1 (by rfl) dWh.gl dWh.kp dWh.bi .nil pass0 (pa_cons (pv 5) pa_nil))) (pw_and1 (pt_chain op_le op_lt pe_int (pv 5) (pe_callB call_len_seq (by rfl) z_len boot_len (pa_cons (pv 1) pa_nil)))))))) (fun _ _ _ _ _ => (pv 4)))
    (pss_cons (ps_set (i := 6) sc.nd rfl (.inl rfl) (pe_callB (call_reprA hr hG) (by rfl) z_repr boot_repr (pa_cons (pv 2) pa_nil)))
    (pss_cons (ps_asg (pe_tup (pa_cons pe_non (pa_cons pe_non pa_nil))) (pg_tup (by rfl) (pgs_cons (pg_name (i := 7) sc.nd rfl (.inl rfl)) (pgs_cons (pg_name (i := 8) sc.nd rfl (.inl rfl)) pgs_nil))))
    (pss_cons (ps_try_cls (l := [⟨.ref CB, 9, fun a cls d => tAsg (tTup (tCons (tXf a cls d CB "index" (tVar 9)) (tCons (tXf a cls d CB "what" (tVar 9)) tNil))) (gName 7)⟩])
        (tb := fun W => tAsg (tMethE CP "at_places" (spAP CP CB) (fun σ => WE W σ) (tVar 0) (tCons (tVar 2) tNil)) (gName 8))
        (Wout := fun _ _ _ _ => False) rfl rfl sc.nd L2.takes0
        (fun W pn xe tk _ => pss_one (ps_set (i := 8) sc.nd rfl (.inl rfl) (pe_methE (pv 0) T.cl mAP.mt (FnOk.r mAP.ok mAP.bi) hr5 (fun σ => passAt tk σ) (pa_cons (pv 2) pa_nil))))
        (.cons ⟨rfl, by decide, .inl N.g⟩ rfl rfl (fun a oe cls d pn hz hf => by
          show PSs _ _ (tAsg (tTup (tCons (tXf a cls d CB "index" (tVar 9)) (tCons (tXf a cls d CB "what" (tVar 9)) tNil))) (gName 7))
          exact pss_one (ps_set (i := 7) sc.nd rfl (.inl rfl) (pe_tup (pa_cons (pe_xf N.x N.nI hz hf (pv 9)) (pa_cons (pe_xf N.x N.nW hz hf (pv 9)) pa_nil))))) .nil))
    (pss_cons (ps_if (pt_cmpR op_ne (pe_callB (call_reprA hr hG) (by rfl) z_repr boot_repr (pa_cons (pv 2) pa_nil)) (pv 6) (nomark _))
      (pss_one (ps_ret pe_bl))
      pss_nil)
    (pss_cons (ps_if (pt_cmpR (op_neD hr.units) (pv 3) (pe_lst pa_nil) (nomark _))
      (pss_one (ps_ret (pe_and (pe_cmpR op_isN (pv 8) pe_non (nomark _)) (pe_one (pe_cmpR (op_eqD hr.units) (pv 7) (pe_tup (pa_cons (pe_ix ix_list (pv 3) pe_int (fun _ _ => rfl)) (pa_cons pe_str pa_nil))) (nomark _))))))
      pss_nil)
    (pss_one (ps_ret (pe_and (pe_cmpR op_notN (pv 8) pe_non (nomark _)) (pe_one (pe_cmpR (op_eqD hr.units) (pe_callTy call_list_of (by rfl) z_list (by decide +kernel) (pa_cons (pe_fld (pv 8) rfl) pa_nil)) (pe_call dNu.ok hr1 (by rfl) dNu.gl dNu.kp dNu.bi .nil pass0 (pa_cons (pe_lc (own := [("_law_place", 5)]) (g := gName 5) (tt := tYes) (te := tOp (rIxL K) (tVar 1) (tVar 5)) rfl sc.nd (pi_list (pv 2)) (blkOk_by (N := ["_law_pattern", "_law_entries_here", "_law_places_here", "_law_wrong", "_law_at", "_law_place", "_law_kept", "_law_found", "_law_part", "e"]) (sc := defScope sPartRight) (by decide +kernel)) (fun _ _ _ _ _ => pg_name (i := 5) sc.nd rfl (Or.inl rfl)) (fun _ _ _ _ _ => pts_nil) (fun _ _ _ _ _ => (pe_ix ix_list (pv 1) (pv 5) (fun _ _ => rfl)))) pa_nil)) (nomark _)))))))))))), ?_⟩
    obtain ⟨dx, tx, c, ex, etx, lp, ec⟩ := id hx
    have lv : (vals p).length = p.length := len_vals p
    refine seq_asgN ⟨_, rfl, z, _, rfl, SqL.of hz, fun D nD => lc_E (K := K) walk_enum (fun i acc _ => acc = natL (wr p.length 0 (xs.take i))) ⟨fun _ _ _ _ _ r _ _ => r, fun i acc _ r => by rw [r, List.length_map]; exact Nat.le_trans wr_len (List.length_take_le _ _)⟩ nD (Nat.lt_of_le_of_lt lx (by decide)) rfl (fun H' s' => SqL.of (s' _ _ hz)) (fun _ _ => rfl) ?_ ?_ mE_var ?_⟩
    · rintro i v acc H' ev s' eD rfl
      obtain ⟨d, sv⟩ := sl.mem v (List.mem_of_getElem? ev)
      have ov : ∃ t, Odd H' v t := ⟨_, (sv.dt (S := Any) (H := H')).odd⟩
      obtain ⟨t, ov⟩ := ov
      have fin : ∀ b : Bool, placeV p.length v = b → Same H' H' ∧ if (!b) = true then ∃ y, some (some (V.int (i : Int))) = some (some y) ∧ Same H' H' ∧ natL (wr p.length 0 (xs.take i)) ++ [y] = natL (wr p.length 0 (xs.take (i + 1))) else natL (wr p.length 0 (xs.take i)) = natL (wr p.length 0 (xs.take (i + 1))) := fun b e => by
        refine ⟨Same.refl _, ?_⟩
        have il : i < xs.length := (List.getElem?_eq_some_iff.mp ev).1
        have lt : (xs.take i).length = i := by rw [List.length_take, Nat.min_eq_left (Nat.le_of_lt il)]
        rw [take_snoc' ev, wr_snoc, e, Nat.zero_add, lt]
        cases b with
        | true => exact iteF (by rw [if_pos rfl, List.append_nil])
        | false => exact iteT ⟨_, rfl, Same.refl _, (List.map_append (f := fun n : Nat => V.int (n : Int)) (l₁ := wr p.length 0 (xs.take i)) (l₂ := [i])).symm⟩
      refine ⟨_, rfl, v, t, rfl, ov, _, rfl, ?_⟩
      cases sv with
      | non => exact iteF (fin false rfl)
      | bl b => exact iteF (fin false rfl)
      | zero => exact iteF (fin false rfl)
      | int j hj =>
        have fin : ∀ b : Bool, (decide ((0 : Int) ≤ j) && decide (j ≤ (p.length : Int) - 1)) = b → _ := fin
        refine iteT ⟨_, rfl, _, _, rfl, rfl, _, rfl, ?_⟩
        by_cases h0 : 0 ≤ j
        · rw [decide_eq_true h0] at fin ⊢
          refine iteT ⟨_, rfl, a, _, rfl, .inl (SqL.of (s' _ _ ha)), _, _, rfl, rfl, _, rfl, ?_⟩
          rw [lv]
          exact fin _ ((Bool.true_and _).trans (decide_eq_decide.mpr ⟨fun z => by omega, fun z => by omega⟩))
        · rw [decide_eq_false h0] at fin ⊢
          exact iteF ⟨_, rfl, fin false rfl⟩
    · exact mT_not (mT_and (mT_b (mE_wh (mA_cons mE_var mA_nil))) (mT_chain mR_I mR_I mE_c mE_var mE_lenA))
    · rintro H1 acc s1 eD rfl
      rw [List.take_of_length_le (Nat.le_refl _)] at eD
      generalize hw : wr p.length 0 xs = ws at eD
      dsimp only
      refine state_eq (σ' := [some (.ref x), some (.ref a), some (.ref z), some (.ref D), none, none, none, none, none, none]) rfl ?_
      have hz1 := s1 _ _ hz
      have ha1 := s1 _ _ ha
      have ex1 := s1 _ _ ex
      have hx1 := hx.sm s1
      have rp : ∀ {G : Hp}, Same H1 G → RpA G (.ref z) (PyData.list ds).shown := fun g => rp_list (.lst trivial (g _ _ hz1) sl.dt) (by rw [← sl.len]; omega) sl.sh
      refine seq_asgN ⟨_, rfl, _, _, rfl, rp (Same.refl _), ?_⟩
      dsimp only
      refine ⟨(by show 2 ≤ sizeLine; decide), fun T0 n0 => ⟨T0, _, rfl, .inl (.inl upd_same), rfl, _, _, rfl, _, _, rfl, rfl, ?_⟩⟩
      have s2 := same_upd (o := .tup [.non, .non]) n0
      generalize upd H1 T0 (.tup [.non, .non]) = H2 at s2 ⊢
      dsimp only
      have hz2 := s2 _ _ hz1
      have ha2 := s2 _ _ ha1
      have hx2 := hx1.sm s2
      have eD2 := s2 _ _ eD
      have s12 := s1.trans s2
      obtain ⟨dx2, tx2, c2, ex2, _⟩ := id hx2
      have dW : ∀ {G : Hp}, Same H2 G → Dp K G (.ref D) (.list (ws.map fun n : Nat => PyData.int (n : Int))) := fun g => (Dt.lst (S := Any) trivial (g _ _ eD2) (dt_nats ws)).dp
      have bad := wr_bad (n := p.length) (xs := xs) (i := 0)
      rw [hw] at bad
      have epf : pf p.length xs true = plBad p.length 0 xs := if_pos ⟨rfl, lx⟩
      refine ⟨_, rfl, x, dx2, _, rfl, ex2, rfl, _, rfl, x, _, xs, true, p, rfl, hx2, .seq (.inl hz2) (by omega) (fun v hv => by
        obtain ⟨d, sv⟩ := sl.mem v hv
        exact ⟨_, (sv.dt (S := Any) (H := H2)).odd⟩), fun i z e H' d nd ed s3 => ?_, fun is e e2 hi H' y s3 hy => ?_⟩
      · rw [epf, bad] at e
        cases hws : ws with
        | nil => rw [hws] at e; cases e
        | cons i0 ws0 =>
        rw [hws] at e
        cases e
        refine ⟨true, N.ee, fun _ a na => ?_, fun z => by cases z⟩
        refine ⟨_, rfl, rfl, rfl, d, _, _, rfl, ed, rfl, _, rfl, rfl, rfl, d, _, _, rfl, ed, rfl, (by show 2 ≤ sizeLine; decide), fun U nU => ?_⟩
        have sU := same_upd (o := .tup [.int (i : Int), .str ("place" : Str)]) nU
        have s4 := s3.trans sU
        refine ⟨_, rfl, _, _, rfl, rp (s2.trans s4), _, rfl, rfl, _, rfl, ?_⟩
        rw [decide_eq_true rfl]
        refine iteF ⟨_, rfl, Nat.zero_le _, fun L nL => ?_⟩
        have sL := same_upd (o := .lst []) nL
        refine ⟨_, _, dW (s4.trans sL), (Dt.lst (S := Any) trivial upd_same .nil).dp, shaped_natl _, by rfl, _, rfl, ?_⟩
        rw [hws]
        refine iteT ⟨_, rfl, rfl, _, rfl, iteT ⟨_, rfl, _, rfl, D, _, 0, _, rfl, rfl, SqL.of ((s4.trans sL) _ _ eD2), by rw [hws]; exact atI_nat (j := 0) rfl, (by show 2 ≤ sizeLine; decide), fun U2 n2 => ?_⟩⟩
        have s6 := same_upd (o := .tup [.int (i : Int), .str ("place" : Str)]) n2
        have d2 : ∀ {G : Hp} {y : Addr}, G y = some (.tup [.int (i : Int), .str ("place" : Str)]) → Dt Any G (.ref y) (.tuple [.int (i : Int), .str ("place" : Str)]) := fun e => .tup trivial e (.cons (.int _) (.cons (.str _ (by show 5 ≤ 1000; decide) (by decide +kernel)) .nil))
        have da := d2 ((sL.trans s6) _ _ (upd_same (H := H') (a := U) (o := .tup [.int (i : Int), .str ("place" : Str)])))
        refine ⟨_, _, da.dp, (d2 upd_same).dp, shaped_of da.lay (Nat.le_of_ble_eq_true rfl), shaped_of da.lay (Nat.le_of_ble_eq_true rfl), ?_⟩
        rw [SeqAt.eqv_refl _ da.lay]
        exact q _ ((((s12.trans s3).trans sU).trans sL).trans s6)
      · rw [epf, bad] at e
        have hws : ws = [] := by
          cases ws with
          | nil => rfl
          | cons _ _ => cases e
        obtain ⟨dy, ty, cy, ey, ety, ly, _⟩ := hy
        refine ⟨_, rfl, _, _, rfl, rp (s2.trans s3), _, rfl, rfl, _, rfl, ?_⟩
        rw [decide_eq_true rfl]
        refine iteF ⟨_, rfl, Nat.zero_le _, fun L nL => ?_⟩
        have sL := same_upd (o := .lst []) nL
        refine ⟨_, _, dW (s3.trans sL), (Dt.lst (S := Any) trivial upd_same .nil).dp, shaped_natl _, by rfl, _, rfl, ?_⟩
        rw [hws]
        have s4 := s3.trans sL
        refine iteF ⟨_, rfl, rfl, _, rfl, iteT ⟨_, rfl, y, CP, dy, _, _, rfl, sL _ _ ey, T.cl, T.nE, rfl, ty, _, rfl, .inr (SqT.of (sL _ _ ety)), fun M nM => ?_⟩⟩
        have sM := same_upd (o := .lst (vals (num (ledL p is)))) nM
        have s5 := s4.trans sM
        have hz5 := s5 _ _ hz2
        have ha5 := s5 _ _ ha2
        have ll : (ledL p is).length = is.length := List.length_map ..
        have ln : xs.length = is.length := by rw [e2]; exact List.length_map ..
        refine ⟨_, rfl, z, rfl, ⟨_, SqL.of hz5⟩, fun D3 nD3 => lc_N walk_list (fun i acc _ => acc = vals ((ledL p is).take i)) ⟨fun _ _ _ _ _ r _ _ => r, fun i acc _ r => by rw [r, len_vals]; exact List.length_take_le _ _⟩ nD3 (Nat.lt_of_le_of_lt lx (by decide)) rfl (fun H' s' => SqL.of (s' _ _ hz5)) (fun _ => rfl) ?_ mT_yes (mE_op mR_ixL mE_var mE_var) ?_⟩
        · rintro i v acc H' ev s' eD rfl
          rw [e2] at ev
          obtain ⟨j, ej, rfl⟩ := Option.map_eq_some_iff.mp ((List.getElem?_map ..).symm.trans ev)
          have hj := hi j (List.mem_of_getElem? ej)
          have ee : (ledL p is)[i]? = some (p.getD j none) := by unfold ledL; rw [List.getElem?_map, ej]; rfl
          refine ⟨Same.refl _, iteT ⟨_, rfl, _, rfl, a, _, (j : Int), _, rfl, rfl, SqL.of (s' _ _ ha5), atI_nat (getD_at hj), Same.refl _, ?_⟩⟩
          rw [take_snoc' ee, vals_app]
          rfl
        · rintro G acc g eD3 rfl
          rw [List.take_of_length_le (by rw [ll, ln]; exact Nat.le_refl _)] at eD3
          refine ⟨D3, ledL p is, rfl, eD3, by rw [ll]; omega, fun G2 z2 g2 nz2 ez2 => ?_⟩
          have d1 := Dt.lst (S := Any) trivial ((g.trans g2) _ _ (upd_same (H := upd H' L (.lst [])) (a := M) (o := .lst (vals (num (ledL p is)))))) (dt_vals _)
          refine ⟨_, _, d1.dp, (Dt.lst (S := Any) trivial ez2 (dt_vals _)).dp, shaped_vals _, shaped_vals _, ?_⟩
          rw [SeqAt.eqv_refl _ d1.lay]
          exact q _ (((s12.trans s5).trans g).trans g2)
end
end K25

/-! odd places and classes -/
namespace K25
open PySem PySem.Spec PyProof.Rows L2 LamX TaX GrdX
abbrev qOp : Str := "_law_odd_places.<locals>.<lambda>"
/-- kept, but for the hand and the tables -/
def KeptT (p : Addr) (H H' : Hp) : Prop := ∀ b o, b ≠ p → H b = some o → (∀ ps, o ≠ .tbl ps) → H' b = some o
theorem KeptT.trans {p : Addr} {H H1 H2 : Hp} (a : KeptT p H H1) (b : KeptT p H1 H2) : KeptT p H H2 := fun c o n e t => b c o n (a c o n e t) t
theorem KeptT.ext {p : Addr} {H H1 : Hp} (e : ExtN H H1) : KeptT p H H1 := fun c o n h t => e c o h t
theorem KeptT.kept {p : Addr} {H H1 : Hp} (k : Kept p H H1) : KeptT p H H1 := fun c o n h _ => k c o n h
theorem hand_lst {p l : Addr} {H : Hp} (h : Hand p l H) : ∃ xs, H p = some (.lst xs) := by
  obtain ⟨cells, i, r, t, h1, _⟩ := h
  exact ⟨_, h1⟩
theorem tabs_kept {T : List (Addr × Str)} {H H' : Hp} {p l : Addr} (h : Tabs T H) (hp : Hand p l H) (k : Kept p H H') : Tabs T H' := fun t ht => by
  obtain ⟨xs, e⟩ := hand_lst hp
  obtain ⟨ps, h1, h2, h3⟩ := h t ht
  refine ⟨ps, k _ _ (fun z => by rw [z, e] at h1; cases h1) h1, h2, fun pos cv hc => ?_⟩
  obtain ⟨c, e1, e2⟩ := h3 pos cv hc
  exact ⟨c, e1, k _ _ (fun z => by rw [z, e] at e2; unfold CodeO at e2; cases e2) e2⟩
theorem hand_ext {p l : Addr} {H H' : Hp} (h : Hand p l H) (e : ExtN H H') : Hand p l H' := by
  obtain ⟨cells, i, r, t, h1, h2, h3⟩ := h
  exact ⟨cells, i, r, t, e _ _ h1 (fun ps z => by unfold handO at z; cases z), e _ _ h2 (fun ps z => by cases z), h3⟩
theorem pat_ext {CP x : Addr} {y : List (Option Nat)} {H H' : Hp} (h : PatAt CP H x y) (e : ExtN H H') : PatAt CP H' x y := by
  obtain ⟨dx, t, c, h1, h2, h3⟩ := h
  exact ⟨dx, t, c, e _ _ h1 (fun ps z => by cases z), e _ _ h2 (fun ps z => by cases z), h3⟩
theorem pat_keptT {CP x p l : Addr} {y : List (Option Nat)} {H H' : Hp} (h : PatAt CP H x y) (hp : Hand p l H) (k : KeptT p H H') : PatAt CP H' x y := by
  obtain ⟨xs, e⟩ := hand_lst hp
  obtain ⟨dx, t, c, h1, h2, h3⟩ := h
  exact ⟨dx, t, c, k _ _ (fun z => by rw [z, e] at h1; cases h1) h1 (fun ps z => by cases z), k _ _ (fun z => by rw [z, e] at h2; cases h2) h2 (fun ps z => by cases z), h3⟩
theorem pat_kept {CP x p l : Addr} {y : List (Option Nat)} {H H' : Hp} (h : PatAt CP H x y) (hp : Hand p l H) (k : Kept p H H') : PatAt CP H' x y := pat_keptT h hp (.kept k)
theorem pl_err {CB CC : Addr} {i : Nat} {z : Str} {H1 : Hp} {Q : VK} {tl : XK → Hp → VK → Prop} (h : ∀ (E : XK) (R : VK), Fails CB H1 E i z → tl E H1 R) (q : ∀ (H2 : Hp) (T : Addr), Same H1 H2 → H2 T = some (.tup [.int (i : Int), .str z]) → Q (.ref T) H2) : TPe CB CC tl H1 Q :=
  h _ _ fun H' d nd hd s' => .inl ⟨rfl, d, _, .int (i : Int), .str z, rfl, hd, rfl, rfl, fun U nU => q _ U (s'.trans (same_upd nU)) upd_same⟩
theorem cl_err {CB CC : Addr} {v : V} {H1 : Hp} {Q : VK} {tl : XK → Hp → VK → Prop} (h : ∀ (E : XK) (R : VK), FailsC CC H1 E v → tl E H1 R) (q : ∀ (H2 : Hp) (T : Addr), Same H1 H2 → H2 T = some (.tup [v]) → Q (.ref T) H2) : TPe CB CC tl H1 Q :=
  h _ _ fun H' d nd hd s' => .inr ⟨rfl, d, _, v, rfl, hd, rfl, fun U nU => q _ U (s'.trans (same_upd nU)) upd_same⟩
theorem pl_dt {H : Hp} {U : Addr} {i : Nat} {z : Str} (hz : z.length ≤ 1000) (cz : (PyData.str z).canLay0 = true) (hU : H U = some (.tup [.int (i : Int), .str z])) : Dt Any H (.ref U) (.tuple [.int (i : Int), .str z]) := .tup trivial hU (.cons (.int _) (.cons (.str z hz cz) .nil))
/-- place_error(...) != (i, z) does not hold -/
theorem ne_pl {K : PySem.W.Frag} {TL : List (Addr × Str)} {CB CC : Addr} {z : Str} {i : Nat} {t : XK → TE} {σ : L2.St} {H : Hp} {Q : Bool → Hp → Prop} (hz : z.length ≤ 1000) (cz : (PyData.str z).canLay0 = true) (hT : Tabs TL H)
    (h : ∀ (H2 : Hp) (E : XK) (R : VK), ExtN H H2 → Fails CB H2 E i z → t E σ H2 R) (g : ∀ H', ExtN H H' → Tabs TL H' → Q false H') :
    tTest (tOp (rNeD K) (tLam TL (TPe CB CC) t) (tTup (tCons (tC (.int (i : Int))) (tCons (tC (.str z)) tNil)))) σ H Q := by
  refine ⟨hT, fun H1 x1 t1 => pl_err (fun E R f => h H1 E R x1 f) fun H3 T s3 dT => ⟨(by show 2 ≤ sizeLine; decide), fun U nU => ?_⟩⟩
  have x3 := x1.trans (ext_same s3)
  have sU := same_upd (o := .tup [.int (i : Int), .str z]) nU
  have d2 := pl_dt (H := upd H3 U (.tup [.int (i : Int), .str z])) hz cz upd_same
  have d1 := pl_dt hz cz (sU _ _ dT)
  have sh := shaped_of d1.lay (Nat.le_of_ble_eq_true rfl)
  refine ⟨_, _, d1.dp, d2.dp, sh, sh, _, rfl, ?_⟩
  rw [SeqAt.eqv_refl _ d1.lay]
  exact g _ (x3.trans (ext_same sU)) (tabs_same t1 (s3.trans sU))
theorem seq_pl {K : PySem.W.Frag} {TL : List (Addr × Str)} {CB CC : Addr} {z : Str} {i : Nat} {t : XK → TE} {a u : TS} {D : Ends} {σ : L2.St} {H : Hp} (hz : z.length ≤ 1000) (cz : (PyData.str z).canLay0 = true) (hT : Tabs TL H)
    (h : ∀ (H2 : Hp) (E : XK) (R : VK), ExtN H H2 → Fails CB H2 E i z → t E σ H2 R) (g : ∀ H', ExtN H H' → Tabs TL H' → u D σ H') :
    tSeq (tIfS (tTest (tOp (rNeD K) (tLam TL (TPe CB CC) t) (tTup (tCons (tC (.int (i : Int))) (tCons (tC (.str z)) tNil))))) a tNext) u D σ H :=
  ne_pl hz cz hT h fun H' x t => iteF (g H' x t)
theorem seq_plN {K : PySem.W.Frag} {TL : List (Addr × Str)} {CB CC : Addr} {z : Str} {i n j : Nat} {t : XK → TE} {a u : TS} {D : Ends} {σ : L2.St} {H : Hp} (ej : σ[j]? = some (some (.int (n : Int)))) (hz : z.length ≤ 1000) (cz : (PyData.str z).canLay0 = true) (hT : Tabs TL H)
    (h : 0 < n → ∀ (H2 : Hp) (E : XK) (R : VK), ExtN H H2 → Fails CB H2 E i z → t E σ H2 R) (g : ∀ H', ExtN H H' → Tabs TL H' → u D σ H') :
    tSeq (tIfS (tAnd (tTest (tOp (rI0 fun i j => V.bl (decide (j < i))) (tVar j) (tC (V.int 0)))) (tTest (tOp (rNeD K) (tLam TL (TPe CB CC) t) (tTup (tCons (tC (.int (i : Int))) (tCons (tC (.str z)) tNil)))))) a tNext) u D σ H := by
  refine ⟨_, ej, _, _, rfl, rfl, _, rfl, ite2 (fun z => ?_) (fun _ => iteF (g _ (ExtN.refl _) hT))⟩
  exact ne_pl hz cz hT (h (by have := of_decide_eq_true z; omega)) fun H' x t => iteF (g H' x t)
theorem Sc.rp {v : V} {d : PyData} (h : Sc v d) : ∃ z : Str, ∀ G : Hp, RpA G v z := by
  cases h with
  | non => exact ⟨_, fun _ => .non⟩
  | bl b => exact ⟨_, fun _ => .bl b⟩
  | zero => exact ⟨_, fun _ => .str _ (by decide +kernel)⟩
  | int i h =>
    refine ⟨_, fun _ => .int i ?_⟩
    by_cases z : i.natAbs = 0
    · rw [z]; decide
    · exact Nat.lt_trans ((Nat.log2_lt z (k := 110)).mpr (Nat.lt_of_le_of_lt h (by decide))) (by decide)
def spOdp (CP : Addr) (TL : List (Addr × Str)) : Sp := fun vs H Q _ => ∃ (p l x : Addr) (y : List (Option Nat)), vs = [.ref p, .ref x, .int (y.length : Int)] ∧ Hand p l H ∧ PatAt CP H x y ∧ Tabs TL H ∧ ∀ H', KeptT p H H' → Tabs TL H' → Hand p l H' → Q (.bl true) H'
section
variable {P : Program} {w : World} {K : PySem.W.Frag} {mg : Str → Option Value} {base : Heap}
theorem ok_odp {f c Tb fT fD fP fCA fAA fAP fPl pG fG CP CB CC : Addr} {fd fdT fdD fdP fdCA fdAA fdAP fdPl fdG : FuncData} (F : FunC K "_law_odd_places" "_law_odd_places" (defArgs sOddPlaces) (defBody sOddPlaces) (defScope sOddPlaces) c f fd) (TB : TabB base mg c Tb) {TL : List (Addr × Str)} (hm : (Tb, qOp) ∈ TL) (hu1 : ∀ p ∈ TL, p.1 = Tb → p.2 = qOp) (T : PatC K CP) (z_repr : mg "repr" = none) (z_len : mg "len" = none)
    (FT : FnP K "_law_place_error" sPlaceError fT fdT) (gT : mg "_law_place_error" = some (.ref fT)) (bT : Binds K fdT ["_law_call"] []) (N : ErP K mg CB CC) (PR : CountP P w K mg base CP pG fG fdG)
    (mCA : MethM P w K mg base CP "class_at" 4 ["self", "place"] (spCA CP CB) fCA fdCA) (mAA : MethM P w K mg base CP "are_alike" 4 ["self", "one", "other"] (spAA CP CB) fAA fdAA) (mAP : MethM P w K mg base CP "at_places" 5 ["self", "places"] (spAP CP CB) fAP fdAP) (mPl : MethM P w K mg base CP "places_of" 3 ["self", "number"] (spPl CP CC) fPl fdPl)
    (dD : Df P w K mg base "_law_draw" 2 ["_law_hand_here", "_law_many"] spDr fD fdD) (dP : Df P w K mg base "_law_pick" 3 ["_law_hand_here", "_law_things"] spPk fP fdP) : FnG P w K mg base CX0 8 f fd ["_law_hand_here", "_law_pattern", "_law_size_here"] (spOdp CP TL) := by
  have sc : FnScope ["_law_hand_here", "_law_pattern", "_law_size_here", "_law_odd", "_law_count", "_law_number", "_law_told"] ["_law_hand_here", "_law_pattern", "_law_size_here"] (defScope sOddPlaces) := ⟨rfl, rfl, rfl, by decide +kernel, rfl, by decide +kernel, by decide +kernel⟩
  refine F.okG sc (fun vs H Q E h => ?_) (fun A outer s H vs Q E hr hG h => ?_)
  · obtain ⟨p, l, x, y, rfl, _⟩ := h
    rfl
  · obtain ⟨p, l, x, y, rfl, hp, hx, tb, q⟩ := h
    have hr3 := hr.mono (show 3 ≤ 7 by decide)
    have hr2 := hr.mono (show 2 ≤ 7 by decide)
    refine ⟨_, PSs.nox (pss_cons (ps_set (i := 3) sc.nd rfl (.inr rfl) (pe_call dP.ok hr3 (by rfl) dP.gl dP.kp dP.bi .nil pass0 (pa_cons (pv 0) (pa_cons (pe_lst (pa_cons (pe_un un_neg pe_int) (pa_cons (pv 2) (pa_cons pe_bl (pa_cons pe_non (pa_cons pe_str (pa_cons (pe_op op_add (pv 2) (pe_op op_pow pe_int pe_int)) pa_nil))))))) pa_nil))))
    (pss_cons (ps_set (i := 4) sc.nd rfl (.inl rfl) (pe_prop (pv 1) T.cl PR.pr PR.ok (hr.mono (show 2 ≤ 7 by decide)) PR.bi .nil pass0 rfl))
    (pss_cons (ps_set (i := 5) sc.nd rfl (.inr rfl) (pe_call dP.ok hr3 (by rfl) dP.gl dP.kp dP.bi .nil pass0 (pa_cons (pv 0) (pa_cons (pe_lst (pa_cons (pe_un un_neg pe_int) (pa_cons (pv 4) (pa_cons pe_bl (pa_cons pe_non (pa_cons (pe_op op_add (pv 4) pe_int) pa_nil)))))) pa_nil))))
    (pss_cons (ps_if (pt_cmpR (op_neD hr.units) (lamcall_pe (q := qOp) FT gT bT N TB hm hu1 hr (fun A outer s H E f c2 hr2 => (pe_methE (pv 1) T.cl mCA.mt (FnOk.r mCA.ok mCA.bi) (hr2.mono (show 4 ≤ 5 by decide)) (fun σ => passAt (takes_of rfl rfl rfl rfl) σ) (pa_cons (pv 3) pa_nil))) (show lamSB (defScope sOddPlaces) _ = true by decide +kernel)) (pe_tup (pa_cons pe_int (pa_cons pe_str pa_nil))) (nomark _))
      (pss_one (ps_ret pe_bl))
      pss_nil)
    (pss_cons (ps_if (pt_cmpR (op_neD hr.units) (lamcall_pe (q := qOp) FT gT bT N TB hm hu1 hr (fun A outer s H E f c2 hr2 => (pe_methE (pv 1) T.cl mAA.mt (FnOk.r mAA.ok mAA.bi) (hr2.mono (show 4 ≤ 5 by decide)) (fun σ => passAt (takes_of rfl rfl rfl rfl) σ) (pa_cons (pv 3) (pa_cons (pe_un un_neg pe_int) pa_nil)))) (show lamSB (defScope sOddPlaces) _ = true by decide +kernel)) (pe_tup (pa_cons pe_int (pa_cons pe_str pa_nil))) (nomark _))
      (pss_one (ps_ret pe_bl))
      pss_nil)
    (pss_cons (ps_if (PW.pt (pw_and (pt_cmpR op_gt (pv 2) pe_int (nomark _)) (pw_and1 (pt_cmpR (op_neD hr.units) (lamcall_pe (q := qOp) FT gT bT N TB hm hu1 hr (fun A outer s H E f c2 hr2 => (pe_methE (pv 1) T.cl mAA.mt (FnOk.r mAA.ok mAA.bi) (hr2.mono (show 4 ≤ 5 by decide)) (fun σ => passAt (takes_of rfl rfl rfl rfl) σ) (pa_cons (pe_op op_sub (pv 2) pe_int) (pa_cons (pv 3) pa_nil)))) (show lamSB (defScope sOddPlaces) _ = true by decide +kernel)) (pe_tup (pa_cons pe_int (pa_cons pe_str pa_nil))) (nomark _)))))
      (pss_one (ps_ret pe_bl))
      pss_nil)
    (pss_cons (ps_if (PW.pt (pw_and (pt_cmpR op_gt (pv 2) pe_int (nomark _)) (pw_and1 (pt_cmpR (op_neD hr.units) (lamcall_pe (q := qOp) FT gT bT N TB hm hu1 hr (fun A outer s H E f c2 hr2 => (pe_methE (pv 1) T.cl mAP.mt (FnOk.r mAP.ok mAP.bi) (hr2.mono (show 5 ≤ 5 by decide)) (fun σ => passAt (takes_of rfl rfl rfl rfl) σ) (pa_cons (pe_op op_rep (pe_lst (pa_cons pe_int pa_nil)) pe_int) pa_nil))) (show lamSB (defScope sOddPlaces) _ = true by decide +kernel)) (pe_tup (pa_cons pe_int (pa_cons pe_str pa_nil))) (nomark _)))))
      (pss_one (ps_ret pe_bl))
      pss_nil)
    (pss_cons (ps_if (pt_cmpR (op_neD hr.units) (lamcall_pe (q := qOp) FT gT bT N TB hm hu1 hr (fun A outer s H E f c2 hr2 => (pe_methE (pv 1) T.cl mAP.mt (FnOk.r mAP.ok mAP.bi) (hr2.mono (show 5 ≤ 5 by decide)) (fun σ => passAt (takes_of rfl rfl rfl rfl) σ) (pa_cons pe_str pa_nil))) (show lamSB (defScope sOddPlaces) _ = true by decide +kernel)) (pe_tup (pa_cons pe_int (pa_cons pe_str pa_nil))) (nomark _))
      (pss_one (ps_ret pe_bl))
      pss_nil)
    (pss_cons (ps_set (i := 6) sc.nd rfl (.inl rfl) (lamcall_pe (q := qOp) FT gT bT N TB hm hu1 hr (fun A outer s H E f c2 hr2 => (pe_methE (pv 1) T.cl mPl.mt (FnOk.r mPl.ok mPl.bi) (hr2.mono (show 3 ≤ 5 by decide)) (fun σ => passAt (takes_of rfl rfl rfl rfl) σ) (pa_cons (pv 5) pa_nil))) (show lamSB (defScope sOddPlaces) _ = true by decide +kernel)))
    (pss_one (ps_ret (pe_and (pe_cmpR op_notN (pv 6) pe_non (nomark _)) (pe_and (pe_cmpR op_eq (pe_callB call_len_seq (by rfl) z_len boot_len (pa_cons (pv 6) pa_nil)) pe_int (nomark _)) (pe_one (pe_cmpR op_eq (pe_callB (call_reprA hr hG) (by rfl) z_repr boot_repr (pa_cons (pe_ix ix_tup (pv 6) pe_int (fun _ _ => rfl)) pa_nil)) (pe_callB (call_reprA hr hG) (by rfl) z_repr boot_repr (pa_cons (pv 5) pa_nil)) (nomark _)))))))))))))))), ?_⟩
    have eN (z : Int) : Sc (.int z) (.int z) → True := fun _ => trivial
    obtain ⟨dx, tx, cc, ex, etx, ly, ec⟩ := id hx
    refine seq_asgN ⟨_, rfl, _, rfl, _, rfl, _, rfl, _, _, rfl, rfl, ⟨by decide, by decide, by decide⟩, _, _, rfl, rfl, (by show 6 ≤ sizeLine; decide), fun L nL => ?_⟩
    rw [e20]
    have sL := same_upd (o := .lst [.int (-1), .int (y.length : Int), .bl true, .non, .str ("0" : Str), .int ((y.length : Int) + 10 ^ 20)]) nL
    refine ⟨p, l, L, _, rfl, hp.same sL, upd_same, hp.nn nL, (by show 0 < 6; decide), (by show 6 ≤ 1000; decide), fun o H2 ho k2 h2 => ?_⟩
    have k02 := (Kept.same (p := p) sL).trans k2
    have t2 := tabs_kept tb hp k02
    have hx2 := pat_kept hx hp k02
    obtain ⟨dO, oo, ob⟩ : ∃ d, Sc o d ∧ placeV y.length o = false := by
      have nf : ∀ z : Int, ¬ (0 ≤ z ∧ z ≤ (y.length : Int) - 1) → placeV y.length (.int z) = false := fun z h => by
        show (decide ((0 : Int) ≤ z) && decide (z ≤ (y.length : Int) - 1)) = false
        rw [Bool.eq_false_iff]
        intro w
        rw [Bool.and_eq_true, decide_eq_true_iff, decide_eq_true_iff] at w
        exact h w
      have z : (10 : Int) ^ 20 = ((10 ^ 20 : Nat) : Int) := by decide
      have z2 : (10 : Nat) ^ 20 + 40 ≤ 10 ^ 32 := by decide
      rcases List.mem_cons.mp ho with rfl | ho
      · exact ⟨_, .int _ (by decide), nf _ (by omega)⟩
      rcases List.mem_cons.mp ho with rfl | ho
      · exact ⟨_, .int _ (by omega), nf _ (by omega)⟩
      rcases List.mem_cons.mp ho with rfl | ho
      · exact ⟨_, .bl _, rfl⟩
      rcases List.mem_cons.mp ho with rfl | ho
      · exact ⟨_, .non, rfl⟩
      rcases List.mem_cons.mp ho with rfl | ho
      · exact ⟨_, .zero, rfl⟩
      rcases List.mem_cons.mp ho with rfl | ho
      · rw [z]
        exact ⟨_, .int _ (by omega), nf _ (by omega)⟩
      cases ho
    clear ho eN
    dsimp only
    obtain ⟨dx2, tx2, c, ex2, etx2, _, ec2⟩ := id hx2
    have cl : c ≤ 40 := by
      have := cnt_top ec2
      omega
    refine seq_asgN ⟨_, rfl, x, dx2, _, rfl, ex2, x, dx2, _, _, rfl, ex2, rfl, ?_⟩
    dsimp only
    refine seq_asgN ⟨_, rfl, _, rfl, _, rfl, _, rfl, _, _, rfl, rfl, (by show 5 ≤ sizeLine; decide), fun M nM => ?_⟩
    have sM := same_upd (o := .lst [.int (-1), .int (c : Int), .bl false, .non, .int ((c : Int) + 7)]) nM
    refine ⟨p, l, M, _, rfl, h2.same sM, upd_same, h2.nn nM, (by show 0 < 5; decide), (by show 5 ≤ 1000; decide), fun m H3 hm3 k3 h3 => ?_⟩
    have k23 := (Kept.same (p := p) sM).trans k3
    have t3 := tabs_kept t2 h2 k23
    have hx3 := pat_kept hx2 h2 k23
    have k03 := k02.trans k23
    obtain ⟨dM, mm, mb⟩ : ∃ d, Sc m d ∧ classV c m = false := by
      have nf : ∀ z : Int, ¬ (0 ≤ z ∧ z ≤ (c : Int) - 1) → classV c (.int z) = false := fun z h => by
        show (decide ((0 : Int) ≤ z) && decide (z ≤ (c : Int) - 1)) = false
        rw [Bool.eq_false_iff]
        intro w
        rw [Bool.and_eq_true, decide_eq_true_iff, decide_eq_true_iff] at w
        exact h w
      have z2 : (47 : Nat) ≤ 10 ^ 32 := by decide
      rcases List.mem_cons.mp hm3 with rfl | hm3
      · exact ⟨_, .int _ (by decide), nf _ (by omega)⟩
      rcases List.mem_cons.mp hm3 with rfl | hm3
      · exact ⟨_, .int _ (by omega), nf _ (by omega)⟩
      rcases List.mem_cons.mp hm3 with rfl | hm3
      · exact ⟨_, .bl _, rfl⟩
      rcases List.mem_cons.mp hm3 with rfl | hm3
      · exact ⟨_, .non, rfl⟩
      rcases List.mem_cons.mp hm3 with rfl | hm3
      · exact ⟨_, .int _ (by omega), nf _ (by omega)⟩
      cases hm3
    clear hm3
    dsimp only
    refine state_eq (σ' := [some (.ref p), some (.ref x), some (.int (y.length : Int)), some o, some (.int (c : Int)), some m, none]) rfl ?_
    have od : ∀ {G : Hp}, ∃ t, Odd G o t := fun {G} => ⟨_, (oo.dt (S := Any) (H := G)).odd⟩
    have om : ∀ {G : Hp}, ∃ t, Odd G m t := fun {G} => ⟨_, (mm.dt (S := Any) (H := G)).odd⟩
    obtain ⟨dx3, tx3, c3, ex3, etx3, _, ec3⟩ := id hx3
    obtain rfl : c3 = c := Option.some.inj (ec3.symm.trans ec2)
    have exE : ∀ {G : Hp}, ExtN H3 G → G x = some (.ins CP dx3 (patO tx3 c3)) := fun e => e _ _ ex3 fun ps z => by cases z
    have pz : ∀ (z : Str), z.length = 5 ∨ z.length = 6 → z.length ≤ 1000 := fun z h => by omega
    refine seq_pl (i := 0) (z := "place") (pz _ (.inl rfl)) (by decide +kernel) t3 (fun G E R e f => ?_) fun H4 x4 t4 => ?_
    · obtain ⟨t, od⟩ := od (G := G)
      refine ⟨_, rfl, x, dx3, _, rfl, exE e, rfl, _, rfl, x, o, t, y, rfl, pat_ext hx3 e, od, fun i hi ev => ?_, fun _ => f⟩
      rw [ev, nat_place hi] at ob
      cases ob
    refine seq_pl (i := 0) (z := "place") (pz _ (.inl rfl)) (by decide +kernel) t4 (fun G E R e f => ?_) fun H5 x5 t5 => ?_
    · obtain ⟨t, od⟩ := od (G := G)
      have e := x4.trans e
      refine ⟨_, rfl, x, dx3, _, rfl, exE e, rfl, _, rfl, _, rfl, x, o, _, t, _, y, rfl, pat_ext hx3 e, od, .int _, fun i j hi hj ev _ => ?_, fun _ => f, fun z => ?_⟩
      · rw [ev, nat_place hi] at ob
        cases ob
      · rw [ob] at z
        cases z
    have x5 := x4.trans x5
    refine seq_plN (i := 1) (z := "place") rfl (pz _ (.inl rfl)) (by decide +kernel) t5 (fun n0 G E R e f => ?_) fun H6 x6 t6 => ?_
    · obtain ⟨t, od⟩ := od (G := G)
      have e := x5.trans e
      have gp : placeV y.length (.int ((y.length : Int) - 1)) = true := by
        have z := nat_place (n := y.length) (i := y.length - 1) (by omega)
        rw [show (((y.length - 1 : Nat)) : Int) = (y.length : Int) - 1 by omega] at z
        exact z
      refine ⟨_, rfl, x, dx3, _, rfl, exE e, rfl, _, rfl, _, _, rfl, rfl, _, rfl, x, _, o, _, t, y, rfl, pat_ext hx3 e, .int _, od, fun i j hi hj _ ev => ?_, fun z => ?_, fun _ _ => f⟩
      · rw [ev, nat_place hj] at ob
        cases ob
      · rw [gp] at z
        cases z
    have x6 := x5.trans x6
    refine seq_plN (i := 0) (z := "places") rfl (pz _ (.inr rfl)) (by decide +kernel) t6 (fun n0 G E R e f => ?_) fun H7 x7 t7 => ?_
    · have e := x6.trans e
      refine ⟨_, rfl, x, dx3, _, rfl, exE e, rfl, (by show 1 ≤ sizeLine; decide), fun Z nZ => ?_⟩
      have sZ := same_upd (o := .lst [.int 0]) nZ
      refine ⟨Z, 41, [.int 0], rfl, rfl, upd_same, by decide, by decide, (by show 1 * 41 ≤ sizeLine; decide), fun M nM => ?_⟩
      have sM := same_upd (o := .lst (List.replicate 41 [V.int 0]).flatten) nM
      refine ⟨x, _, _, true, y, rfl, (pat_ext hx3 e).sm (sZ.trans sM), .seq (.inl upd_same) (by show 41 ≤ 1000; decide) (fun v hv => ?_), fun i z ef => ?_, fun is ef => ?_⟩
      · have hv : v ∈ List.replicate 41 (V.int 0) := hv
        rw [(List.mem_replicate.mp hv).2]
        exact ⟨_, .int _⟩
      · have ef : some ((0 : Nat), ("places" : Str)) = some (i, z) := ef
        cases ef
        exact f.same (sZ.trans sM)
      · have ef : some ((0 : Nat), ("places" : Str)) = none := ef
        cases ef
    have x7 := x6.trans x7
    refine seq_pl (i := 0) (z := "places") (pz _ (.inr rfl)) (by decide +kernel) t7 (fun G E R e f => ?_) fun H8 x8 t8 => ?_
    · have e := x7.trans e
      refine ⟨_, rfl, x, dx3, _, rfl, exE e, rfl, x, _, [], false, y, rfl, pat_ext hx3 e, .bad (.str _ (by show 1 ≤ 1000; decide) (by decide +kernel)) (by decide), fun i z ef => ?_, fun is ef => ?_⟩
      · have ef : some ((0 : Nat), ("places" : Str)) = some (i, z) := ef
        cases ef
        exact f
      · have ef : some ((0 : Nat), ("places" : Str)) = none := ef
        cases ef
    have x8 := x7.trans x8
    refine seq_asgN ⟨t8, fun G e t9 => cl_err (v := m) (fun E R f => ?_) fun G2 T s2 eT => ?_⟩
    · have e := x8.trans e
      obtain ⟨t, om⟩ := om (G := G)
      refine ⟨_, rfl, x, dx3, _, rfl, exE e, rfl, _, rfl, x, m, t, y, _, rfl, pat_ext hx3 e, ec3, om, fun k hk ev => ?_, fun _ => f⟩
      have z : classV c3 (.int (k : Int)) = true := nat_place hk
      rw [ev, z] at mb
      cases mb
    obtain ⟨z, rp⟩ := mm.rp
    refine ⟨_, rfl, rfl, _, rfl, iteT ⟨_, rfl, T, _, rfl, .inr (SqT.of eT), rfl, _, rfl, iteT ⟨_, rfl, T, _, (0 : Int), m, rfl, rfl, SqT.of eT, atI_nat (j := 0) rfl, _, _, rfl, rp _, _, rfl, _, _, rfl, rp _, rfl, ?_⟩⟩⟩
    rw [decide_eq_true rfl]
    have xx := (x8.trans e).trans (ext_same s2)
    exact q _ ((KeptT.kept k03).trans (.ext xx)) (tabs_same t9 s2) (hand_ext h3 xx)
end
end K25

/-! rows of names -/
namespace K25
open PySem PySem.Spec PyProof.Rows L2 LamX TaX GrdX
theorem lc_K {J : It} {xs : List V} {G : Hp → Prop} (w : Walk J xs.length G (YAt xs)) {p l : Addr} {j : Nat} {te : TE} {vs : List Nat} {σ : L2.St} {H1 : Hp} {D : Addr} {Qd : Hp → Prop} (R : Nat → List V → Hp → Prop) (hR : LcR D R) (hp : Hand p l H1) (nD : H1 D = none) (hl : xs.length < sizeLine)
    (h0 : R 0 [] (upd H1 D (.lst []))) (hG : ∀ H', Kept p H1 H' → G H') (hw : ∀ x, wipe ((wipe σ vs).set j (some x)) vs = wipe σ vs)
    (hs : ∀ i x acc H', xs[i]? = some x → Kept p H1 H' → Hand p l H' → H' D = some (.lst acc) → R i acc H' → te ((wipe σ vs).set j (some x)) H' fun y H4 => Kept p H' H4 ∧ Hand p l H4 ∧ R (i + 1) (acc ++ [y]) H4)
    (me : ∀ σ H (Q Q' : VK), (∀ v H', Q v H' → Q' v H') → te σ H Q → te σ H Q')
    (hd : ∀ H' acc, Kept p H1 H' → Hand p l H' → H' D = some (.lst acc) → R xs.length acc H' → Qd H') :
    ∃ W : Nat → Nat → Hp → Prop, (∃ m, W 0 m (upd H1 D (.lst []))) ∧ ∀ i m H, W i m H →
      (J.stop i H ∧ Qd H) ∨ (J.go i H ∧ ∃ Nx : Hp → Prop, (∀ H', Nx H' → ∃ m', m' < m ∧ W (i + 1) m' H') ∧ ∀ x H', J.yld i H x H' → gName j x (wipe σ vs) H' fun σ2 H2 => wipe σ2 vs = wipe σ vs ∧ tYes σ2 H2 fun b H3 =>
        if b = true then te σ2 H3 fun y H4 => ∃ acc, H4 D = some (.lst acc) ∧ acc.length < sizeLine ∧ Nx (upd H4 D (.lst (acc ++ [y]))) else Nx H3) := by
  have nDp : D ≠ p := hp.nn nD
  have nDl : D ≠ l := hp.nl nD
  have up : ∀ {H' : Hp} {o : HO}, Kept p H1 H' → Kept p H1 (upd H' D o) := fun k b u nb e => by
    rw [upd_ne (ne_of_none e nD)]
    exact k b u nb e
  refine lc_it w (fun i H' => Kept p H1 H' ∧ Hand p l H' ∧ ∃ acc, H' D = some (.lst acc) ∧ R i acc H') ⟨Kept.same (same_upd nD), hp.same (same_upd nD), [], upd_same, h0⟩ (fun i H' _ h => hG H' h.1) ?_ (fun H' ⟨k, h, acc, e, r⟩ => hd H' acc k h e r)
  rintro i x H2 H3 hi ⟨k2, h2, acc, eD, r⟩ ⟨rfl, ev⟩
  refine ⟨hw x, ?_⟩
  simp only [tYes, if_true]
  refine me _ _ _ _ ?_ (hs i x acc _ ev k2 h2 eD r)
  rintro y H5 ⟨k5, h5, r5⟩
  have eD5 := k5 _ _ nDp eD
  exact ⟨acc, eD5, Nat.lt_of_le_of_lt (hR.few _ _ _ r) (by omega), up (k2.trans k5), h5.app nDp nDl, acc ++ [y], upd_same, hR.keep _ _ _ _ _ r5 eD5 fun b u nb e => (upd_ne nb).trans e⟩
theorem walk_rangeL (n : Nat) : Walk (Itr 0 n) ((List.range n).map fun i : Nat => V.int (i : Int)).length (fun _ => True) (YAt ((List.range n).map fun i : Nat => V.int (i : Int))) := by
  have w := walk_range (lo := 0) (n := n)
  have e : ((List.range n).map fun i : Nat => V.int (i : Int)).length = n := by rw [List.length_map, List.length_range]
  rw [e]
  refine ⟨w.goes, w.stops, fun i H x H' hi g y => ?_⟩
  obtain ⟨h1, h2⟩ := w.yields i H x H' hi g y
  refine ⟨h1, ?_⟩
  rw [List.getElem?_map, List.getElem?_range hi, h2]
  show some (V.int (i : Int)) = some (V.int (0 + (i : Int)))
  rw [Int.zero_add]
theorem range_at {n i : Nat} {v : V} (e : ((List.range n).map fun i : Nat => V.int (i : Int))[i]? = some v) : i < n ∧ v = .int (i : Int) := by
  have h := (List.getElem?_eq_some_iff.mp e).1
  rw [List.length_map, List.length_range] at h
  rw [List.getElem?_map, List.getElem?_range h] at e
  exact ⟨h, (Option.some.inj e).symm⟩
/-- a name, or none -/
def NmV (v : V) : Prop := ∃ n : Nat, n ≤ 10 ^ 30 ∧ v = .int (n : Int)
theorem badAt_ok : ∀ {l : List (Option Nat)} {i : Nat}, (∀ n, some n ∈ l → n ≤ 10 ^ 30) → badAt i (vals l) = none
  | [], _, _ => rfl
  | o :: l, i, h => by
    show (if optV o = .non ∨ nameV (optV o) = true then badAt (i + 1) (vals l) else some (i, "name")) = none
    rw [if_pos, badAt_ok fun n hn => h n (List.mem_cons_of_mem _ hn)]
    cases o with
    | none => exact .inl rfl
    | some n =>
      refine .inr ?_
      have hn := h n List.mem_cons_self
      show (decide ((0 : Int) ≤ (n : Int)) && decide ((n : Int) ≤ 10 ^ 30)) = true
      have z : (10 : Int) ^ 30 = ((10 ^ 30 : Nat) : Int) := by decide
      rw [z, Bool.and_eq_true, decide_eq_true_iff, decide_eq_true_iff]
      omega
theorem nf_ok {l : List (Option Nat)} (h : ∀ n, some n ∈ l → n ≤ 10 ^ 30) (hl : l.length ≤ 40) : nf (vals l) true = none := by
  unfold nf
  rw [if_pos ⟨rfl, by rw [len_vals]; exact hl⟩]
  exact badAt_ok h
theorem badAt_word : ∀ {xs : List V} {j i : Nat} {z : Str}, badAt j xs = some (i, z) → z = "name"
  | [], _, _, _, h => by cases h
  | x :: xs, j, i, z, h => by
    have h : (if x = .non ∨ nameV x = true then badAt (j + 1) xs else some (j, ("name" : Str))) = some (i, z) := h
    split at h
    · exact badAt_word h
    · cases h
      rfl
theorem nf_word {xs : List V} {b : Bool} {i : Nat} {z : Str} (h : nf xs b = some (i, z)) : z.length ≤ 1000 ∧ (PyData.str z).canLay0 = true := by
  unfold nf at h
  split at h
  · rw [badAt_word h]
    exact ⟨(by show 4 ≤ 1000; decide), by decide +kernel⟩
  · cases h
    exact ⟨(by show 5 ≤ 1000; decide), by decide +kernel⟩
theorem dt_two {H : Hp} {T D : Addr} {l : List (Option Nat)} (hT : H T = some (.tup [.ref D, .non])) (hD : H D = some (.lst (vals l))) : Dt Any H (.ref T) (.tuple [.list (l.map datO), .none]) :=
  .tup trivial hT (.cons (.lst trivial hD (dt_vals l)) (.cons .non .nil))
theorem two_depth (l : List (Option Nat)) : (PyData.tuple [.list (l.map datO), .none]).depth ≤ 64 := by
  show max (PyData.depthAll (l.map datO) + 1) (max 0 0) + 1 ≤ 64
  have : PyData.depthAll (l.map datO) ≤ 8 := dep_all fun d hd => by obtain ⟨o, _, rfl⟩ := List.mem_map.mp hd; cases o <;> exact Nat.zero_le _
  omega
theorem dt_word {H : Hp} {T U : Addr} {i : Nat} {z : Str} (hz : z.length ≤ 1000 ∧ (PyData.str z).canLay0 = true) (hT : H T = some (.tup [.non, .ref U])) (hU : H U = some (.tup [.int (i : Int), .str z])) : Dt Any H (.ref T) (.tuple [.none, .tuple [.int (i : Int), .str z]]) :=
  .tup trivial hT (.cons .non (.cons (pl_dt hz.1 hz.2 hU) .nil))
/-- what is shown of names that keep the rules -/
theorem ts_shown {K : PySem.W.Frag} {σ : L2.St} {H0 : Hp} {N : Addr} {l : List (Option Nat)} {te : TE} {j : Nat} (eN : H0 N = some (.lst (vals l))) (ej : σ[j]? = some (some (.ref N))) (h : ∀ n, some n ∈ l → n ≤ 10 ^ 30) (hl : l.length ≤ 40)
    (hte : ∀ G1, Same H0 G1 → ∀ R : VK, (∀ G2 v, Same G1 G2 → Ns G2 v (vals l) true → R v G2) → te σ G1 R) : Ts H0 (tTest (tOp (rNeD K) (tCall spShown [] E0 (tCons te tNil)) (tTup (tCons (tCall spNumI [] E0 (tCons (tVar j) tNil)) (tCons (tC V.non) tNil))))) σ false := fun G1 g1 R r => hte G1 g1 _ fun G2 v s2 ns => by
  have nf0 := nf_ok h hl
  refine ⟨v, _, true, rfl, ns, fun l2 _ e G3 T D s3 eT eD => ?_, fun i w e => by rw [nf0] at e; cases e⟩
  obtain rfl := vals_inj e
  have s13 := s2.trans s3
  refine ⟨_, ej, N, l, rfl, s13 _ _ (g1 _ _ eN), by omega, fun G4 z s4 nz ez => ⟨(by show 2 ≤ sizeLine; decide), fun U nU => ?_⟩⟩
  have sU := same_upd (o := .tup [.ref z, .non]) nU
  have d1 := dt_two ((s4.trans sU) _ _ eT) ((s4.trans sU) _ _ eD)
  have d2 := dt_two (H := upd G4 U (.tup [.ref z, .non])) upd_same (sU _ _ ez)
  have sh := shaped_of d1.lay (two_depth _)
  refine ⟨_, _, d1.dp, d2.dp, sh, sh, _, rfl, ?_⟩
  rw [SeqAt.eqv_refl _ d1.lay]
  exact r _ ((s13.trans s4).trans sU)
/-- a row that is a list if it keeps the rules -/
def RowV (H : Hp) (v : V) (xs : List V) (b : Bool) : Prop := Ns H v xs b ∧ (nf xs b = none → ∃ a, v = .ref a ∧ H a = some (.lst xs))
theorem rr_tail {K : PySem.W.Frag} {a0 a1 a2 a3 a4 a6 : Option V} {v : V} {xs : List V} {b : Bool} {H : Hp} {Q : VK} (r : RowV H v xs b) (q : ∀ H', Same H H' → Q (.bl true) H') :
    tSeq (tAsg (tCall spNFl [] E0 (tCons (tVar 5) tNil)) (gName 6)) (tRet (tOp (rEqD K) (tCall spShown [] E0 (tCons (tVar 5) tNil)) (tIf (tTest (tOp (fun x y H Q => y = V.non ∧ Q (V.bl (decide (x = V.non))) H) (tVar 6) (tC V.non))) (tTup (tCons (tCall spNumI [] E0 (tCons (tVar 5) tNil)) (tCons (tC V.non) tNil))) (tTup (tCons (tC V.non) (tCons (tVar 6) tNil)))))) { nx := fun x H' => Q V.non H', rt := Q } [a0, a1, a2, a3, a4, some v, a6] H := by
  obtain ⟨ns, rl⟩ := r
  refine seq_asgN ⟨_, rfl, v, xs, b, rfl, ns, fun i z e H1 T s1 eT => ?_, fun e H1 s1 => ?_⟩
  · refine ⟨_, rfl, v, xs, b, rfl, ns.same s1, (fun l e2 => by rw [e] at e2; cases e2), fun i2 z2 e2 H2 T2 U2 s2 eT2 eU2 => ?_⟩
    rw [e] at e2
    cases e2
    refine ⟨_, rfl, rfl, _, rfl, iteF ⟨_, rfl, (by show 2 ≤ sizeLine; decide), fun W nW => ?_⟩⟩
    have sW := same_upd (o := .tup [.non, .ref T]) nW
    have d1 := dt_word (nf_word e) (sW _ _ eT2) (sW _ _ eU2)
    have d2 := dt_word (H := upd H2 W (.tup [.non, .ref T])) (nf_word e) upd_same ((s2.trans sW) _ _ eT)
    have sh := shaped_of d1.lay (Nat.le_of_ble_eq_true rfl)
    refine ⟨_, _, d1.dp, d2.dp, sh, sh, ?_⟩
    rw [SeqAt.eqv_refl _ d1.lay]
    exact q _ ((s1.trans s2).trans sW)
  · obtain ⟨a, rfl, ea⟩ := rl e
    refine ⟨_, rfl, _, xs, b, rfl, ns.same s1, fun l _ ex H2 T D s2 eT eD => ?_, (fun i w e2 => by rw [e] at e2; cases e2)⟩
    subst ex
    have l40 : l.length ≤ 40 := by
      have z := (nf_none e).2.1
      rw [len_vals] at z
      exact z
    refine ⟨_, rfl, rfl, _, rfl, iteT ⟨_, rfl, a, l, rfl, (s1.trans s2) _ _ ea, by omega, fun G4 z s4 nz ez => ⟨(by show 2 ≤ sizeLine; decide), fun U nU => ?_⟩⟩⟩
    have sU := same_upd (o := .tup [.ref z, .non]) nU
    have d1 := dt_two ((s4.trans sU) _ _ eT) ((s4.trans sU) _ _ eD)
    have d2 := dt_two (H := upd G4 U (.tup [.ref z, .non])) upd_same (sU _ _ ez)
    have sh := shaped_of d1.lay (two_depth _)
    refine ⟨_, _, d1.dp, d2.dp, sh, sh, ?_⟩
    rw [SeqAt.eqv_refl _ d1.lay]
    exact q _ (((s1.trans s2).trans s4).trans sU)
/-- an item that may be wrong, drawn -/
theorem odd_name {p l D : Addr} {σ : L2.St} {H : Hp} {Q : VK} (e0 : σ[0]? = some (some (.ref p))) (hp : Hand p l H) (nD : ∃ o, H D = some o)
    (q : ∀ (v : V) (d : PyData) (H' : Hp), Dt (Off p D) H' v d → Sh d → Kept p H H' → Hand p l H' → Q v H') :
    tCall spPk [] E0 (tCons (tVar 0) (tCons (tLst (tCons (tUn (rU fun i => V.int (-i)) (tC (V.int 1))) (tCons (tOp (rI0 fun i j => V.int (i + j)) (tOp (rI CPow fun i j => V.int (i ^ j.toNat)) (tC (V.int 10)) (tC (V.int 30))) (tC (V.int 1))) (tCons (tC (V.bl true)) (tCons (tC (V.str ("1" : Str))) (tCons (tTup (tCons (tC (V.int 1)) tNil)) (tCons (tC (V.int 0)) tNil))))))) tNil)) σ H Q := by
  obtain ⟨o, eD⟩ := nD
  refine ⟨_, e0, _, rfl, _, _, rfl, rfl, ⟨by decide, by decide, by decide⟩, _, _, rfl, rfl, (by show 1 ≤ sizeLine; decide), fun T nT => ⟨(by show 6 ≤ sizeLine; decide), fun L nL => ?_⟩⟩
  have sT := same_upd (o := .tup [.int 1]) nT
  have sL := same_upd (o := .lst [.int (-1), .int ((10 : Int) ^ (30 : Int).toNat + 1), .bl true, .str ("1" : Str), .ref T, .int 0]) nL
  refine ⟨p, l, L, _, rfl, (hp.same sT).same sL, upd_same, (hp.same sT).nn nL, (by show 0 < 6; decide), (by show 6 ≤ 1000; decide), fun v H2 hv k2 h3 => ?_⟩
  have kk := (Kept.same (p := p) (sT.trans sL)).trans k2
  rcases List.mem_cons.mp hv with rfl | hv
  · exact q _ _ H2 (.int _) (.int (by decide)) kk h3
  rcases List.mem_cons.mp hv with rfl | hv
  · exact q _ _ H2 (.int _) (.int (by rw [e30]; decide)) kk h3
  rcases List.mem_cons.mp hv with rfl | hv
  · exact q _ _ H2 (.bl _) (.bl _) kk h3
  rcases List.mem_cons.mp hv with rfl | hv
  · exact q _ (.str ("1" : Str)) H2 (.str _ (by show (1 : Nat) ≤ 1000; decide) (by decide +kernel)) ⟨by decide +kernel, by decide +kernel, rfl, rfl, Nat.zero_le _⟩ kk h3
  rcases List.mem_cons.mp hv with rfl | hv
  · have np : T ≠ p := hp.nn nT
    have nD : T ≠ D := fun y => by rw [y, eD] at nT; cases nT
    exact q _ (.tuple [.int 1]) H2 (.tup ⟨np, nD⟩ (k2 _ _ np (sL _ _ upd_same)) (.cons (.int 1) .nil)) ⟨by decide +kernel, by decide +kernel, by decide, rfl, by decide⟩ kk h3
  rcases List.mem_cons.mp hv with rfl | hv
  · exact q _ _ H2 (.int _) (.int (by decide)) kk h3
  cases hv
def spRr : Sp := fun vs H Q _ => ∃ (p l : Addr) (n : Nat), vs = [.ref p, .int (n : Int)] ∧ Hand p l H ∧ n ≤ 40 ∧ ∀ H', Kept p H H' → Hand p l H' → Q (.bl true) H'
section
variable {P : Program} {w : World} {K : PySem.W.Frag} {mg : Str → Option Value} {base : Heap}
theorem ok_rr {f fD fP fSh fNu fNF : Addr} {fd fdD fdP fdSh fdNu fdNF : FuncData} (F : FnP K "_law_rows_right" sRowsRight f fd) (z_len : mg "len" = none) (z_range : mg "range" = none) (z_list : mg "list" = none) (z_tuple : mg "tuple" = none)
    (dD : Df P w K mg base "_law_draw" 2 ["_law_hand_here", "_law_many"] spDr fD fdD) (dP : Df P w K mg base "_law_pick" 3 ["_law_hand_here", "_law_things"] spPk fP fdP) (dSh : Df P w K mg base "_law_shown" 6 ["_law_thing"] spShown fSh fdSh) (dNu : Df P w K mg base "_law_numbers" 1 ["_law_things"] spNumI fNu fdNu) (dNF : Df P w K mg base "_law_names_fault" 2 ["_law_thing"] spNFl fNF fdNF) : FnOk P w K mg base CX0 7 f fd ["_law_hand_here", "_law_size_here"] spRr := by
  have sc : FnScope ["_law_hand_here", "_law_size_here", "_law_pool", "_law_k", "_law_names", "_law_odd", "_law_due"] ["_law_hand_here", "_law_size_here"] (defScope sRowsRight) := ⟨rfl, rfl, rfl, by decide +kernel, rfl, by decide +kernel, by decide +kernel⟩
  refine F.ok sc (fun vs H Q E h => ?_) (fun cdv A outer s H vs Q E hr h => ?_)
  · obtain ⟨p, l, n, rfl, _⟩ := h
    rfl
  · obtain ⟨p, l, n, rfl, hp, n40, q⟩ := h
    have hr6 := hr
    have hr3 := hr.mono (show 3 ≤ 6 by decide)
    have hr2 := hr.mono (show 2 ≤ 6 by decide)
    have hr1 := hr.mono (show 1 ≤ 6 by decide)
    refine ⟨_, PSs.nox (pss_cons (ps_set (i := 2) sc.nd rfl (.inr rfl) (pe_op op_cat (pe_lc (own := [("_law_k", 3)]) (g := gName 3) (tt := tYes) rfl sc.nd (pi_range1 (by rfl) z_range (pa_cons pe_int pa_nil)) (blkOk_by (N := ["_law_hand_here", "_law_size_here", "_law_pool", "_law_k", "_law_names", "_law_odd", "_law_due"]) (sc := defScope sRowsRight) (by decide +kernel)) (fun _ _ _ _ _ => pg_name (i := 3) sc.nd rfl (Or.inl rfl)) (fun _ _ _ _ _ => pts_nil) (fun _ _ _ _ _ => (pe_call dD.ok hr2 (by rfl) dD.gl dD.kp dD.bi .nil pass0 (pa_cons (pv 0) (pa_cons (pe_op op_pow pe_int pe_int) pa_nil))))) (pe_lst (pa_cons pe_int (pa_cons (pe_op op_pow pe_int pe_int) pa_nil)))))
    (pss_cons (ps_setLc (i := 4) (own := [("_law_k", 3)]) (g := gName 3) (tt := tYes) rfl sc.nd rfl rfl (sw_true rfl rfl rfl (by decide +kernel)) (pi_range1 (by rfl) z_range (pa_cons (pv 1) pa_nil)) (blkOk_by (N := ["_law_hand_here", "_law_size_here", "_law_pool", "_law_k", "_law_names", "_law_odd", "_law_due"]) (sc := defScope sRowsRight) (by decide +kernel)) (fun _ _ _ _ _ => pg_name (i := 3) sc.nd rfl (Or.inl rfl)) (fun _ _ _ _ _ => pts_nil) (fun _ _ _ _ _ => (pe_ifExp (pt_cmpR op_eq (pe_call dD.ok hr2 (by rfl) dD.gl dD.kp dD.bi .nil pass0 (pa_cons (pv 0) (pa_cons pe_int pa_nil))) pe_int (nomark _)) pe_non (pe_call dP.ok hr3 (by rfl) dP.gl dP.kp dP.bi .nil pass0 (pa_cons (pv 0) (pa_cons (pv 2) pa_nil))))))
    (pss_cons (ps_if (PW.pt (pw_or (pt_cmpR (op_neD hr.units) (pe_call dSh.ok hr6 (by rfl) dSh.gl dSh.kp dSh.bi .nil pass0 (pa_cons (pv 4) pa_nil)) (pe_tup (pa_cons (pe_call dNu.ok hr1 (by rfl) dNu.gl dNu.kp dNu.bi .nil pass0 (pa_cons (pv 4) pa_nil)) (pa_cons pe_non pa_nil))) (nomark _)) (pw_or1 (pt_cmpR (op_neD hr.units) (pe_call dSh.ok hr6 (by rfl) dSh.gl dSh.kp dSh.bi .nil pass0 (pa_cons (pe_callTy call_tuple_of (by rfl) z_tuple (by decide +kernel) (pa_cons (pv 4) pa_nil)) pa_nil)) (pe_tup (pa_cons (pe_call dNu.ok hr1 (by rfl) dNu.gl dNu.kp dNu.bi .nil pass0 (pa_cons (pv 4) pa_nil)) (pa_cons pe_non pa_nil))) (nomark _)))))
      (pss_one (ps_ret pe_bl))
      pss_nil)
    (pss_cons (ps_set (i := 5) sc.nd rfl (.inl rfl) (pe_callTy call_list_of (by rfl) z_list (by decide +kernel) (pa_cons (pv 4) pa_nil)))
    (pss_cons (ps_for PassesOwn.never rfl (pi_range1 (by rfl) z_range (pa_cons (pe_op op_add pe_int (pe_call dD.ok hr2 (by rfl) dD.gl dD.kp dD.bi .nil pass0 (pa_cons (pv 0) (pa_cons pe_int pa_nil)))) pa_nil)) (pg_name (i := 3) sc.nd rfl (.inl rfl))
      (pss_one (ps_if (pt_cmpR (op_neD hr.units) (pv 5) (pe_lst pa_nil) (nomark _))
        (pss_one (ps_asg (pe_call dP.ok hr3 (by rfl) dP.gl dP.kp dP.bi .nil pass0 (pa_cons (pv 0) (pa_cons (pe_lst (pa_cons (pe_un un_neg pe_int) (pa_cons (pe_op op_add (pe_op op_pow pe_int pe_int) pe_int) (pa_cons pe_bl (pa_cons pe_str (pa_cons (pe_tup (pa_cons pe_int pa_nil)) (pa_cons pe_int pa_nil))))))) pa_nil))) (pg_sub (pv 5) (pe_call dD.ok hr2 (by rfl) dD.gl dD.kp dD.bi .nil pass0 (pa_cons (pv 0) (pa_cons (pe_callB call_len_seq (by rfl) z_len boot_len (pa_cons (pv 5) pa_nil)) pa_nil))) set_list)))
        pss_nil)))
    (pss_cons (ps_if (pt_cmpR op_eq (pe_call dD.ok hr2 (by rfl) dD.gl dD.kp dD.bi .nil pass0 (pa_cons (pv 0) (pa_cons pe_int pa_nil))) pe_int (nomark _))
      (pss_one (ps_set (i := 5) sc.nd rfl (.inl rfl) (pe_call dP.ok hr3 (by rfl) dP.gl dP.kp dP.bi .nil pass0 (pa_cons (pv 0) (pa_cons (pe_lst (pa_cons pe_str (pa_cons pe_non (pa_cons (pe_op op_rep (pe_lst (pa_cons pe_non pa_nil)) pe_int) (pa_cons pe_int pa_nil))))) pa_nil)))))
      pss_nil)
    (pss_cons (ps_set (i := 6) sc.nd rfl (.inl rfl) (pe_call dNF.ok hr2 (by rfl) dNF.gl dNF.kp dNF.bi .nil pass0 (pa_cons (pv 5) pa_nil)))
    (pss_one (ps_ret (pe_cmpR (op_eqD hr.units) (pe_call dSh.ok hr6 (by rfl) dSh.gl dSh.kp dSh.bi .nil pass0 (pa_cons (pv 5) pa_nil)) (pe_ifExp (pt_cmpR op_isN (pv 6) pe_non (nomark _)) (pe_tup (pa_cons (pe_call dNu.ok hr1 (by rfl) dNu.gl dNu.kp dNu.bi .nil pass0 (pa_cons (pv 5) pa_nil)) (pa_cons pe_non pa_nil))) (pe_tup (pa_cons pe_non (pa_cons (pv 6) pa_nil)))) (nomark _))))))))))), ?_⟩
    refine seq_asgN ⟨4, rfl, by decide, by decide, fun D nD => lc_K (walk_rangeL 4) (fun i acc _ => acc.length = i ∧ ∀ v ∈ acc, NmV v) ⟨fun _ _ _ _ _ r _ _ => r, fun i acc _ r => Nat.le_of_eq r.1⟩ hp nD (by rw [List.length_map, List.length_range]; decide) ⟨rfl, fun v hv => by cases hv⟩ (fun _ _ => trivial) (fun _ => rfl) ?_ ?_ ?_⟩
    · rintro i v acc H' ev k' hp' eD ⟨hl, hv⟩
      refine ⟨_, rfl, _, _, rfl, rfl, ⟨by decide, by decide, by decide⟩, p, l, _, rfl, hp', by rw [e30]; decide +kernel, by rw [e30]; decide +kernel, fun d H2 d0 d1 k2 h2 => ⟨k2, h2, by rw [List.length_append, hl]; rfl, fun v hv2 => ?_⟩⟩
      rw [e30] at d1
      rcases List.mem_append.mp hv2 with h | h
      · exact hv v h
      · rw [List.mem_singleton.mp h]
        have z : (10 : Int) ^ 30 = ((10 ^ 30 : Nat) : Int) := by decide
        rw [z] at d1
        exact ⟨d.toNat, by omega, by rw [Int.toNat_of_nonneg d0]⟩
    · exact fun σ H Q Q' h ⟨v0, e0, i, j, e1, e2, e3, pp, ll, m, e4, e5, e6, e7, k⟩ => ⟨v0, e0, i, j, e1, e2, e3, pp, ll, m, e4, e5, e6, e7, fun d H' d0 d1 k1 k2 => h _ _ (k d H' d0 d1 k1 k2)⟩
    intro H1 acc k1 h1 eD ⟨hl, hv⟩
    rw [List.length_map, List.length_range] at hl
    refine ⟨_, _, rfl, rfl, ⟨by decide, by decide, by decide⟩, (by show 2 ≤ sizeLine; decide), fun M nM => ?_⟩
    have sM := same_upd (o := .lst [.int 0, .int ((10 : Int) ^ (30 : Int).toNat)]) nM
    refine ⟨D, M, _, _, rfl, rfl, sM _ _ eD, upd_same, (by rw [hl]; decide), fun W nW => ?_⟩
    have sW := same_upd (o := .lst (acc ++ [.int 0, .int ((10 : Int) ^ (30 : Int).toNat)])) nW
    have h2 := (h1.same sM).same sW
    have Wp : W ≠ p := (h1.same sM).nn nW
    have k2 := k1.trans (Kept.same (p := p) (sM.trans sW))
    have pool : ∀ v ∈ acc ++ [V.int 0, V.int ((10 : Int) ^ (30 : Int).toNat)], NmV v := fun v h => by
      rcases List.mem_append.mp h with h | h
      · exact hv v h
      rcases List.mem_cons.mp h with rfl | h
      · exact ⟨0, Nat.zero_le _, rfl⟩
      · rw [List.mem_singleton.mp h, e30]
        exact ⟨10 ^ 30, Nat.le_refl _, by rw [show (10 : Int) ^ 30 = ((10 ^ 30 : Nat) : Int) by decide]⟩
    have pl6 : (acc ++ [V.int 0, V.int ((10 : Int) ^ (30 : Int).toNat)]).length = 6 := by rw [List.length_append, hl]; rfl
    have eW : upd (upd H1 M (.lst [.int 0, .int ((10 : Int) ^ (30 : Int).toNat)])) W (.lst (acc ++ [V.int 0, V.int ((10 : Int) ^ (30 : Int).toNat)])) W = some (.lst (acc ++ [V.int 0, V.int ((10 : Int) ^ (30 : Int).toNat)])) := upd_same
    generalize upd (upd H1 M (.lst [.int 0, .int ((10 : Int) ^ (30 : Int).toNat)])) W (.lst (acc ++ [V.int 0, V.int ((10 : Int) ^ (30 : Int).toNat)])) = H2 at h2 k2 eW ⊢
    generalize acc ++ [V.int 0, V.int ((10 : Int) ^ (30 : Int).toNat)] = us at pool pl6 eW
    clear sM sW hl hv nM nW
    dsimp only
    refine state_eq (σ' := [some (.ref p), some (.int (n : Int)), some (.ref W), none, none, none, none]) rfl ?_
    refine seq_asgN ⟨_, rfl, (n : Int), rfl, by omega, by omega, fun D2 nD2 => lc_K (walk_rangeL n) (fun i acc _ => ∃ l : List (Option Nat), acc = vals l ∧ l.length = i ∧ ∀ m, some m ∈ l → m ≤ 10 ^ 30) ⟨fun _ _ _ _ _ r _ _ => r, fun i acc _ ⟨l, e, r, _⟩ => by rw [e, len_vals]; exact Nat.le_of_eq r⟩ h2 nD2 (by rw [List.length_map, List.length_range]; exact Nat.lt_of_le_of_lt n40 (by decide)) ⟨[], rfl, rfl, fun m h => by cases h⟩ (fun _ _ => trivial) (fun _ => rfl) ?_ ?_ ?_⟩
    · rintro i v acc H' ev k' hp' eD2 ⟨l1, rfl, ll, hm⟩
      refine ⟨_, rfl, p, l, 5, rfl, hp', by decide, by decide +kernel, fun d H3 d0 d1 k3 h3 => ⟨rfl, _, rfl, ite2 (fun g => ?_) (fun g => ?_)⟩⟩
      · refine ⟨k3, h3, l1 ++ [none], by rw [vals_app]; rfl, by rw [List.length_append, ll]; rfl, fun m h => ?_⟩
        rcases List.mem_append.mp h with h | h
        · exact hm m h
        · cases List.mem_singleton.mp h
      · refine ⟨_, rfl, _, rfl, p, l, W, us, rfl, h3, (k'.trans k3) _ _ Wp eW, Wp, by omega, by omega, fun v2 H4 hv2 k4 h4 => ?_⟩
        obtain ⟨m, hm2, rfl⟩ := pool v2 hv2
        refine ⟨k3.trans k4, h4, l1 ++ [some m], by rw [vals_app]; rfl, by rw [List.length_append, ll]; rfl, fun m3 h => ?_⟩
        rcases List.mem_append.mp h with h | h
        · exact hm m3 h
        · cases List.mem_singleton.mp h
          exact hm2
    · refine mE_if (mT_test (mE_op mR_eq (fun σ H Q Q' h ⟨v0, e0, pp, ll, m, e4, e5, e6, e7, k⟩ => ⟨v0, e0, pp, ll, m, e4, e5, e6, e7, fun d H' d0 d1 k1 k2 => h _ _ (k d H' d0 d1 k1 k2)⟩) mE_c)) mE_c ?_
      exact fun _ _ _ _ h ⟨a, e0, b, e1, p, l, c, us, e2, h1, h2, h3, h4, h5, q⟩ => ⟨a, e0, b, e1, p, l, c, us, e2, h1, h2, h3, h4, h5, fun v H' hv k hp => h _ _ (q v H' hv k hp)⟩
    rintro H3 acc k3 h3 eN ⟨l1, rfl, ll, hm⟩
    rw [List.length_map, List.length_range] at ll
    have k03 := k2.trans k3
    refine state_eq (σ' := [some (.ref p), some (.int (n : Int)), some (.ref W), none, some (.ref D2), none, none]) rfl ?_
    have row : ∀ {G : Hp} {a : Addr}, Sq G a (vals l1) → Ns G (.ref a) (vals l1) true := fun h => .seq h (by rw [len_vals]; omega) fun v hv => ⟨_, (fl_vals v hv).odd⟩
    refine seq_not (H0 := H3) (ts_or (ts_shown eN rfl hm (by omega) fun G1 g1 R r => ⟨_, rfl, r _ _ (Same.refl _) (row (.inl (g1 _ _ eN)))⟩) (ts_shown eN rfl hm (by omega) fun G1 g1 R r => ⟨_, rfl, D2, _, rfl, .inl ⟨SqL.of (g1 _ _ eN), fun t nt => r _ _ (same_upd nt) (row (.inr upd_same))⟩⟩)) (Same.refl _) fun H4 s4 => ?_
    have eN4 := s4 _ _ eN
    have h4 := h3.same s4
    have k04 := k03.trans (Kept.same (p := p) s4)
    refine seq_asgN ⟨_, rfl, D2, _, rfl, .inl (SqL.of eN4), fun D3 nD3 => ?_⟩
    have s5 := same_upd (o := .lst (vals l1)) nD3
    have Dp := h4.nn nD3
    have Dl := h4.nl nD3
    have h5 := h4.app (o := .lst (vals l1)) Dp Dl
    have k05 := k04.trans (Kept.same (p := p) s5)
    have nDH : H D3 = none := by
      cases e : H D3 with
      | none => rfl
      | some o =>
        have z := k04 _ _ Dp e
        rw [nD3] at z
        cases z
    have eD3 : upd H4 D3 (.lst (vals l1)) D3 = some (.lst (vals l1)) := upd_same
    generalize upd H4 D3 (.lst (vals l1)) = H5 at s5 h5 k05 eD3 ⊢
    dsimp only
    refine state_eq (σ' := [some (.ref p), some (.int (n : Int)), some (.ref W), none, some (.ref D2), some (.ref D3), none]) rfl ?_
    refine ⟨_, rfl, p, l, 2, rfl, h5, by decide, by decide +kernel, fun td H6 td0 td1 k6 h6 => ⟨_, _, rfl, rfl, _, rfl, by omega, by omega, ?_⟩⟩
    obtain ⟨t, rfl⟩ := Int.eq_ofNat_of_zero_le td0
    rw [show ((1 : Int) + (t : Int)).toNat = 1 + t by omega]
    refine for_it walk_range (fun i σ G => ∃ (x3 : Option V) (xs : List V) (ds : List PyData), σ = [some (.ref p), some (.int (n : Int)), some (.ref W), x3, some (.ref D2), some (.ref D3), none] ∧ G D3 = some (.lst xs) ∧ DtAll (Off p D3) G xs ds ∧ (∀ d ∈ ds, Sh d) ∧ xs.length ≤ 40 ∧ Kept p H G ∧ Hand p l G)
      ⟨none, vals l1, l1.map datO, rfl, k6 _ _ Dp eD3, dt_vals _, sh_opts hm, by rw [len_vals]; omega, k05.trans k6, h6⟩ (fun _ _ _ _ _ => trivial) ?_ ?_
    · rintro i v σ Hx G hi ⟨x3, xs, ds, rfl, gD, dt, sh, li, gk, gh⟩ ⟨rfl, ev0⟩
      refine ⟨_, rfl, Nat.zero_le _, fun Z nZ => ?_⟩
      have sZ := same_upd (o := .lst []) nZ
      obtain ⟨_, _, _, _, dep⟩ := sh_rows sh
      have dL := (Dt.lst (S := Any) (a := D3) trivial (sZ _ _ gD) (dt.any.same sZ))
      refine ⟨_, _, dL.dp, (Dt.lst (S := Any) trivial upd_same .nil).dp, shaped_of dL.lay (by show PyData.depthAll ds + 1 ≤ 64; omega), by rfl, _, rfl, ?_⟩
      have gZ := gh.same sZ
      have kZ : Kept p G (upd G Z (.lst [])) := Kept.same sZ
      have keep : ∀ {G3 : Hp}, Kept p G G3 → G3 D3 = some (.lst xs) ∧ DtAll (Off p D3) G3 xs ds := fun k => ⟨k _ _ Dp gD, dt.to (fun _ z => z) fun a o s e => k _ _ s.1 e⟩
      generalize upd G Z (.lst []) = GZ at gZ kZ ⊢
      cases xs with
      | nil =>
        cases dt with
        | nil => exact iteF ⟨_, _, _, rfl, (keep kZ).1, (keep kZ).2, sh, li, gk.trans kZ, gZ⟩
      | cons v0 xs0 =>
        cases id dt with
        | @cons _ _ d0 ds0 q1 q2 =>
          refine iteT (odd_name (D := D3) rfl gZ ⟨_, (keep kZ).1⟩ fun w d G3 dw sw k3 g3 => ?_)
          have kz3 := kZ.trans k3
          refine ⟨_, rfl, _, rfl, _, rfl, D3, _, rfl, .inl (SqL.of (keep kz3).1), p, l, _, rfl, g3, by show (0 : Int) < ((xs0.length + 1 : Nat) : Int); omega, Nat.lt_of_le_of_lt (show (((v0 :: xs0).length : Nat) : Int).natAbs ≤ 40 by omega) (by decide +kernel), fun jd G4 j0 j1 k4 g4 => ?_⟩
          obtain ⟨j, rfl⟩ := Int.eq_ofNat_of_zero_le j0
          have kz4 := kz3.trans k4
          have dw4 : Dt (Off p D3) G4 w d := dw.to (fun _ z => z) fun a o s e => k4 _ _ s.1 e
          refine ⟨D3, _, (j : Int), j, rfl, rfl, (keep kz4).1, ?_, ?_⟩
          · unfold ixN
            rw [if_pos (by omega), if_pos (by omega), Int.toNat_natCast]
          · exact ⟨_, _, _, rfl, upd_same, (DtAll.set dw4 j (keep kz4).2).to (fun _ z => z) (fun a o s e => (upd_ne s.2).trans e), sh_set sw sh j, by rw [List.length_set]; exact li, kput nDH (gk.trans kz4), g4.app Dp Dl⟩
    · rintro σ G ⟨x3, xs, ds, rfl, gD, dt, sh, li, gk, gh⟩
      refine ⟨_, rfl, p, l, 5, rfl, gh, by decide, by decide +kernel, fun c G1 c0 c1 k1 g1 => ⟨rfl, _, rfl, ite2 (fun g => ?_) (fun g => ?_)⟩⟩
      · refine ⟨_, rfl, (by show 1 ≤ sizeLine; decide), fun Z nZ => ?_⟩
        have sZ := same_upd (o := .lst [.non]) nZ
        refine ⟨Z, 41, [.non], rfl, rfl, upd_same, by decide, by decide, (by show 1 * 41 ≤ sizeLine; decide), fun M nM => ⟨(by show 4 ≤ sizeLine; decide), fun L nL => ?_⟩⟩
        have sM := same_upd (o := .lst (List.replicate 41 [V.non]).flatten) nM
        have sL := same_upd (o := .lst [.str ("12" : Str), .non, .ref M, .int 7]) nL
        have g2 := ((g1.same sZ).same sM)
        have Mp : M ≠ p := (g1.same sZ).nn nM
        refine ⟨p, l, L, _, rfl, g2.same sL, upd_same, g2.nn nL, (by show 0 < 4; decide), (by show 4 ≤ 1000; decide), fun v G2 hv k2 g3 => ?_⟩
        have kk := ((gk.trans k1).trans (Kept.same ((sZ.trans sM).trans sL))).trans k2
        have fin : ∀ {xs : List V} {b : Bool}, RowV G2 v xs b → _ := fun r => rr_tail (K := K) (a0 := some (.ref p)) (a1 := some (.int (n : Int))) (a2 := some (.ref W)) (a3 := x3) (a4 := some (.ref D2)) (a6 := none) r fun H' s' => q _ (kk.trans (Kept.same s')) (g3.same s')
        have bad : ∀ {x : Prop}, nf [] false = none → x := fun e => by
          have e : some ((0 : Nat), ("names" : Str)) = none := e
          cases e
        rcases List.mem_cons.mp hv with rfl | hv
        · exact fin ⟨.bad (.str _ (by show 2 ≤ 1000; decide) (by decide +kernel)) (by decide), fun e => bad e⟩
        rcases List.mem_cons.mp hv with rfl | hv
        · exact fin ⟨.bad .non (by decide), fun e => bad e⟩
        rcases List.mem_cons.mp hv with rfl | hv
        · refine fin (xs := (List.replicate 41 [V.non]).flatten) (b := true) ⟨.seq (.inl (k2 _ _ Mp (sL _ _ upd_same))) (by show 41 ≤ 1000; decide) (fun v hv => ?_), fun e => ?_⟩
          · have hv : v ∈ List.replicate 41 V.non := hv
            rw [(List.mem_replicate.mp hv).2]
            exact ⟨_, .non⟩
          · have e : some ((0 : Nat), ("names" : Str)) = none := e
            cases e
        rcases List.mem_cons.mp hv with rfl | hv
        · exact fin ⟨.bad (.int 7) (by decide), fun e => bad e⟩
        cases hv
      · have gD1 := k1 _ _ Dp gD
        have dt1 : DtAll (Off p D3) G1 xs ds := dt.to (fun _ z => z) fun a o s e => k1 _ _ s.1 e
        exact rr_tail ⟨(row_list gD1 dt1.any sh (by omega)).1, fun _ => ⟨D3, rfl, gD1⟩⟩ fun H' s' => q _ ((gk.trans k1).trans (Kept.same s')) (g1.same s')
end
end K25

/-! the law -/
namespace K25
open PySem PySem.Spec PyProof.Rows L2 LamX TaX GrdX
theorem efV_word : ∀ {xs : List V} {i c j : Nat} {z : Str}, efV i c xs = some (j, z) → z = "entry" ∨ z = "order"
  | [], _, _, _, _, h => by cases h
  | v :: xs, i, c, j, z, h => by
    cases v with
    | non => exact efV_word (xs := xs) (i := i + 1) h
    | int k =>
      have h : (if k < 0 then some (i, ("entry" : Str)) else if (c : Int) < k then some (i, "order") else if k = c then efV (i + 1) (c + 1) xs else efV (i + 1) c xs) = some (j, z) := h
      split at h
      · cases h
        exact .inl rfl
      · split at h
        · cases h
          exact .inr rfl
        · split at h
          · exact efV_word h
          · exact efV_word h
    | _ =>
      cases h
      exact .inl rfl
theorem ef_word {xs : List V} {b : Bool} {i : Nat} {z : Str} (h : ef xs b = some (i, z)) : z.length ≤ 1000 ∧ (PyData.str z).canLay0 = true := by
  unfold ef at h
  split at h
  · rcases efV_word h with rfl | rfl
    · exact ⟨(by show 5 ≤ 1000; decide), by decide +kernel⟩
    · exact ⟨(by show 5 ≤ 1000; decide), by decide +kernel⟩
  · cases h
    exact ⟨(by show 7 ≤ 1000; decide), by decide +kernel⟩
theorem ef_row {xs : List V} {b : Bool} (h : ef xs b = none) : b = true ∧ xs.length ≤ 40 ∧ ∃ q : List (Option Nat), xs = vals q ∧ Pt q := by
  unfold ef at h
  split at h
  · rename_i z
    obtain ⟨c, hc⟩ := ef_cnt h
    obtain ⟨q, rfl⟩ := cnt_row hc
    exact ⟨z.1, z.2, q, rfl, pt_of_cnt hc⟩
  · cases h
def DueV (H : Hp) : V → Option (Nat × Str) → Prop
  | w, none => w = .non
  | w, some (i, z) => ∃ T, w = .ref T ∧ H T = some (.tup [.int (i : Nat), .str z])
def dueE : Option (Nat × Str) → PyData
  | none => .none
  | some (i, z) => .tuple [.int (i : Nat), .str z]
theorem DueV.same {H H' : Hp} {w : V} {o : Option (Nat × Str)} (h : DueV H w o) (s : Same H H') : DueV H' w o := by
  cases o with
  | none => exact h
  | some p =>
    obtain ⟨T, e, h⟩ := h
    exact ⟨T, e, s _ _ h⟩
theorem DueV.dt {H : Hp} {w : V} {xs : List V} {b : Bool} (h : DueV H w (ef xs b)) : Dt Any H w (dueE (ef xs b)) ∧ SeqAt.shaped (dueE (ef xs b)) = true := by
  cases e : ef xs b with
  | none =>
    rw [e] at h
    obtain rfl := h
    exact ⟨.non, rfl⟩
  | some p =>
    obtain ⟨i, z⟩ := p
    rw [e] at h
    obtain ⟨T, rfl, h⟩ := h
    obtain ⟨w1, w2⟩ := ef_word e
    have d := pl_dt w1 w2 h
    exact ⟨d, shaped_of d.lay (Nat.le_of_ble_eq_true rfl)⟩
theorem Ns.row {H : Hp} {v : V} {xs : List V} {b : Bool} (n : Ns H v xs b) (e : b = true) : ∃ a, v = .ref a ∧ Sq H a xs := by
  cases n with
  | seq h hl od => exact ⟨_, rfl, h⟩
  | bad => cases e
theorem fault_val {j : Nat} {σ : L2.St} {H : Hp} {o : V} {xs : List V} {b : Bool} {Q : VK} (e : σ[j]? = some (some o)) (ns : Ns H o xs b) (q : ∀ (H' : Hp) (w : V), Same H H' → DueV H' w (ef xs b) → Q w H') : tCall spEF [] E0 (tCons (tVar j) tNil) σ H Q := by
  refine ⟨_, e, o, xs, b, rfl, ns, fun i z e H' t s' ht => q _ _ s' ?_, fun e H' s' => q _ _ s' ?_⟩
  · rw [e]
    exact ⟨t, rfl, ht⟩
  · rw [e]
    exact rfl
theorem made_val {CP : Addr} {j : Nat} {σ : L2.St} {H : Hp} {o : V} {xs : List V} {b : Bool} {Q : VK} (e : σ[j]? = some (some o)) (ns : Ns H o xs b)
    (q : ∀ (H' : Hp) (T : Addr) (o2 w2 : V), Same H H' → H' T = some (.tup [o2, w2]) → DueV H' w2 (ef xs b) → ((∃ (g : Addr) (r : List (Option Nat)), ef xs b = none ∧ o2 = .ref g ∧ xs = vals r ∧ PatAt CP H' g r) ∨ (o2 = .non ∧ ∃ i z, ef xs b = some (i, z))) → Q (.ref T) H') : tCall (spMade CP) [] E0 (tCons (tVar j) tNil) σ H Q := by
  refine ⟨_, e, o, xs, b, rfl, ns, fun r e0 er _ _ H' T g s' hT hg => q _ T _ _ s' hT ?_ (.inl ⟨g, r, e0, rfl, er, hg⟩), fun i z e0 H' T U s' hT hU => q _ T _ _ s' hT ?_ (.inr ⟨rfl, i, z, e0⟩)⟩
  · rw [e0]
    exact rfl
  · rw [e0]
    exact ⟨U, rfl, hU⟩
theorem handed_val {K : PySem.W.Frag} {p l D : Addr} {y : List (Option Nat)} {σ : L2.St} {H : Hp} {Q : VK} (e1 : σ[1]? = some (some (.ref p))) (e4 : σ[4]? = some (some (.ref D))) (hp : Hand p l H) (eD : H D = some (.lst (vals y))) (ly : y.length ≤ 40) (Dp : D ≠ p)
    (q : ∀ (v : V) (H' : Hp), Kept p H H' → Hand p l H' → Ns H' v (vals y) true → Q v H') :
    tIf (tTest (tOp rEq (tCall spDr [] E0 (tCons (tVar 1) (tCons (tC (V.int 2)) tNil))) (tC (V.int 0)))) (tVar 4) (tCB (fun xs H_1 Q => ∃ p ys, xs = [V.ref p] ∧ ((SqL K H_1 p ys ∧ ∀ (l : Addr), H_1 l = none → Q (V.ref l) (upd H_1 l (HO.tup ys))) ∨ SqT K H_1 p ys ∧ Q (V.ref p) H_1)) (tCons (tVar 4) tNil)) σ H Q := by
  have row : ∀ {G : Hp} {a : Addr}, Sq G a (vals y) → Ns G (.ref a) (vals y) true := fun h => .seq h (by rw [len_vals]; omega) fun v hv => ⟨_, (fl_vals v hv).odd⟩
  refine ⟨_, e1, p, l, 2, rfl, hp, by decide, by decide +kernel, fun d H6 d0 d1 k6 h6 => ⟨rfl, _, rfl, ite2 (fun g => ?_) (fun g => ?_)⟩⟩
  · exact ⟨_, e4, q _ _ k6 h6 (row (.inl (k6 _ _ Dp eD)))⟩
  · exact ⟨_, e4, D, _, rfl, .inl ⟨SqL.of (k6 _ _ Dp eD), fun t nt => q _ _ (k6.trans (Kept.same (same_upd nt))) (h6.same (same_upd nt)) (row (.inr upd_same))⟩⟩
theorem make_pat {CP CE a : Addr} {i : Nat} {σ : L2.St} {H : Hp} {r : List (Option Nat)} {Q : VK} (e : σ[i]? = some (some (.ref a))) (ha : H a = some (.lst (vals r))) (hp : Pt r) (hl : r.length ≤ 40) (q : ∀ (H' : Hp) (z : Addr), Same H H' → PatAt CP H' z r → Q (.ref z) H') :
    tMake CP (spPat CP CE) [] E0 (tCons (tVar i) tNil) σ H Q := ⟨_, e, show ∀ x dx, H x = none → H dx = none → dx ≠ x → spPat CP CE (.ref x :: [.ref a]) (upd (upd H dx (.own x)) x (.ins CP dx [])) (fun v H2 => v = .non ∧ Q (.ref x) H2) E0 from pat_make (.inl ha) hp hl q⟩
/-- what stands all the while -/
structure LI (CP : Addr) (TL : List (Addr × Str)) (p l e x : Addr) (y : List (Option Nat)) (G : Hp) : Prop where
  h : Hand p l G
  he : G e = some (.lst (vals y))
  hx : PatAt CP G x y
  tb : Tabs TL G
theorem LI.kept {CP : Addr} {TL : List (Addr × Str)} {p l e x : Addr} {y : List (Option Nat)} {G G' : Hp} (I : LI CP TL p l e x y G) (k : Kept p G G') (h : Hand p l G') : LI CP TL p l e x y G' :=
  ⟨h, k _ _ (I.h.neq y I.he) I.he, pat_kept I.hx I.h k, tabs_kept I.tb I.h k⟩
theorem LI.same {CP : Addr} {TL : List (Addr × Str)} {p l e x : Addr} {y : List (Option Nat)} {G G' : Hp} (I : LI CP TL p l e x y G) (s : Same G G') : LI CP TL p l e x y G' := I.kept (.same s) (I.h.same s)
theorem pt_small {y : List (Option Nat)} (py : Pt y) (ly : y.length ≤ 40) : ∀ n, some n ∈ y → n ≤ 10 ^ 30 := fun n h => by
  obtain ⟨i, hi⟩ := List.getElem?_of_mem h
  have := py.lt hi
  exact Nat.le_trans (show n ≤ 40 by omega) (by decide)
def spLaw (K : PySem.W.Frag) (TL : List (Addr × Str)) : Sp := fun vs H Q _ => ∃ (a : Addr) (ns : List Int), vs = [.ref a] ∧ SqL K H a (ns.map V.int) ∧ ns.length ≤ 63 ∧ Tabs TL H ∧ ∀ H', Q (.bl true) H'
structure DfG (P : Program) (w : World) (K : PySem.W.Frag) (mg : Str → Option Value) (base : Heap) (x : Str) (k : Nat) (ps : List Str) (sp : Sp) (f : Addr) (fd : FuncData) : Prop where
  gl : mg x = some (.ref f)
  ok : FnG P w K mg base CX0 k f fd ps sp
  bi : Binds K fd ps []
  kp : PySem.W.keepIn K (.ref f) = true
section
variable {P : Program} {w : World} {K : PySem.W.Frag} {mg : Str → Option Value} {base : Heap}
theorem ok_law {f c fI fE fH fD fSz fEn fMd fRd fSpt fF fPlcs fPrt fOdp fRr CP CE : Addr} {fd fdI fdE fdH fdD fdSz fdEn fdMd fdRd fdSpt fdF fdPlcs fdPrt fdOdp fdRr : FuncData} {TL : List (Addr × Str)} (F : FnP K "law" sLaw f fd) (z_tuple : mg "tuple" = none) (z_list : mg "list" = none) (z_repr : mg "repr" = none) (z_range : mg "range" = none)
    (M : PatMk P w K mg base CP CE fI fdI) (EQ : EqM P w K mg base CP (spPEq CP) fE fdE) (dH : Df P w K mg base "_law_hand" 1 ["_law_script"] (spHand K) fH fdH) (dD : Df P w K mg base "_law_draw" 2 ["_law_hand_here", "_law_many"] spDr fD fdD) (dSz : Df P w K mg base "_law_size" 3 ["_law_hand_here"] spSize fSz fdSz)
    (dEn : Df P w K mg base "_law_entries" 3 ["_law_hand_here", "_law_size_here", "_law_empty"] spEn fEn fdEn) (dMd : Df P w K mg base "_law_made" 5 ["_law_thing"] (spMade CP) fMd fdMd) (dRd : Df P w K mg base "_law_reads" 5 ["_law_pattern", "_law_entries_here"] (spRd CP) fRd fdRd) (dSpt : Df P w K mg base "_law_spoilt" 4 ["_law_hand_here", "_law_entries_here"] spSpt fSpt fdSpt)
    (dF : Df P w K mg base "_law_fault" 2 ["_law_thing"] spEF fF fdF) (dPlcs : Df P w K mg base "_law_places" 4 ["_law_hand_here", "_law_size_here"] spPlcs fPlcs fdPlcs) (dPrt : DfG P w K mg base "_law_part_right" 6 ["_law_pattern", "_law_entries_here", "_law_places_here"] (spPrt CP) fPrt fdPrt)
    (dOdp : DfG P w K mg base "_law_odd_places" 8 ["_law_hand_here", "_law_pattern", "_law_size_here"] (spOdp CP TL) fOdp fdOdp) (dRr : Df P w K mg base "_law_rows_right" 7 ["_law_hand_here", "_law_size_here"] spRr fRr fdRr) : FnG P w K mg base CX0 9 f fd ["_law_script"] (spLaw K TL) := by
  have sc : FnScope ["_law_script", "_law_hand_here", "_law_size_here", "_law_entries_here", "_law_handed", "_law_made_here", "_law_found", "_law_odd", "_law_kept", "_law_due", "_law_other", "_law_word", "_law_k"] ["_law_script"] (defScope sLaw) := ⟨rfl, rfl, rfl, by decide +kernel, rfl, by decide +kernel, by decide +kernel⟩
  refine okG F sc (fun vs H Q E h => ?_) (fun cdv A outer s H vs Q E hr hG h => ?_)
  · obtain ⟨a, ns, rfl, _⟩ := h
    rfl
  · obtain ⟨a, ns, rfl, hS, hlen, tb, q⟩ := h
    have hr7 := hr.mono (show 7 ≤ 8 by decide)
    have hr6 := hr.mono (show 6 ≤ 8 by decide)
    have hr5 := hr.mono (show 5 ≤ 8 by decide)
    have hr4 := hr.mono (show 4 ≤ 8 by decide)
    have hr3 := hr.mono (show 3 ≤ 8 by decide)
    have hr2 := hr.mono (show 2 ≤ 8 by decide)
    have hr1 := hr.mono (show 1 ≤ 8 by decide)
    refine ⟨_, PSs.nox (pss_cons (ps_set (i := 1) sc.nd rfl (.inl rfl) (pe_call dH.ok hr1 (by rfl) dH.gl dH.kp dH.bi .nil pass0 (pa_cons (pv 0) pa_nil)))
    (pss_cons (ps_set (i := 2) sc.nd rfl (.inl rfl) (pe_call dSz.ok hr3 (by rfl) dSz.gl dSz.kp dSz.bi .nil pass0 (pa_cons (pv 1) pa_nil)))
    (pss_cons (ps_set (i := 3) sc.nd rfl (.inl rfl) (pe_call dEn.ok hr3 (by rfl) dEn.gl dEn.kp dEn.bi .nil pass0 (pa_cons (pv 1) (pa_cons (pv 2) (pa_cons (pe_cmpR op_eq (pe_call dD.ok hr2 (by rfl) dD.gl dD.kp dD.bi .nil pass0 (pa_cons (pv 1) (pa_cons pe_int pa_nil))) pe_int (nomark _)) pa_nil)))))
    (pss_cons (ps_set (i := 4) sc.nd rfl (.inl rfl) (pe_callTy call_list_of (by rfl) z_list (by decide +kernel) (pa_cons (pv 3) pa_nil)))
    (pss_cons (ps_asg (pe_call dMd.ok hr5 (by rfl) dMd.gl dMd.kp dMd.bi .nil pass0 (pa_cons (pe_ifExp (pt_cmpR op_eq (pe_call dD.ok hr2 (by rfl) dD.gl dD.kp dD.bi .nil pass0 (pa_cons (pv 1) (pa_cons pe_int pa_nil))) pe_int (nomark _)) (pv 4) (pe_callTy call_tuple_of (by rfl) z_tuple (by decide +kernel) (pa_cons (pv 4) pa_nil))) pa_nil)) (pg_tup (by rfl) (pgs_cons (pg_name (i := 5) sc.nd rfl (Or.inl rfl)) (pgs_cons (pg_name (i := 6) sc.nd rfl (Or.inl rfl)) pgs_nil))))
    (pss_cons (ps_if (PW.pt (pw_or (pt_cmpR op_isN (pv 5) pe_non (nomark _)) (pw_or (pt_cmpR op_notN (pv 6) pe_non (nomark _)) (pw_or (pt_not (pt_val (pe_call dRd.ok hr5 (by rfl) dRd.gl dRd.kp dRd.bi .nil pass0 (pa_cons (pv 5) (pa_cons (pv 3) pa_nil))))) (pw_or1 (pt_cmpR (op_neD hr.units) (pv 4) (pv 3) (nomark _)))))))
      (pss_one (ps_ret pe_bl))
      pss_nil)
    (pss_cons (ps_expr (pe_bm PySem.F.plainAttrs_list PySem.F.slot_list_append PySem.F.type_list_append mt_append (pv 4) (pa_cons pe_int pa_nil)))
    (pss_cons (ps_set (i := 7) sc.nd rfl (.inl rfl) (pe_call dSpt.ok hr4 (by rfl) dSpt.gl dSpt.kp dSpt.bi .nil pass0 (pa_cons (pv 1) (pa_cons (pv 3) pa_nil))))
    (pss_cons (ps_par (i := 8) (j := 9) rfl sc.nd rfl rfl (by decide) rfl rfl (pa_cons (pe_callB (call_reprA hr hG) (by rfl) z_repr boot_repr (pa_cons (pv 7) pa_nil)) (pa_cons (pe_call dF.ok hr2 (by rfl) dF.gl dF.kp dF.bi .nil pass0 (pa_cons (pv 7) pa_nil)) pa_nil)) rfl)
    (pss_cons (ps_asg (pe_call dMd.ok hr5 (by rfl) dMd.gl dMd.kp dMd.bi .nil pass0 (pa_cons (pv 7) pa_nil)) (pg_tup (by rfl) (pgs_cons (pg_name (i := 10) sc.nd rfl (Or.inl rfl)) (pgs_cons (pg_name (i := 11) sc.nd rfl (Or.inl rfl)) pgs_nil))))
    (pss_cons (ps_if (PW.pt (pw_or (pt_cmpR (op_neD hr.units) (pv 11) (pv 9) (nomark _)) (pw_or (pt_cmpR op_ne (pe_cmpR op_isN (pv 10) pe_non (nomark _)) (pe_cmpR op_notN (pv 9) pe_non (nomark _)) (nomark _)) (pw_or1 (pt_cmpR op_ne (pe_callB (call_reprA hr hG) (by rfl) z_repr boot_repr (pa_cons (pv 7) pa_nil)) (pv 8) (nomark _))))))
      (pss_one (ps_ret pe_bl))
      pss_nil)
    (pss_cons (ps_if (PW.pt (pw_and (pt_cmpR op_notN (pv 10) pe_non (nomark _)) (pw_and1 (pt_cmpR op_ne (pe_cmpR (op_eqI EQ.ok EQ.fi EQ.fn EQ.bi pass0 hr1) (pv 5) (pv 10) (nomark _)) (pe_cmpR (op_eqD hr.units) (pe_callTy call_list_of (by rfl) z_list (by decide +kernel) (pa_cons (pv 7) pa_nil)) (pv 3) (nomark _)) (nomark _)))))
      (pss_one (ps_ret pe_bl))
      pss_nil)
    (pss_cons (ps_if (PW.pt (pw_or (pt_not (pt_cmpR (op_eqI EQ.ok EQ.fi EQ.fn EQ.bi pass0 hr1) (pv 5) (pe_make M.mks M.ok hr4 (by rfl) M.gl M.bi .nil passX0 (pa_cons (pv 3) pa_nil)) (nomark _))) (pw_or (pt_cmpR (op_eqI EQ.ok EQ.fi EQ.fn EQ.bi pass0 hr1) (pv 5) (pe_callTy call_tuple_of (by rfl) z_tuple (by decide +kernel) (pa_cons (pv 3) pa_nil)) (nomark _)) (pw_or1 (pt_not (pt_val (pe_call dRd.ok hr5 (by rfl) dRd.gl dRd.kp dRd.bi .nil pass0 (pa_cons (pv 5) (pa_cons (pv 3) pa_nil)))))))))
      (pss_one (ps_ret pe_bl))
      pss_nil)
    (pss_cons (ps_for PassesOwn.never rfl (pi_range1 (by rfl) z_range (pa_cons pe_int pa_nil)) (pg_name (i := 12) sc.nd rfl (.inl rfl))
      (pss_one (ps_if (pt_not (pt_val (pe_callG dPrt.ok hr6 hG (by rfl) dPrt.gl dPrt.kp dPrt.bi pass0 (pa_cons (pv 5) (pa_cons (pv 3) (pa_cons (pe_call dPlcs.ok hr4 (by rfl) dPlcs.gl dPlcs.kp dPlcs.bi .nil pass0 (pa_cons (pv 1) (pa_cons (pv 2) pa_nil))) pa_nil))))))
        (pss_one (ps_ret pe_bl))
        pss_nil)))
    (pss_one (ps_ret (pe_and (pe_callG dOdp.ok hr hG (by rfl) dOdp.gl dOdp.kp dOdp.bi pass0 (pa_cons (pv 1) (pa_cons (pv 5) (pa_cons (pv 2) pa_nil)))) (pe_and (pe_call dRr.ok hr7 (by rfl) dRr.gl dRr.kp dRr.bi .nil pass0 (pa_cons (pv 1) (pa_cons (pv 2) pa_nil))) (pe_one (pe_call dRd.ok hr5 (by rfl) dRd.gl dRd.kp dRd.bi .nil pass0 (pa_cons (pv 5) (pa_cons (pv 3) pa_nil)))))))))))))))))))))), ?_⟩
    refine seq_asgN ⟨_, rfl, a, ns, rfl, hS, hlen, fun H1 p l t s1 np hh => ?_⟩
    have h1 : Hand p l H1 := ⟨_, _, _, _, hh⟩
    have t1 := tabs_same tb s1
    dsimp only
    refine seq_asgN ⟨_, rfl, p, l, rfl, h1, fun H2 n n40 k2 h2 => ?_⟩
    have t2 := tabs_kept t1 h1 k2
    dsimp only
    refine seq_asgN ⟨_, rfl, _, rfl, _, rfl, p, l, 2, rfl, h2, by decide, by decide +kernel, fun d H3 d0 d1 k3 h3 => ⟨rfl, p, l, n, _, rfl, h3, n40, fun H4 e y k4 h4 ne he py ly => ?_⟩⟩
    have t4 := tabs_kept (tabs_kept t2 h2 k3) h3 k4
    have ly40 : y.length ≤ 40 := by omega
    obtain rfl := ly
    clear t1 t2 k2 k3 k4 h2 h3
    dsimp only
    refine state_eq (σ' := [some (.ref a), some (.ref p), some (.int (y.length : Int)), some (.ref e), none, none, none, none, none, none, none, none, none]) rfl ?_
    have ep := h4.neq y he
    refine seq_asgN ⟨_, rfl, e, _, rfl, .inl (SqL.of he), fun D nD => ?_⟩
    have Dp := h4.nn nD
    have Dl := h4.nl nD
    have eDn : e ≠ D := fun z => by rw [← z, he] at nD; cases nD
    have s5 := same_upd (o := .lst (vals y)) nD
    have h5 := h4.same s5
    have t5 := tabs_same t4 s5
    have he5 := s5 _ _ he
    have eD5 : upd H4 D (.lst (vals y)) D = some (.lst (vals y)) := upd_same
    generalize upd H4 D (.lst (vals y)) = H5 at h5 t5 he5 eD5 ⊢
    dsimp only
    refine handed_val (K := K) rfl rfl h5 eD5 ly40 Dp fun v H6 k6 h6 ns => ?_
    obtain ⟨c, ec⟩ := py.cnt
    have ef0 : ef (vals y) true = none := by
      unfold ef
      rw [if_pos ⟨rfl, by rw [len_vals]; exact ly40⟩]
      exact cnt_ef ec
    refine ⟨v, vals y, true, rfl, ns, fun p2 _ eq _ _ H7 T x s7 eT hx => ?_, fun i w e1 => by rw [ef0] at e1; cases e1⟩
    obtain rfl := vals_inj eq
    refine ⟨T, _, rfl, .inl (.inl eT), rfl, _, _, rfl, _, _, rfl, rfl, ?_⟩
    have I7 : LI CP TL p l e x y H7 := ⟨h6.same s7, s7 _ _ (k6 _ _ ep he5), hx, tabs_same (tabs_kept t5 h5 k6) s7⟩
    have eD7 := s7 _ _ (k6 _ _ Dp eD5)
    clear h5 t5 he5 eD5 eT ns k6 h6 h4 t4 h1 tb hS hh
    dsimp only
    refine state_eq (σ' := [some (.ref a), some (.ref p), some (.int (y.length : Int)), some (.ref e), some (.ref D), some (.ref x), some .non, none, none, none, none, none, none]) rfl ?_
    refine seq_not (H0 := H7) (ts_or (fun G1 g1 R r => ⟨_, rfl, rfl, _, rfl, r _ (Same.refl _)⟩) (ts_or (fun G1 g1 R r => ⟨_, rfl, rfl, _, rfl, r _ (Same.refl _)⟩) (ts_or (ts_not fun G1 g1 R r => ⟨_, rfl, _, rfl, x, e, y, rfl, I7.hx.sm g1, g1 _ _ I7.he, fun H' s' => ⟨_, rfl, r _ s'⟩⟩) (fun G1 g1 R r => ?_)))) (Same.refl _) fun H8 s8 => ?_
    · have d1 := Dt.lst (S := Any) trivial (g1 _ _ eD7) (dt_vals y)
      have d2 := Dt.lst (S := Any) trivial (g1 _ _ I7.he) (dt_vals y)
      refine ⟨_, rfl, _, rfl, _, _, d1.dp, d2.dp, shaped_vals _, shaped_vals _, _, rfl, ?_⟩
      rw [SeqAt.eqv_refl _ d1.lay]
      exact r _ (Same.refl _)
    have I8 := I7.same s8
    have eD8 := s8 _ _ eD7
    refine ⟨_, rfl, .inl ⟨rfl, _, SqL.of eD8⟩, D, _, _, rfl, rfl, eD8, (by rw [len_vals]; exact Nat.lt_of_le_of_lt ly40 (by decide)), ?_⟩
    have I9 : LI CP TL p l e x y (upd H8 D (.lst (vals y ++ [.int 0]))) := by
      obtain ⟨dx, tx, cc, ex, etx, r⟩ := I8.hx
      have xD : x ≠ D := fun z => by rw [z, eD8] at ex; cases ex
      have tD : tx ≠ D := fun z => by rw [z, eD8] at etx; cases etx
      refine ⟨I8.h.app Dp Dl, Eq.trans (upd_ne eDn) I8.he, ⟨dx, tx, cc, Eq.trans (upd_ne xD) ex, Eq.trans (upd_ne tD) etx, r⟩, fun t ht => ?_⟩
      obtain ⟨ps, h1, h2, h3⟩ := I8.tb t ht
      refine ⟨ps, Eq.trans (upd_ne (fun z => by rw [z, eD8] at h1; cases h1)) h1, h2, fun pos cv hc => ?_⟩
      obtain ⟨c, e1, e2⟩ := h3 pos cv hc
      exact ⟨c, e1, Eq.trans (upd_ne (fun z => by rw [z, eD8] at e2; unfold CodeO at e2; cases e2)) e2⟩
    generalize upd H8 D (.lst (vals y ++ [.int 0])) = H9 at I9 ⊢
    clear I7 I8 eD7 eD8
    dsimp only
    refine seq_asgN ⟨_, rfl, _, rfl, p, l, e, y, rfl, I9.h, I9.he, pt_small py ly40, ly40, fun H10 o xs b z k10 h10 ns rp => ?_⟩
    have I10 := I9.kept k10 h10
    clear I9
    dsimp only
    refine state_eq (σ' := [some (.ref a), some (.ref p), some (.int (y.length : Int)), some (.ref e), some (.ref D), some (.ref x), some .non, some o, none, none, none, none, none]) rfl ?_
    refine ⟨_, rfl, _, _, rfl, rp, fault_val rfl ns fun H11 w s11 hw => ⟨_, _, rfl, ?_⟩⟩
    have I11 := I10.same s11
    have ns11 := ns.same s11
    have rp11 := rp.same s11
    clear I10 ns rp
    dsimp only
    refine state_eq (σ' := [some (.ref a), some (.ref p), some (.int (y.length : Int)), some (.ref e), some (.ref D), some (.ref x), some .non, some o, some (.str z), some w, none, none, none]) rfl ?_
    refine made_val rfl ns11 fun H12 T o2 w2 s12 eT hw2 ho2 => ⟨T, _, rfl, .inl (.inl eT), rfl, _, _, rfl, _, _, rfl, rfl, ?_⟩
    have I12 := I11.same s12
    have ns12 := ns11.same s12
    have rp12 := rp11.same s12
    have hw := hw.same s12
    clear I11 ns11 rp11
    dsimp only
    refine state_eq (σ' := [some (.ref a), some (.ref p), some (.int (y.length : Int)), some (.ref e), some (.ref D), some (.ref x), some .non, some o, some (.str z), some w, some o2, some w2, none]) rfl ?_
    refine seq_not (H0 := H12) (ts_or (fun G1 g1 R r => ?_) (ts_or (fun G1 g1 R r => ?_) (fun G1 g1 R r => ?_))) (Same.refl _) fun H13 s13 => ?_
    · obtain ⟨d1, sh⟩ := (hw2.same g1).dt
      obtain ⟨d2, _⟩ := (hw.same g1).dt
      refine ⟨_, rfl, _, rfl, _, _, d1.dp, d2.dp, sh, sh, _, rfl, ?_⟩
      rw [SeqAt.eqv_refl _ d1.lay]
      exact r _ (Same.refl _)
    · refine ⟨_, rfl, rfl, _, rfl, rfl, rfl, _, rfl, ?_⟩
      have e : decide (o2 = .non) = !decide (w = .non) := by
        rcases ho2 with ⟨g, r, e0, rfl, _, _⟩ | ⟨rfl, i, z, e0⟩
        · rw [e0] at hw
          obtain rfl := hw
          rfl
        · rw [e0] at hw
          obtain ⟨T, rfl, _⟩ := hw
          rfl
      rw [e, decide_eq_true rfl]
      exact r _ (Same.refl _)
    · refine ⟨_, rfl, _, _, rfl, rp12.same g1, _, rfl, rfl, _, rfl, ?_⟩
      rw [decide_eq_true rfl]
      exact r _ (Same.refl _)
    have I13 := I12.same s13
    have ns13 := ns12.same s13
    clear rp12 hw hw2 eT I12 ns12
    -- the other pattern
    refine seq_not (H0 := H13) (fun G1 g1 R r => ?_) (Same.refl _) fun H14 s14 => ?_
    · rcases ho2 with ⟨g, q2, e0, rfl, rfl, hg⟩ | ⟨rfl, i, z, e0⟩
      · obtain ⟨rfl, l40, _, _, _⟩ := ef_row e0
        have hg := (hg.sm s13).sm g1
        have hx := I13.hx.sm g1
        obtain ⟨dx, tx, cx, ex, _⟩ := id hx
        obtain ⟨dg, tg, cg, eg, _⟩ := id hg
        refine ⟨_, rfl, rfl, _, rfl, iteT ⟨_, rfl, _, rfl, x, dx, _, _, rfl, ex, .ins eg, EQ.nfS, ⟨x, .ref g, y, rfl, hx, .inl ⟨g, q2, rfl, hg, _, rfl, ?_⟩⟩⟩⟩
        obtain ⟨a2, rfl, hs⟩ := ns13.row rfl
        refine ⟨_, rfl, a2, _, rfl, (hs.same g1).or, fun L nL => ?_⟩
        · · have sL := same_upd (o := .lst (vals q2)) nL
            have d1 := Dt.lst (S := Any) (H := upd G1 L (.lst (vals q2))) (a := L) trivial upd_same (dt_vals q2)
            have d2 := Dt.lst (S := Any) trivial (sL _ _ (g1 _ _ I13.he)) (dt_vals y)
            refine ⟨_, rfl, _, _, d1.dp, d2.dp, shaped_vals _, shaped_vals _, rfl, _, rfl, ?_⟩
            have e : PyData.eqv (.list (q2.map datO)) (.list (y.map datO)) = decide (y = q2) := by
              show PyData.eqvAll (q2.map datO) (y.map datO) = _
              rw [eqv_opts]
              exact decide_eq_decide.mpr ⟨fun z => z.symm, fun z => z.symm⟩
            rw [e, decide_eq_true rfl]
            exact r _ sL
      · exact ⟨_, rfl, rfl, _, rfl, iteF (r _ (Same.refl _))⟩
    have I14 := I13.same s14
    clear I13 ns13
    -- equal patterns
    refine seq_not (H0 := H14) (ts_or (ts_not fun G1 g1 R r => ?_) (ts_or (fun G1 g1 R r => ?_) (ts_not fun G1 g1 R r => ?_))) (Same.refl _) fun H15 s15 => ?_
    · refine ⟨_, rfl, make_pat rfl (g1 _ _ I14.he) py ly40 fun G2 g s2 hg => ?_⟩
      have hx := (I14.hx.sm g1).sm s2
      obtain ⟨dx, tx, cx, ex, _⟩ := id hx
      obtain ⟨dg, tg, cg, eg, _⟩ := id hg
      refine ⟨x, dx, _, _, rfl, ex, .ins eg, EQ.nfS, ⟨x, .ref g, y, rfl, hx, .inl ⟨g, y, rfl, hg, _, rfl, _, rfl, ?_⟩⟩⟩
      rw [decide_eq_true rfl]
      exact r _ s2
    · have hx := I14.hx.sm g1
      refine ⟨_, rfl, _, rfl, e, _, rfl, .inl ⟨SqL.of (g1 _ _ I14.he), fun t nt => ?_⟩⟩
      have st := same_upd (o := .tup (vals y)) nt
      have hx := hx.sm st
      obtain ⟨dx, tx, cx, ex, _⟩ := id hx
      exact ⟨x, dx, _, _, rfl, ex, .tup upd_same, EQ.nfT, ⟨x, .ref t, y, rfl, hx, .inr ⟨t, _, rfl, upd_same, _, rfl, _, rfl, r _ st⟩⟩⟩
    · exact ⟨_, rfl, _, rfl, x, e, y, rfl, I14.hx.sm g1, g1 _ _ I14.he, fun H' s' => ⟨_, rfl, r _ s'⟩⟩
    have I15 := I14.same s15
    clear I14
    -- parts
    refine ⟨2, rfl, by decide, by decide, ?_⟩
    refine for_it walk_range (fun i σ G => ∃ x12 : Option V, σ = [some (.ref a), some (.ref p), some (.int (y.length : Int)), some (.ref e), some (.ref D), some (.ref x), some .non, some o, some (.str z), some w, some o2, some w2, x12] ∧ LI CP TL p l e x y G) ⟨none, rfl, I15⟩ (fun _ _ _ _ _ => trivial) ?_ ?_
    · rintro i v σ Hx G hi ⟨x12, rfl, I⟩ ⟨rfl, ev0⟩
      refine ⟨_, rfl, _, rfl, _, rfl, _, rfl, p, l, y.length, rfl, I.h, ly40, fun G2 zz xs2 ds k2 h2 nz ez sl lx => ?_⟩
      have I2 := I.kept k2 h2
      exact ⟨x, e, zz, y, xs2, ds, rfl, I2.hx, I2.he, ez, sl, lx, fun G3 s3 => ⟨_, rfl, iteF ⟨_, rfl, I2.same s3⟩⟩⟩
    · rintro σ G ⟨x12, rfl, I⟩
      refine ⟨_, rfl, _, rfl, _, rfl, p, l, x, y, rfl, I.h, I.hx, I.tb, fun G2 k2 t2 h2 => ⟨_, rfl, iteT ⟨_, rfl, _, rfl, p, l, y.length, rfl, h2, ly40, fun G3 k3 h3 => ⟨_, rfl, iteT ?_⟩⟩⟩⟩
      have I2 : LI CP TL p l e x y G2 := ⟨h2, k2 _ _ ep I.he (fun ps z => by cases z), pat_keptT I.hx I.h k2, t2⟩
      have I3 := I2.kept k3 h3
      exact ⟨_, rfl, _, rfl, x, e, y, rfl, I3.hx, I3.he, fun G4 s4 => q G4⟩
end
end K25

set_option maxHeartbeats 8000000
/-! the facts by the head, the end -/
namespace K25
open PySem PySem.Spec PyProof.Rows L2
theorem oexB_ok {K : PySem.W.Frag} {C : Addr} (h : oexB K C = true) : ∃ nm q N bs bm sn sub ab col dd k0 k1 k2 k3 k5, K.lookup C = some (excClassObj nm q C N bs bm true sn sub ab col dd k0 k1 k2 k3 k5 "ValueError.__new__") ∧ PySem.HandSPX.refsVE bm = true := by
  unfold oexB at h
  split at h
  · rename_i t dd cd sl e
    obtain ⟨h1, h2⟩ := Bool.and_eq_true_iff.mp h
    have et := of_decide_eq_true h1
    split at h2
    · rename_i C' bm k0 k1 k2 k3 n k5 hm hs
      obtain ⟨h3, h4⟩ := Bool.and_eq_true_iff.mp h2
      obtain ⟨h5, h6⟩ := Bool.and_eq_true_iff.mp h4
      obtain ⟨h7, h8⟩ := Bool.and_eq_true_iff.mp h6
      obtain ⟨h9, h10⟩ := Bool.and_eq_true_iff.mp h8
      have eC := of_decide_eq_true h3
      have en := of_decide_eq_true h5
      obtain ⟨nm, bs, mro, ns, qn, hd, sn, sb, ab, col, del⟩ := cd
      dsimp only at hm h7 h9
      have e9 : del = false := by
        cases del with
        | false => rfl
        | true => cases h9
      have es : sl = #[k0, k1, k2, k3, some (.builtin n), k5] := by
        cases sl
        exact congrArg Array.mk hs
      subst et eC en e9 hm es h7
      exact ⟨nm, qn, ns, bs, bm, sn, sb, ab, col, dd, k0, k1, k2, k3, k5, e, h10⟩
    · cases h2
  · cases h
theorem b2 {a b : Bool} (h : (a && b) = true) : a = true ∧ b = true := Bool.and_eq_true_iff.mp h
/-- what the head says of an error -/
structure BadF (K : PySem.W.Frag) (D : Addr) : Prop where
  ox : OexC K D
  xf : XfC K D
  cl : PySem.W.findIn K (.ref D) "__class__" = some (some (.builtin "object.__class__"))
  ob : PySem.W.mroIn K D (.type "object") = some true
  ini : PySem.W.findIn K (.ref D) "__init__" = some (some (.ref (He.ma K D "__init__")))
  ty : PySem.W.typeIn K (.ref (He.ma K D "__init__")) = some (.type "function")
theorem badE_ok {K : PySem.W.Frag} {D : Addr} (h : badE K D = true) : BadF K D := by
  obtain ⟨x1, h⟩ := b2 h
  obtain ⟨x2, h⟩ := b2 h
  obtain ⟨x3, x4⟩ := b2 h
  obtain ⟨h1, h⟩ := b2 x2
  obtain ⟨h2, h⟩ := b2 h
  obtain ⟨h3, h⟩ := b2 h
  obtain ⟨h4, h⟩ := b2 h
  obtain ⟨h5, h⟩ := b2 h
  obtain ⟨h6, h⟩ := b2 h
  obtain ⟨h7, h⟩ := b2 h
  obtain ⟨h8, h9⟩ := b2 h
  have xf : XfC K D := ⟨of_decide_eq_true h1, of_decide_eq_true h2, of_decide_eq_true h3, h4⟩
  exact ⟨⟨oexB_ok x1, of_decide_eq_true h7, xf.exC, of_decide_eq_true h8, h9⟩, xf, of_decide_eq_true h5, of_decide_eq_true h6, of_decide_eq_true x3, of_decide_eq_true x4⟩
theorem proB_ok {K : PySem.W.Frag} (h : proB K = true) : PropOf K (He.ga K "Pattern") "class_count" (pA K) (gA K) := by
  obtain ⟨h1, h⟩ := b2 h
  obtain ⟨h2, h⟩ := b2 h
  obtain ⟨h3, h4⟩ := b2 h
  refine ⟨of_decide_eq_true h1, of_decide_eq_true h2, of_decide_eq_true h3, ?_⟩
  unfold gA
  cases e : PySem.W.recIn K (pA K) "property" with
  | none => rw [e] at h4; cases h4
  | some l =>
    rw [e] at h4
    match l, h4 with
    | .ref g :: rest, _ => exact ⟨rest, rfl⟩
theorem funG {K : PySem.W.Frag} (e : gW K = valM.2.2.1) (c : gB K = true) :
    ∃ fd, FunD K "class_count" "Pattern.class_count" (defArgs sCount0) (defBody sCount0) (defScope sCount0) [] [] (gA K) fd := by
  obtain ⟨kp, c2⟩ := b2 c
  unfold gW at e
  cases hq : K.lookup (gA K) with
  | none =>
    rw [hq] at e
    cases e
  | some ob =>
    obtain ⟨kc, kd, kt, ks⟩ := ob
    rw [hq] at c2 e
    cases kt with
    | func dd =>
      obtain ⟨m1, m2, m3, m4, m5, m6, m7, m8, m9, m10, m11, m12, m13, m14, m15⟩ := dd
      have ee : (some (m1, m2, m3, m4, m5, m6, m7, m15) : He.FnW) = some (("class_count" : Str), ("Pattern.class_count" : Str), defArgs sCount0, FuncBody.stmts (defBody sCount0), defScope sCount0, mainGlobals, ([] : List (Str × Addr)), builtinsNs) := e
      simp only [Option.some.injEq, Prod.mk.injEq] at ee
      obtain ⟨a1, a2, a3, a4, a5, a6, a7, a8⟩ := ee
      subst a1 a2 a3 a4 a5 a6 a7 a8
      obtain ⟨l1, l2⟩ := b2 (show (PySem.W.codeIn K m13 "Pattern.class_count" && (He.dflB K m8 [] && He.kwdB K m9 [])) = true from c2)
      obtain ⟨l3, l4⟩ := b2 l2
      exact ⟨_, ⟨kc, kd, m8, m9, m10, m11, m12, m13, m14, ks, rfl, hq, l1, He.dflB_ok l3, He.kwdB_ok l4⟩, kp⟩
    | _ => cases e
section
variable {P : Program} {w : World} {K : PySem.W.Frag} {mg : Str → Option Value} {base : Heap}
theorem SaysM.all (c : SaysM K) : ((fa.all fun f => f.ok K) && (restB K && fn.all fun d => d.ok K)) = true := congrArg (fun z : AlM => z.1) c
theorem SaysM.fact_ (c : SaysM K) (i : Nat) {f : He.Fa} (h : fa[i]? = some f) : f.ok K = true := List.all_eq_true.mp (b2 c.all).1 f (List.mem_of_getElem? h)
theorem SaysM.rest (c : SaysM K) : restB K = true := (b2 (b2 c.all).2).1
theorem SaysM.prop (c : SaysM K) : gW K = valM.2.2.1 := congrArg (fun z : AlM => z.2.2.1) c
theorem SaysM.on (c : SaysM K) : He5.fnA K (dOn.at_ K) = dOn.val := congrArg (fun z : AlM => z.2.2.2) c
theorem SaysM.def_ (c : SaysM K) (i : Nat) {d : He.DefD} (h : fn[i]? = some d) : ∃ fd, FunD K d.name d.qual d.params d.body d.scope (d.dvs K) (d.kws K) (He.fAd K d.at_) fd := by
  have c2 := (b2 (b2 c.all).2).2
  have e : fn.map (fun d => He.fnW K d.at_) = fn.map He.DefD.val := congrArg (fun z : AlM => z.2.1) c
  have e2 : (fn.map fun d => He.fnW K d.at_)[i]? = (fn.map He.DefD.val)[i]? := by rw [e]
  rw [List.getElem?_map, List.getElem?_map, h] at e2
  exact He.DefD.funD (Option.some.inj e2) (List.all_eq_true.mp c2 d (List.mem_of_getElem? h))
/-- the tables -/
def TL (K : PySem.W.Frag) : List (Addr × Str) := [((He.cT K ("_law_odd_places", none)).2, qOp)]
theorem cread_of {C : Addr} (h : PySem.W.readsIn K C (.type "type") = true) : ClX.CRead K C (.type "type") := by
  refine ⟨h, ?_⟩
  unfold PySem.W.readsIn at h
  obtain ⟨h, _⟩ := b2 h
  obtain ⟨h, _⟩ := b2 h
  obtain ⟨h, h3⟩ := b2 h
  obtain ⟨_, h2⟩ := b2 h
  unfold PySem.W.specialIn
  rw [beq_iff_eq.mp h2, Option.bind_some]
  exact beq_iff_eq.mp h3
/-- with its code object known -/
theorem funC_of {x qual : Str} {params : Arguments} {body : List Stmt} {scope : Scope} {p : He.Defn} {fd : FuncData} (F : FunD K x qual params body scope [] [] (He.fAd K p) fd) : FunC K x qual params body scope (He.codeOf K p) (He.fAd K p) fd := by
  obtain ⟨oc, od, dV, kV, doc, pm, an, cdv, ct, osl, rfl, lk, hcd, _, _⟩ := F.ex
  obtain ⟨c, rfl⟩ := He.codeIn_ref hcd
  have e := He.codeOf_eq lk rfl
  rw [e]
  exact ⟨oc, od, dV, kV, doc, pm, an, ct, osl, rfl, lk, hcd⟩
theorem facts {h : Heap} {f : Addr} (X : K.In h) (G : h.Ns mainGlobals mg) (hfa : mg ("law" : Str) = some (.ref f)) (c : SaysM K) :
    ∃ fd : FuncData, (∀ (s : Shared) (v : Value), BindsTo s fd ⟨[v], []⟩ [("_law_script", v)]) ∧ ∀ base : Heap, K.In base → base.Ns mainGlobals mg → (∀ p ∈ tf, LamX.TabB base mg (He.cT K p).1 (He.cT K p).2) → GrdX.FnG P w K mg base CX0 9 f fd ["_law_script"] (spLaw K (TL K)) := by
  have m1 : ((He.cT K ("_law_odd_places", none)).2, qOp) ∈ TL K := List.mem_cons_self ..
  have u1 : ∀ p ∈ TL K, p.1 = (He.cT K ("_law_odd_places", none)).2 → p.2 = qOp := fun p hp e => by
    rcases List.mem_cons.mp hp with rfl | hp
    · rfl
    cases hp
  have z_int : mg "int" = none := He.free_ok X G (c.fact_ 0 (f := .free "int") rfl)
  have z_bool : mg "bool" = none := He.free_ok X G (c.fact_ 1 (f := .free "bool") rfl)
  have z_isinstance : mg "isinstance" = none := He.free_ok X G (c.fact_ 2 (f := .free "isinstance") rfl)
  have z_len : mg "len" = none := He.free_ok X G (c.fact_ 3 (f := .free "len") rfl)
  have z_list : mg "list" = none := He.free_ok X G (c.fact_ 4 (f := .free "list") rfl)
  have z_tuple : mg "tuple" = none := He.free_ok X G (c.fact_ 5 (f := .free "tuple") rfl)
  have z_enumerate : mg "enumerate" = none := He.free_ok X G (c.fact_ 6 (f := .free "enumerate") rfl)
  have z_range : mg "range" = none := He.free_ok X G (c.fact_ 7 (f := .free "range") rfl)
  have z_abs : mg "abs" = none := He.free_ok X G (c.fact_ 8 (f := .free "abs") rfl)
  have z_max : mg "max" = none := He.free_ok X G (c.fact_ 9 (f := .free "max") rfl)
  have z_repr : mg "repr" = none := He.free_ok X G (c.fact_ 10 (f := .free "repr") rfl)
  have z_type : mg "type" = none := He.free_ok X G (c.fact_ 11 (f := .free "type") rfl)
  have z_iter : mg "iter" = none := He.free_ok X G (c.fact_ 12 (f := .free "iter") rfl)
  have g_is_whole : mg "is_whole" = some (.ref (He.ga K "is_whole")) := He.glo_ok X G (c.fact_ 13 (f := .glo "is_whole") rfl)
  have g_is_name : mg "is_name" = some (.ref (He.ga K "is_name")) := He.glo_ok X G (c.fact_ 14 (f := .glo "is_name") rfl)
  have g_is_sequence : mg "is_sequence" = some (.ref (He.ga K "is_sequence")) := He.glo_ok X G (c.fact_ 15 (f := .glo "is_sequence") rfl)
  have g_numbered : mg "numbered" = some (.ref (He.ga K "numbered")) := He.glo_ok X G (c.fact_ 16 (f := .glo "numbered") rfl)
  have g__entries_fault : mg "_entries_fault" = some (.ref (He.ga K "_entries_fault")) := He.glo_ok X G (c.fact_ 17 (f := .glo "_entries_fault") rfl)
  have g_check_names : mg "check_names" = some (.ref (He.ga K "check_names")) := He.glo_ok X G (c.fact_ 18 (f := .glo "check_names") rfl)
  have g__law_mix : mg "_law_mix" = some (.ref (He.ga K "_law_mix")) := He.glo_ok X G (c.fact_ 19 (f := .glo "_law_mix") rfl)
  have g__law_hand : mg "_law_hand" = some (.ref (He.ga K "_law_hand")) := He.glo_ok X G (c.fact_ 20 (f := .glo "_law_hand") rfl)
  have g__law_draw : mg "_law_draw" = some (.ref (He.ga K "_law_draw")) := He.glo_ok X G (c.fact_ 21 (f := .glo "_law_draw") rfl)
  have g__law_pick : mg "_law_pick" = some (.ref (He.ga K "_law_pick")) := He.glo_ok X G (c.fact_ 22 (f := .glo "_law_pick") rfl)
  have g__law_entries : mg "_law_entries" = some (.ref (He.ga K "_law_entries")) := He.glo_ok X G (c.fact_ 23 (f := .glo "_law_entries") rfl)
  have g__law_numbers : mg "_law_numbers" = some (.ref (He.ga K "_law_numbers")) := He.glo_ok X G (c.fact_ 24 (f := .glo "_law_numbers") rfl)
  have g__law_size : mg "_law_size" = some (.ref (He.ga K "_law_size")) := He.glo_ok X G (c.fact_ 25 (f := .glo "_law_size") rfl)
  have g__law_whole : mg "_law_whole" = some (.ref (He.ga K "_law_whole")) := He.glo_ok X G (c.fact_ 26 (f := .glo "_law_whole") rfl)
  have g__law_same : mg "_law_same" = some (.ref (He.ga K "_law_same")) := He.glo_ok X G (c.fact_ 27 (f := .glo "_law_same") rfl)
  have g__law_spoilt : mg "_law_spoilt" = some (.ref (He.ga K "_law_spoilt")) := He.glo_ok X G (c.fact_ 28 (f := .glo "_law_spoilt") rfl)
  have g__law_fault : mg "_law_fault" = some (.ref (He.ga K "_law_fault")) := He.glo_ok X G (c.fact_ 29 (f := .glo "_law_fault") rfl)
  have g__law_made : mg "_law_made" = some (.ref (He.ga K "_law_made")) := He.glo_ok X G (c.fact_ 30 (f := .glo "_law_made") rfl)
  have g__law_names_fault : mg "_law_names_fault" = some (.ref (He.ga K "_law_names_fault")) := He.glo_ok X G (c.fact_ 31 (f := .glo "_law_names_fault") rfl)
  have g__law_shown : mg "_law_shown" = some (.ref (He.ga K "_law_shown")) := He.glo_ok X G (c.fact_ 32 (f := .glo "_law_shown") rfl)
  have g__law_place_error : mg "_law_place_error" = some (.ref (He.ga K "_law_place_error")) := He.glo_ok X G (c.fact_ 33 (f := .glo "_law_place_error") rfl)
  have g__law_reads : mg "_law_reads" = some (.ref (He.ga K "_law_reads")) := He.glo_ok X G (c.fact_ 34 (f := .glo "_law_reads") rfl)
  have g__law_places : mg "_law_places" = some (.ref (He.ga K "_law_places")) := He.glo_ok X G (c.fact_ 35 (f := .glo "_law_places") rfl)
  have g__law_part_right : mg "_law_part_right" = some (.ref (He.ga K "_law_part_right")) := He.glo_ok X G (c.fact_ 36 (f := .glo "_law_part_right") rfl)
  have g__law_odd_places : mg "_law_odd_places" = some (.ref (He.ga K "_law_odd_places")) := He.glo_ok X G (c.fact_ 37 (f := .glo "_law_odd_places") rfl)
  have g__law_rows_right : mg "_law_rows_right" = some (.ref (He.ga K "_law_rows_right")) := He.glo_ok X G (c.fact_ 38 (f := .glo "_law_rows_right") rfl)
  have g_law : mg "law" = some (.ref (He.ga K "law")) := He.glo_ok X G (c.fact_ 39 (f := .glo "law") rfl)
  have g_Pattern : mg "Pattern" = some (.ref (He.ga K "Pattern")) := He.glo_ok X G (c.fact_ 40 (f := .glo "Pattern") rfl)
  have g_BadPattern : mg "BadPattern" = some (.ref (He.ga K "BadPattern")) := He.glo_ok X G (c.fact_ 41 (f := .glo "BadPattern") rfl)
  have g_BadNames : mg "BadNames" = some (.ref (He.ga K "BadNames")) := He.glo_ok X G (c.fact_ 42 (f := .glo "BadNames") rfl)
  have g_BadPlaces : mg "BadPlaces" = some (.ref (He.ga K "BadPlaces")) := He.glo_ok X G (c.fact_ 43 (f := .glo "BadPlaces") rfl)
  have g_BadClass : mg "BadClass" = some (.ref (He.ga K "BadClass")) := He.glo_ok X G (c.fact_ 44 (f := .glo "BadClass") rfl)
  have g_MOST_PLACES : ∃ t, mg "MOST_PLACES" = some (.int 40 t) := He.int_ok X G (c.fact_ 45 (f := .int "MOST_PLACES" 40) rfl)
  have g_MOST_NAME : ∃ t, mg "MOST_NAME" = some (.int (10 ^ 30) t) := He.int_ok X G (c.fact_ 46 (f := .int "MOST_NAME" (10 ^ 30)) rfl)
  obtain ⟨d_is_whole, F_is_whole⟩ := c.def_ 0 rfl
  obtain ⟨d_is_name, F_is_name⟩ := c.def_ 1 rfl
  obtain ⟨d_is_sequence, F_is_sequence⟩ := c.def_ 2 rfl
  obtain ⟨d_numbered, F_numbered⟩ := c.def_ 3 rfl
  obtain ⟨d__entries_fault, F__entries_fault⟩ := c.def_ 4 rfl
  obtain ⟨d_check_names, F_check_names⟩ := c.def_ 5 rfl
  obtain ⟨d__law_mix, F__law_mix⟩ := c.def_ 6 rfl
  obtain ⟨d__law_hand, F__law_hand⟩ := c.def_ 7 rfl
  obtain ⟨d__law_draw, F__law_draw⟩ := c.def_ 8 rfl
  obtain ⟨d__law_pick, F__law_pick⟩ := c.def_ 9 rfl
  obtain ⟨d__law_entries, F__law_entries⟩ := c.def_ 10 rfl
  obtain ⟨d__law_numbers, F__law_numbers⟩ := c.def_ 11 rfl
  obtain ⟨d__law_size, F__law_size⟩ := c.def_ 12 rfl
  obtain ⟨d__law_whole, F__law_whole⟩ := c.def_ 13 rfl
  obtain ⟨d__law_same, F__law_same⟩ := c.def_ 14 rfl
  obtain ⟨d__law_spoilt, F__law_spoilt⟩ := c.def_ 15 rfl
  obtain ⟨d__law_fault, F__law_fault⟩ := c.def_ 16 rfl
  obtain ⟨d__law_made, F__law_made⟩ := c.def_ 17 rfl
  obtain ⟨d__law_names_fault, F__law_names_fault⟩ := c.def_ 18 rfl
  obtain ⟨d__law_shown, F__law_shown⟩ := c.def_ 19 rfl
  obtain ⟨d__law_place_error, F__law_place_error⟩ := c.def_ 20 rfl
  obtain ⟨d__law_reads, F__law_reads⟩ := c.def_ 21 rfl
  obtain ⟨d__law_places, F__law_places⟩ := c.def_ 22 rfl
  obtain ⟨d__law_part_right, F__law_part_right⟩ := c.def_ 23 rfl
  obtain ⟨d__law_odd_places, F__law_odd_places⟩ := c.def_ 24 rfl
  obtain ⟨d__law_rows_right, F__law_rows_right⟩ := c.def_ 25 rfl
  obtain ⟨d_law, F_law⟩ := c.def_ 26 rfl
  obtain ⟨d_BadPattern__init__, F_BadPattern__init__⟩ := c.def_ 27 rfl
  obtain ⟨d_BadNames__init__, F_BadNames__init__⟩ := c.def_ 28 rfl
  obtain ⟨d_BadPlaces__init__, F_BadPlaces__init__⟩ := c.def_ 29 rfl
  obtain ⟨d_BadClass__init__, F_BadClass__init__⟩ := c.def_ 30 rfl
  obtain ⟨d_Pattern__init__, F_Pattern__init__⟩ := c.def_ 31 rfl
  obtain ⟨d_Patternclass_at, F_Patternclass_at⟩ := c.def_ 32 rfl
  obtain ⟨d_Patternplaces_of, F_Patternplaces_of⟩ := c.def_ 33 rfl
  obtain ⟨d_Patternare_alike, F_Patternare_alike⟩ := c.def_ 34 rfl
  obtain ⟨d_Patternat_places, F_Patternat_places⟩ := c.def_ 35 rfl
  obtain ⟨d_Pattern_check_place, F_Pattern_check_place⟩ := c.def_ 36 rfl
  obtain ⟨d_Pattern__eq__, F_Pattern__eq__⟩ := c.def_ 37 rfl
  obtain ⟨d_Pattern__len__, F_Pattern__len__⟩ := c.def_ 38 rfl
  obtain ⟨d_Pattern__iter__, F_Pattern__iter__⟩ := c.def_ 39 rfl
  have b_is_whole : Binds K d_is_whole ["thing", "low", "high"] [] := FunD.bindsN F_is_whole fun _ _ _ _ _ _ us hl => match us, hl with | [_, _, _], _ => rfl
  have b_is_name : Binds K d_is_name ["thing"] [] := FunD.bindsN F_is_name fun _ _ _ _ _ _ us hl => match us, hl with | [_], _ => rfl
  have b_is_sequence : Binds K d_is_sequence ["thing"] [] := FunD.bindsN F_is_sequence fun _ _ _ _ _ _ us hl => match us, hl with | [_], _ => rfl
  have b_numbered : Binds K d_numbered ["values"] [] := FunD.bindsN F_numbered fun _ _ _ _ _ _ us hl => match us, hl with | [_], _ => rfl
  have b__entries_fault : Binds K d__entries_fault ["entries"] [] := FunD.bindsN F__entries_fault fun _ _ _ _ _ _ us hl => match us, hl with | [_], _ => rfl
  have b_check_names : Binds K d_check_names ["names"] [] := FunD.bindsN F_check_names fun _ _ _ _ _ _ us hl => match us, hl with | [_], _ => rfl
  have b__law_mix : Binds K d__law_mix ["_law_number", "_law_turn"] [] := FunD.bindsN F__law_mix fun _ _ _ _ _ _ us hl => match us, hl with | [_, _], _ => rfl
  have b__law_hand : Binds K d__law_hand ["_law_script"] [] := FunD.bindsN F__law_hand fun _ _ _ _ _ _ us hl => match us, hl with | [_], _ => rfl
  have b__law_draw : Binds K d__law_draw ["_law_hand_here", "_law_many"] [] := FunD.bindsN F__law_draw fun _ _ _ _ _ _ us hl => match us, hl with | [_, _], _ => rfl
  have b__law_pick : Binds K d__law_pick ["_law_hand_here", "_law_things"] [] := FunD.bindsN F__law_pick fun _ _ _ _ _ _ us hl => match us, hl with | [_, _], _ => rfl
  have b__law_entries : Binds K d__law_entries ["_law_hand_here", "_law_size_here", "_law_empty"] [] := FunD.bindsN F__law_entries fun _ _ _ _ _ _ us hl => match us, hl with | [_, _, _], _ => rfl
  have b__law_numbers : Binds K d__law_numbers ["_law_things"] [] := FunD.bindsN F__law_numbers fun _ _ _ _ _ _ us hl => match us, hl with | [_], _ => rfl
  have b__law_size : Binds K d__law_size ["_law_hand_here"] [] := FunD.bindsN F__law_size fun _ _ _ _ _ _ us hl => match us, hl with | [_], _ => rfl
  have b__law_whole : Binds K d__law_whole ["_law_thing"] [] := FunD.bindsN F__law_whole fun _ _ _ _ _ _ us hl => match us, hl with | [_], _ => rfl
  have b__law_same : Binds K d__law_same ["_law_told", "_law_due"] [] := FunD.bindsN F__law_same fun _ _ _ _ _ _ us hl => match us, hl with | [_, _], _ => rfl
  have b__law_spoilt : Binds K d__law_spoilt ["_law_hand_here", "_law_entries_here"] [] := FunD.bindsN F__law_spoilt fun _ _ _ _ _ _ us hl => match us, hl with | [_, _], _ => rfl
  have b__law_fault : Binds K d__law_fault ["_law_thing"] [] := FunD.bindsN F__law_fault fun _ _ _ _ _ _ us hl => match us, hl with | [_], _ => rfl
  have b__law_made : Binds K d__law_made ["_law_thing"] [] := FunD.bindsN F__law_made fun _ _ _ _ _ _ us hl => match us, hl with | [_], _ => rfl
  have b__law_names_fault : Binds K d__law_names_fault ["_law_thing"] [] := FunD.bindsN F__law_names_fault fun _ _ _ _ _ _ us hl => match us, hl with | [_], _ => rfl
  have b__law_shown : Binds K d__law_shown ["_law_thing"] [] := FunD.bindsN F__law_shown fun _ _ _ _ _ _ us hl => match us, hl with | [_], _ => rfl
  have b__law_place_error : Binds K d__law_place_error ["_law_call"] [] := FunD.bindsN F__law_place_error fun _ _ _ _ _ _ us hl => match us, hl with | [_], _ => rfl
  have b__law_reads : Binds K d__law_reads ["_law_pattern", "_law_entries_here"] [] := FunD.bindsN F__law_reads fun _ _ _ _ _ _ us hl => match us, hl with | [_, _], _ => rfl
  have b__law_places : Binds K d__law_places ["_law_hand_here", "_law_size_here"] [] := FunD.bindsN F__law_places fun _ _ _ _ _ _ us hl => match us, hl with | [_, _], _ => rfl
  have b__law_part_right : Binds K d__law_part_right ["_law_pattern", "_law_entries_here", "_law_places_here"] [] := FunD.bindsN F__law_part_right fun _ _ _ _ _ _ us hl => match us, hl with | [_, _, _], _ => rfl
  have b__law_odd_places : Binds K d__law_odd_places ["_law_hand_here", "_law_pattern", "_law_size_here"] [] := FunD.bindsN F__law_odd_places fun _ _ _ _ _ _ us hl => match us, hl with | [_, _, _], _ => rfl
  have b__law_rows_right : Binds K d__law_rows_right ["_law_hand_here", "_law_size_here"] [] := FunD.bindsN F__law_rows_right fun _ _ _ _ _ _ us hl => match us, hl with | [_, _], _ => rfl
  have b_BadPattern__init__ : Binds K d_BadPattern__init__ ["self", "index", "what"] [] := FunD.bindsN F_BadPattern__init__ fun _ _ _ _ _ _ us hl => match us, hl with | [_, _, _], _ => rfl
  have b_BadNames__init__ : Binds K d_BadNames__init__ ["self", "index", "what"] [] := FunD.bindsN F_BadNames__init__ fun _ _ _ _ _ _ us hl => match us, hl with | [_, _, _], _ => rfl
  have b_BadPlaces__init__ : Binds K d_BadPlaces__init__ ["self", "index", "what"] [] := FunD.bindsN F_BadPlaces__init__ fun _ _ _ _ _ _ us hl => match us, hl with | [_, _, _], _ => rfl
  have b_BadClass__init__ : Binds K d_BadClass__init__ ["self", "number"] [] := FunD.bindsN F_BadClass__init__ fun _ _ _ _ _ _ us hl => match us, hl with | [_, _], _ => rfl
  have b_Pattern__init__ : Binds K d_Pattern__init__ ["self", "entries"] [] := FunD.bindsN F_Pattern__init__ fun _ _ _ _ _ _ us hl => match us, hl with | [_, _], _ => rfl
  have b_Patternclass_at : Binds K d_Patternclass_at ["self", "place"] [] := FunD.bindsN F_Patternclass_at fun _ _ _ _ _ _ us hl => match us, hl with | [_, _], _ => rfl
  have b_Patternplaces_of : Binds K d_Patternplaces_of ["self", "number"] [] := FunD.bindsN F_Patternplaces_of fun _ _ _ _ _ _ us hl => match us, hl with | [_, _], _ => rfl
  have b_Patternare_alike : Binds K d_Patternare_alike ["self", "one", "other"] [] := FunD.bindsN F_Patternare_alike fun _ _ _ _ _ _ us hl => match us, hl with | [_, _, _], _ => rfl
  have b_Patternat_places : Binds K d_Patternat_places ["self", "places"] [] := FunD.bindsN F_Patternat_places fun _ _ _ _ _ _ us hl => match us, hl with | [_, _], _ => rfl
  have b_Pattern_check_place : Binds K d_Pattern_check_place ["self", "index", "place"] [] := FunD.bindsN F_Pattern_check_place fun _ _ _ _ _ _ us hl => match us, hl with | [_, _, _], _ => rfl
  have b_Pattern__eq__ : Binds K d_Pattern__eq__ ["self", "other"] [] := FunD.bindsN F_Pattern__eq__ fun _ _ _ _ _ _ us hl => match us, hl with | [_, _], _ => rfl
  have b_Pattern__len__ : Binds K d_Pattern__len__ ["self"] [] := FunD.bindsN F_Pattern__len__ fun _ _ _ _ _ _ us hl => match us, hl with | [_], _ => rfl
  have b_Pattern__iter__ : Binds K d_Pattern__iter__ ["self"] [] := FunD.bindsN F_Pattern__iter__ fun _ _ _ _ _ _ us hl => match us, hl with | [_], _ => rfl
  have T : PatC K (He.ga K "Pattern") := ⟨(He.cls_ok (c.fact_ 47 (f := .cls "Pattern") rfl)), (He.noat_ok (c.fact_ 49 (f := .noat "Pattern" "entries") rfl)), (He.noat_ok (c.fact_ 50 (f := .noat "Pattern" "_classes") rfl))⟩
  obtain ⟨r1, r⟩ := b2 c.rest
  obtain ⟨r2, r⟩ := b2 r
  obtain ⟨r3, r⟩ := b2 r
  obtain ⟨r4, r⟩ := b2 r
  obtain ⟨r5, r⟩ := b2 r
  obtain ⟨r6, r⟩ := b2 r
  obtain ⟨rw, r⟩ := b2 r
  obtain ⟨ro, r⟩ := b2 r
  obtain ⟨r7, r8⟩ := b2 r
  have bP := badE_ok r1
  have bN := badE_ok r2
  have bB := badE_ok r3
  have bC := badE_ok r4
  obtain ⟨e1, r5⟩ := b2 r5
  obtain ⟨e2, r5⟩ := b2 r5
  obtain ⟨e3, e4⟩ := b2 r5
  obtain ⟨w1, w2⟩ := He5.wrapB_ok rw
  obtain ⟨d_on, F_on⟩ := He5.DefA.funD c.on ro
  have b_on : Binds K d_on ["names"] [] := FunD.bindsN F_on fun _ _ _ _ _ _ us hl => match us, hl with | [_], _ => rfl
  obtain ⟨d_count, F_count⟩ := funG c.prop r8
  have b_count : Binds K d_count ["self"] [] := FunD.bindsN F_count fun _ _ _ _ _ _ us hl => match us, hl with | [_], _ => rfl
  have e := hfa.symm.trans g_law
  cases e
  have b_law := FunD.bindsA (ps := ["_law_script"]) F_law fun _ _ _ _ _ _ us hl => match us, hl with | [_], _ => rfl
  refine ⟨d_law, fun s v => b_law s [v] rfl, fun base KX KG TB => ?_⟩
  have TB1 := TB ("_law_odd_places", none) (List.mem_cons_self ..)
  have D_is_whole : Df P w K mg base "is_whole" 1 ["thing", "low", "high"] spWhole (He.ga K "is_whole") d_is_whole := ⟨g_is_whole, ok_whole F_is_whole z_int z_bool z_isinstance, b_is_whole, F_is_whole.kp⟩
  have D_is_name : Df P w K mg base "is_name" 2 ["thing"] spName (He.ga K "is_name") d_is_name := ⟨g_is_name, ok_name F_is_name D_is_whole.ok D_is_whole.bi D_is_whole.kp D_is_whole.gl g_MOST_NAME, b_is_name, F_is_name.kp⟩
  have D_is_sequence : Df P w K mg base "is_sequence" 1 ["thing"] spSeq (He.ga K "is_sequence") d_is_sequence := ⟨g_is_sequence, ok_seq F_is_sequence z_list z_tuple z_isinstance, b_is_sequence, F_is_sequence.kp⟩
  have D__entries_fault : Df P w K mg base "_entries_fault" 2 ["entries"] spEF (He.ga K "_entries_fault") d__entries_fault := ⟨g__entries_fault, ok_ef F__entries_fault z_len z_enumerate z_isinstance z_int z_bool g_MOST_PLACES D_is_sequence, b__entries_fault, F__entries_fault.kp⟩
  have XP : ErrC P w K mg base "BadPattern" ["self", "index", "what"] spPatErr (He.ga K "BadPattern") _ d_BadPattern__init__ := ⟨bP.ox, bP.ini, bP.ty, g_BadPattern, ok_patErr F_BadPattern__init__ bP.ox (He.noat_ok (c.fact_ 59 (f := .noat "BadPattern" "index") rfl)) (He.noat_ok (c.fact_ 60 (f := .noat "BadPattern" "what") rfl)), b_BadPattern__init__⟩
  have XN : ErrC P w K mg base "BadNames" ["self", "index", "what"] spPatErr (He.ga K "BadNames") _ d_BadNames__init__ := ⟨bN.ox, bN.ini, bN.ty, g_BadNames, ok_nmErr F_BadNames__init__ bN.ox (He.noat_ok (c.fact_ 61 (f := .noat "BadNames" "index") rfl)) (He.noat_ok (c.fact_ 62 (f := .noat "BadNames" "what") rfl)), b_BadNames__init__⟩
  have XB : ErrC P w K mg base "BadPlaces" ["self", "index", "what"] spPatErr (He.ga K "BadPlaces") _ d_BadPlaces__init__ := ⟨bB.ox, bB.ini, bB.ty, g_BadPlaces, ok_plErr F_BadPlaces__init__ bB.ox (He.noat_ok (c.fact_ 63 (f := .noat "BadPlaces" "index") rfl)) (He.noat_ok (c.fact_ 64 (f := .noat "BadPlaces" "what") rfl)), b_BadPlaces__init__⟩
  have XC : ErrC P w K mg base "BadClass" ["self", "number"] spClErr (He.ga K "BadClass") _ d_BadClass__init__ := ⟨bC.ox, bC.ini, bC.ty, g_BadClass, ok_clErr F_BadClass__init__ bC.ox (He.noat_ok (c.fact_ 65 (f := .noat "BadClass" "number") rfl)), b_BadClass__init__⟩
  have M : PatMk P w K mg base (He.ga K "Pattern") (He.ga K "BadPattern") _ d_Pattern__init__ := ⟨(He.mkr_ok (c.fact_ 48 (f := .mkr "Pattern") rfl)), g_Pattern, ok_pat F_Pattern__init__ T z_tuple z_max D__entries_fault XP, b_Pattern__init__⟩
  have PR : CountP P w K mg base (He.ga K "Pattern") (pA K) (gA K) d_count := ⟨proB_ok r7, ok_count F_count T, b_count⟩
  have D_numbered : Df P w K mg base "numbered" 1 ["values"] spNbS (He.ga K "numbered") d_numbered := ⟨g_numbered, ok_nbS F_numbered z_len, b_numbered, F_numbered.kp⟩
  have D_check_names : DfE P w K mg base "check_names" 3 ["names"] (spCN (He.ga K "BadNames")) (He.ga K "check_names") d_check_names := ⟨g_check_names, ok_cn F_check_names z_len z_enumerate g_MOST_PLACES D_is_sequence D_is_name XN, b_check_names, F_check_names.kp⟩
  have mCP : MethM P w K mg base (He.ga K "Pattern") "_check_place" 3 ["self", "index", "place"] (spCP (He.ga K "Pattern") (He.ga K "BadPlaces")) _ d_Pattern_check_place := ⟨(He.meth_ok (c.fact_ 55 (f := .meth "Pattern" "_check_place") rfl)), ok_cp F_Pattern_check_place T z_len D_is_whole XB, b_Pattern_check_place⟩
  have mCA : MethM P w K mg base (He.ga K "Pattern") "class_at" 4 ["self", "place"] (spCA (He.ga K "Pattern") (He.ga K "BadPlaces")) _ d_Patternclass_at := ⟨(He.meth_ok (c.fact_ 51 (f := .meth "Pattern" "class_at") rfl)), ok_ca F_Patternclass_at T mCP, b_Patternclass_at⟩
  have mAA : MethM P w K mg base (He.ga K "Pattern") "are_alike" 4 ["self", "one", "other"] (spAA (He.ga K "Pattern") (He.ga K "BadPlaces")) _ d_Patternare_alike := ⟨(He.meth_ok (c.fact_ 53 (f := .meth "Pattern" "are_alike") rfl)), ok_aa F_Patternare_alike T mCP, b_Patternare_alike⟩
  have mPl : MethM P w K mg base (He.ga K "Pattern") "places_of" 3 ["self", "number"] (spPl (He.ga K "Pattern") (He.ga K "BadClass")) _ d_Patternplaces_of := ⟨(He.meth_ok (c.fact_ 52 (f := .meth "Pattern" "places_of") rfl)), ok_pl F_Patternplaces_of T z_tuple z_enumerate D_is_whole XC, b_Patternplaces_of⟩
  have mAP : MethM P w K mg base (He.ga K "Pattern") "at_places" 5 ["self", "places"] (spAP (He.ga K "Pattern") (He.ga K "BadPlaces")) _ d_Patternat_places := ⟨(He.meth_ok (c.fact_ 54 (f := .meth "Pattern" "at_places") rfl)), ok_ap F_Patternat_places T z_len z_enumerate g_MOST_PLACES D_is_sequence mCP D_numbered M XB, b_Patternat_places⟩
  have ON : OnS P w K mg base (He.ga K "Pattern") (He.ga K "BadNames") (.type "type") _ _ d_on := ⟨g_Pattern, cread_of r6, ⟨w1, w2, F_on.kp⟩, ok_on F_on D_check_names D_numbered M, b_on⟩
  have EQ : EqM P w K mg base (He.ga K "Pattern") (spPEq (He.ga K "Pattern")) _ d_Pattern__eq__ := ⟨ok_peq F_Pattern__eq__ T z_type, of_decide_eq_true e1, e2, b_Pattern__eq__, e3, e4⟩
  have MI := (He.meth_ok (c.fact_ 58 (f := .meth "Pattern" "__iter__") rfl))
  have ML := (He.meth_ok (c.fact_ 57 (f := .meth "Pattern" "__len__") rfl))
  have OW : OwnC P w K mg base (He.ga K "Pattern") _ _ d_Pattern__iter__ d_Pattern__len__ := ⟨MI.at_, MI.fn, ML.at_, ML.fn, ok_piter F_Pattern__iter__ T z_iter, b_Pattern__iter__, ok_plen F_Pattern__len__ T z_len, b_Pattern__len__⟩
  have NP : Er2 K mg "BadPattern" (He.ga K "BadPattern") := ⟨g_BadPattern, bP.xf, (He.noat_ok (c.fact_ 59 (f := .noat "BadPattern" "index") rfl)), (He.noat_ok (c.fact_ 60 (f := .noat "BadPattern" "what") rfl)), (He.exm_ok (c.fact_ 66 (f := .exm "BadPattern" "BadPattern" true) rfl))⟩
  have NN : Er2 K mg "BadNames" (He.ga K "BadNames") := ⟨g_BadNames, bN.xf, (He.noat_ok (c.fact_ 61 (f := .noat "BadNames" "index") rfl)), (He.noat_ok (c.fact_ 62 (f := .noat "BadNames" "what") rfl)), (He.exm_ok (c.fact_ 67 (f := .exm "BadNames" "BadNames" true) rfl))⟩
  have NB : Er2 K mg "BadPlaces" (He.ga K "BadPlaces") := ⟨g_BadPlaces, bB.xf, (He.noat_ok (c.fact_ 63 (f := .noat "BadPlaces" "index") rfl)), (He.noat_ok (c.fact_ 64 (f := .noat "BadPlaces" "what") rfl)), (He.exm_ok (c.fact_ 68 (f := .exm "BadPlaces" "BadPlaces" true) rfl))⟩
  have N : ErP K mg (He.ga K "BadPlaces") (He.ga K "BadClass") := ⟨g_BadPlaces, g_BadClass, bB.xf, bC.xf, (He.noat_ok (c.fact_ 63 (f := .noat "BadPlaces" "index") rfl)), (He.noat_ok (c.fact_ 64 (f := .noat "BadPlaces" "what") rfl)), (He.noat_ok (c.fact_ 65 (f := .noat "BadClass" "number") rfl)), (He.exm_ok (c.fact_ 68 (f := .exm "BadPlaces" "BadPlaces" true) rfl)), (He.exm_ok (c.fact_ 69 (f := .exm "BadClass" "BadPlaces" false) rfl)), (He.exm_ok (c.fact_ 70 (f := .exm "BadClass" "BadClass" true) rfl))⟩
  have D_draw0 : Df P w K mg base "_law_draw" 2 ["_law_hand_here", "_law_many"] spDraw (He.ga K "_law_draw") d__law_draw := ⟨g__law_draw, ok_draw F__law_draw z_int z_len F__law_mix g__law_mix, b__law_draw, F__law_draw.kp⟩
  have D__law_hand : Df P w K mg base "_law_hand" 1 ["_law_script"] (spHand K) (He.ga K "_law_hand") d__law_hand := ⟨g__law_hand, ok_hand F__law_hand z_int z_abs z_enumerate, b__law_hand, F__law_hand.kp⟩
  have D_pick0 : Df P w K mg base "_law_pick" 3 ["_law_hand_here", "_law_things"] (spPick K) (He.ga K "_law_pick") d__law_pick := ⟨g__law_pick, ok_pick F__law_pick z_len D_draw0, b__law_pick, F__law_pick.kp⟩
  have D__law_draw := D_draw0.draw
  have D__law_pick := D_pick0.pick
  have D__law_entries : Df P w K mg base "_law_entries" 3 ["_law_hand_here", "_law_size_here", "_law_empty"] spEn (He.ga K "_law_entries") d__law_entries := ⟨g__law_entries, ok_en F__law_entries z_range D__law_draw, b__law_entries, F__law_entries.kp⟩
  have D_num0 : Df P w K mg base "_law_numbers" 1 ["_law_things"] (spNums fun n : Nat => PyData.int (n : Int)) (He.ga K "_law_numbers") d__law_numbers := ⟨g__law_numbers, ok_nums encI F__law_numbers, b__law_numbers, F__law_numbers.kp⟩
  have D__law_numbers := D_num0.numI
  have D__law_size : Df P w K mg base "_law_size" 3 ["_law_hand_here"] spSize (He.ga K "_law_size") d__law_size := ⟨g__law_size, ok_size F__law_size D__law_draw, b__law_size, F__law_size.kp⟩
  have D__law_whole : Df P w K mg base "_law_whole" 1 ["_law_thing"] spWh (He.ga K "_law_whole") d__law_whole := ⟨g__law_whole, ok_wh F__law_whole z_int z_bool z_isinstance, b__law_whole, F__law_whole.kp⟩
  have D__law_same : Df P w K mg base "_law_same" 1 ["_law_told", "_law_due"] spSame (He.ga K "_law_same") d__law_same := ⟨g__law_same, ok_same F__law_same z_bool z_isinstance, b__law_same, F__law_same.kp⟩
  have D__law_spoilt : Df P w K mg base "_law_spoilt" 4 ["_law_hand_here", "_law_entries_here"] spSpt (He.ga K "_law_spoilt") d__law_spoilt := ⟨g__law_spoilt, ok_spt F__law_spoilt z_range z_len z_list z_tuple D__law_draw D__law_pick, b__law_spoilt, F__law_spoilt.kp⟩
  have D__law_fault : Df P w K mg base "_law_fault" 2 ["_law_thing"] spEF (He.ga K "_law_fault") d__law_fault := ⟨g__law_fault, ok_fault F__law_fault z_len z_enumerate z_isinstance z_list z_tuple D__law_whole, b__law_fault, F__law_fault.kp⟩
  have D__law_made : Df P w K mg base "_law_made" 5 ["_law_thing"] (spMade (He.ga K "Pattern")) (He.ga K "_law_made") d__law_made := ⟨g__law_made, ok_made F__law_made M NP, b__law_made, F__law_made.kp⟩
  have D__law_names_fault : Df P w K mg base "_law_names_fault" 2 ["_law_thing"] spNFl (He.ga K "_law_names_fault") d__law_names_fault := ⟨g__law_names_fault, ok_nfault F__law_names_fault z_len z_enumerate z_isinstance z_list z_tuple D__law_whole, b__law_names_fault, F__law_names_fault.kp⟩
  have D__law_shown : Df P w K mg base "_law_shown" 6 ["_law_thing"] spShown (He.ga K "_law_shown") d__law_shown := ⟨g__law_shown, ok_shown F__law_shown T z_list ON NN, b__law_shown, F__law_shown.kp⟩
  have D__law_reads : Df P w K mg base "_law_reads" 5 ["_law_pattern", "_law_entries_here"] (spRd (He.ga K "Pattern")) (He.ga K "_law_reads") d__law_reads := ⟨g__law_reads, ok_rd F__law_reads T z_len z_enumerate z_isinstance z_list z_tuple z_range z_iter OW F_Pattern__iter__ b_Pattern__iter__ MI.at_ MI.fn PR mPl mCA mAA D__law_whole D__law_same, b__law_reads, F__law_reads.kp⟩
  have D__law_places : Df P w K mg base "_law_places" 4 ["_law_hand_here", "_law_size_here"] spPlcs (He.ga K "_law_places") d__law_places := ⟨g__law_places, ok_plcs F__law_places z_range D__law_draw D__law_pick, b__law_places, F__law_places.kp⟩
  have D__law_part_right : DfG P w K mg base "_law_part_right" 6 ["_law_pattern", "_law_entries_here", "_law_places_here"] (spPrt (He.ga K "Pattern")) (He.ga K "_law_part_right") d__law_part_right := ⟨g__law_part_right, ok_prt F__law_part_right T z_len z_enumerate z_list z_repr NB mAP D__law_whole D__law_numbers, b__law_part_right, F__law_part_right.kp⟩
  have D__law_odd_places : DfG P w K mg base "_law_odd_places" 8 ["_law_hand_here", "_law_pattern", "_law_size_here"] (spOdp (He.ga K "Pattern") (TL K)) (He.ga K "_law_odd_places") d__law_odd_places := ⟨g__law_odd_places, ok_odp (funC_of F__law_odd_places) TB1 m1 u1 T z_repr z_len F__law_place_error g__law_place_error b__law_place_error N PR mCA mAA mAP mPl D__law_draw D__law_pick, b__law_odd_places, F__law_odd_places.kp⟩
  have D__law_rows_right : Df P w K mg base "_law_rows_right" 7 ["_law_hand_here", "_law_size_here"] spRr (He.ga K "_law_rows_right") d__law_rows_right := ⟨g__law_rows_right, ok_rr F__law_rows_right z_len z_range z_list z_tuple D__law_draw D__law_pick D__law_shown D__law_numbers D__law_names_fault, b__law_rows_right, F__law_rows_right.kp⟩
  exact ok_law (c := 0) F_law z_tuple z_list z_repr z_range M EQ D__law_hand D__law_draw D__law_size D__law_entries D__law_made D__law_reads D__law_spoilt D__law_fault D__law_places D__law_part_right D__law_odd_places D__law_rows_right
end
end K25
open PySem PySem.W PySem.Calls PyProof.Rows
set_option maxRecDepth 100000 in
set_option maxHeartbeats 0 in
theorem PySem.Challenge.cw_namesakes_k25_patterns_made_and_refused_holds : PySem.Challenge.rw_namesakes_k25_patterns_made_and_refused.Holds := by
  w_on; o_law
  refine HandSHeadRun.head_any (r := OpenLaw.row PySem.Challenge.rw_namesakes_k25_patterns_made_and_refused) (q := view (OpenLaw.row PySem.Challenge.rw_namesakes_k25_patterns_made_and_refused).prog [41]) (H := K25.hookM) (ob := K25.ob) (M := 20000) (loose := K25.looseL)
    (d := HandSHeadRun.topDef (OpenLaw.row PySem.Challenge.rw_namesakes_k25_patterns_made_and_refused).prog 41) (kwd := []) K25.ob_eq
    (by kernel_rfl) (fun s => by kernel_rfl) K25.run (by kernel_rfl) (by kernel_rfl) (by kernel_rfl) (by rfl) (by first | assumption | decide +kernel) (by decide +kernel) ⟨rfl, rfl, rfl, rfl, rfl, by decide +kernel⟩ ?hw ?hc
  case hw => w_witness2
  case hc =>
    refine GrdX.walk_ofG (l := PySem.Challenge.rw_namesakes_k25_patterns_made_and_refused) (n := 63) (k := 9) (x := "_law_script") (CX := fun _ => L2.CX0) rfl (by decide) (by kernel_rfl) ⟨rfl, by decide, by decide⟩ ?F (fun _ _ _ _ _ z => z)
    intro w mg fa h Y G hmg0
    obtain ⟨K, KX, c⟩ := Y
    have hmg : mg ("law" : PySem.Str) = some (.ref fa) := by
      have e : (HandSHeadRun.topDef (OpenLaw.row PySem.Challenge.rw_namesakes_k25_patterns_made_and_refused).prog 41).name = ("law" : PySem.Str) := by kernel_rfl
      rw [← e]
      exact hmg0
    obtain ⟨fd, hb, hF⟩ := K25.facts (P := (PySem.Challenge.rw_namesakes_k25_patterns_made_and_refused).prog) (w := w) KX G hmg c.m
    refine ⟨K, K25.tf.map fun p => He.cT K p, KX, fd, K25.spLaw K (K25.TL K), fun p hp => ?_, hb, fun H a ns hl _ hT hS => ⟨a, ns, rfl, hS, hl, fun p hp => ?_, fun _ => rfl⟩, fun base KB GB TB => hF base KB GB fun p hp => TB _ (List.mem_map.mpr ⟨p, hp, rfl⟩)⟩
    · obtain ⟨d, hd, rfl⟩ := List.mem_map.mp hp
      exact ⟨c.empty d hd, c.out d hd, PySem.W.codeHd_of_K KX (c.hd d hd)⟩
    · rcases List.mem_cons.mp hp with rfl | hp
      · exact LamX.TabS.nil (hT (He.cT K ("_law_odd_places", none)) (List.mem_map.mpr ⟨_, List.mem_cons_self .., rfl⟩))
      cases hp
