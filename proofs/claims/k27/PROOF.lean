import PyProof.Rows.All
import Wide.All
import OpenK.AllK
import Wide.FinOn
import KE.KStateDown
import KE.KExcIs
import HandS.ForMost
import HandS.Exc
import HandS.ExcOwn
import HandS.ExcInit
import HandS.ExcField
import HandS.ExcValue
import HandS.IsInst
import HandS.ExcIs
import HandS.Deep
import HandS.Wide
import HandS.Walk
import HandS.Flow
import HandS.Defaults
import HandS.Words
import HandS.WordsList
import HandS.WordsExc
import HandS.TryOnly
import HandS.Head0
import HandS.Head1
import HandS.Head2
import HandS.HeadEnd
import HandS.HeadHook1
import HandS.HeadHook2
import PySem.Challenge.RW_namesakes_k27_whole_rows_of_names_led_to
import HandS.HeadHook4
import HandS.SortKw
import KE.DataMinMax
import HandS.OwnEq
import HandS.More
import HandS.SuiteRaise
import HandS.RaiseFrom
import HandS.ExcInitHot
import HandS.Iter
import PyProof.EnumMake
import PyProof.Draws
import KE.GoesMore
import HandS.Text
import HandS.Conv
import HandS.Dict
import HandS.NoneIn
import PyProof.P3Eq
import PyProof.DictFindH
import PyProof.DictRoadsH
import HandS.EndTab
import HandS.HeadWalk
import PyProof.ReprRoads
import HandS.Zip
import KE.GoesZip
import KE.GoesEnum
import HandS.Property
import HandS.TryMany
import HandS.Lambda
import PyProof.Rows.StrJoinMade
import HandS.Style
set_option Elab.async false
set_option linter.all false
set_option maxRecDepth 100000
set_option maxHeartbeats 4000000
namespace K27
open PySem PySem.Spec PyProof.Rows L2
def top (i : Nat) : Stmt := PySem.Challenge.pw_namesakes_k27_whole_rows_of_names_led_to.main.body.getD i (.Pass ⟨0, 0, 0, 0⟩)
abbrev FnP (K : PySem.W.Frag) (x : Str) (st : Stmt) (f : Addr) (fd : FuncData) : Prop := FunD K x x (defArgs st) (defBody st) (defScope st) [] [] f fd
abbrev sPWall : Stmt := top 0
abbrev sPIsWhole : Stmt := top 9
abbrev sPIsName : Stmt := top 10
abbrev sPIsSequence : Stmt := top 11
abbrev sPNumbered : Stmt := top 14
abbrev sPEntriesFault : Stmt := top 15
abbrev sPCheckMatch : Stmt := top 17
abbrev sPMerged : Stmt := top 18
abbrev sPCheckNames : Stmt := top 19
abbrev sPCheckUnlikeNames : Stmt := top 20
abbrev sPFirstParting : Stmt := top 21
abbrev sPFirstDifference : Stmt := top 22
abbrev sPNamesFor : Stmt := top 23
abbrev sPRenamingOf : Stmt := top 24
abbrev sMix : Stmt := top 26
abbrev sHand : Stmt := top 27
abbrev sDraw : Stmt := top 28
abbrev sPick : Stmt := top 29
abbrev sEntries : Stmt := top 30
abbrev sNumbers : Stmt := top 31
abbrev sSize : Stmt := top 32
abbrev sPool : Stmt := top 33
abbrev sCount : Stmt := top 34
abbrev sRow : Stmt := top 35
abbrev sDiffers : Stmt := top 36
abbrev sSpoilt : Stmt := top 37
abbrev sTold : Stmt := top 38
abbrev sDuePairs : Stmt := top 39
abbrev sRenamingRight : Stmt := top 40
abbrev sOdd : Stmt := top 41
abbrev sOddRight : Stmt := top 42
abbrev sLaw : Stmt := top 43
end K27

namespace K27
open PySem PySem.Spec PyProof.Rows L2
def oexB (K : PySem.W.Frag) (C : Addr) : Bool := match K.lookup C with
  | some ⟨.type t, _, .cls cd, sl⟩ => decide (t = "type") && (match cd.mro, sl.toList with
    | .ref C' :: bm, [_, _, _, _, some (.builtin n), _] => decide (C' = C) && (decide (n = "ValueError.__new__") && (cd.hasDict && (!cd.hasDel && PySem.HandSPX.refsVE bm)))
    | _, _ => false)
  | _ => false
/-- what isinstance and the reads of fields ask of a class -/
def excB (K : PySem.W.Frag) (D : Addr) : Bool :=
  decide (PySem.W.findIn K (.ref D) "__getattribute__" = some (some (.builtin "BaseException.__getattribute__"))) && (
  decide (PySem.W.findIn K (.ref D) "__getattr__" = some none) && (
  decide (PySem.W.subIn K (.ref D) (.type "BaseException") = some true) && (
  PySem.W.hasDictIn K D && (
  decide (PySem.W.findIn K (.ref D) "__class__" = some (some (.builtin "object.__class__"))) && (
  decide (PySem.W.mroIn K D (.type "object") = some true) && (
  decide (PySem.W.findIn K (.ref D) "__setattr__" = some (some (.builtin "object.__setattr__"))) && (
  decide (PySem.W.typeIn K (.ref D) = some (.type "type")) && (
  PySem.W.keepIn K (.ref D)))))))))
def dunB (K : PySem.W.Frag) : Bool :=
  decide (PySem.W.specialIn K (.builtin "object.__class__") "__get__" = some (some (.builtin "getset_descriptor.__get__"))) && decide (PySem.W.takesIn K (.builtin "object.__class__") = some true)
/-- an error with an own __init__ -/
def badE (K : PySem.W.Frag) (C : Addr) : Bool :=
  oexB K C && (excB K C && (
  decide (PySem.W.findIn K (.ref C) "__init__" = some (some (.ref (He.ma K C "__init__")))) &&
  decide (PySem.W.typeIn K (.ref (He.ma K C "__init__")) = some (.type "function"))))
/-- a class with an own __eq__ -/
def eqB (K : PySem.W.Frag) (C : Addr) : Bool :=
  decide (PySem.W.findIn K (.ref C) "__eq__" = some (some (.ref (He.ma K C "__eq__")))) && (PySem.W.isFn K (.ref (He.ma K C "__eq__")) && (PySem.W.notFirst K C (.ref C) && PySem.W.notFirst K C (.type "tuple")))
/-- the property -/
def pA (K : PySem.W.Frag) : Addr := He.ma K (He.ga K "Pattern") "class_count"
def gA (K : PySem.W.Frag) : Addr := match PySem.W.recIn K (pA K) "property" with
  | some (.ref g :: _) => g
  | _ => 0
def proB (K : PySem.W.Frag) : Bool :=
  decide (PySem.W.findIn K (.ref (He.ga K "Pattern")) "class_count" = some (some (.ref (pA K)))) && (
  decide (PySem.W.specialIn K (.ref (pA K)) "__get__" = some (some (.builtin "property.__get__"))) && (
  decide (PySem.W.takesIn K (.ref (pA K)) = some true) && (match PySem.W.recIn K (pA K) "property" with
    | some (.ref _ :: _) => true
    | _ => false)))
def gW (K : PySem.W.Frag) : He.FnW := match K.lookup (gA K) with
  | some ⟨_, _, .func d, _⟩ => some (d.name, d.qualname, d.params, d.body, d.scope, d.globals, d.closure, d.builtins)
  | _ => none
def gB (K : PySem.W.Frag) : Bool := PySem.W.keepIn K (.ref (gA K)) && (match K.lookup (gA K) with
  | some ⟨_, _, .func d, _⟩ => PySem.W.codeIn K d.code "Pattern.class_count" && (He.dflB K d.defaults [] && He.kwdB K d.kwdefaults [])
  | _ => false)
def unlikeB (K : PySem.W.Frag) : Bool := !decide ((He.cT K ("_law_renaming_right", none)).2 = (He.cT K ("_law_odd_right", none)).2)
def restB (K : PySem.W.Frag) : Bool := badE K (He.ga K "BadPattern") && (badE K (He.ga K "BadNames") && (badE K (He.ga K "NoRenaming") && (unlikeB K && (proB K && gB K))))
def fa : List He.Fa := [.free "int",
  .free "bool",
  .free "isinstance",
  .free "len",
  .free "list",
  .free "tuple",
  .free "enumerate",
  .free "range",
  .free "abs",
  .free "max",
  .free "min",
  .free "zip",
  .free "repr",
  .glo "is_whole",
  .glo "is_name",
  .glo "is_sequence",
  .glo "numbered",
  .glo "_entries_fault",
  .glo "check_names",
  .glo "check_unlike_names",
  .glo "_first_parting",
  .glo "first_difference",
  .glo "names_for",
  .glo "renaming_of",
  .glo "_law_mix",
  .glo "_law_hand",
  .glo "_law_draw",
  .glo "_law_pick",
  .glo "_law_entries",
  .glo "_law_numbers",
  .glo "_law_size",
  .glo "_law_pool",
  .glo "_law_count",
  .glo "_law_row",
  .glo "_law_differs",
  .glo "_law_spoilt",
  .glo "_law_told",
  .glo "_law_due_pairs",
  .glo "_law_renaming_right",
  .glo "_law_odd",
  .glo "_law_odd_right",
  .glo "law",
  .glo "Pattern",
  .glo "BadPattern",
  .glo "BadNames",
  .glo "NoRenaming",
  .int "MOST_PLACES" 40,
  .int "MOST_NAME" (10 ^ 30),
  .cls "Pattern",
  .mkr "Pattern",
  .noat "Pattern" "entries",
  .noat "Pattern" "_classes",
  .noat "BadPattern" "index",
  .noat "BadPattern" "what",
  .noat "BadNames" "index",
  .noat "BadNames" "what",
  .noat "NoRenaming" "place",
  .exm "BadNames" "BadNames" true,
  .exm "NoRenaming" "BadNames" false,
  .exm "NoRenaming" "NoRenaming" true]
def dG (x : Str) (st : Stmt) : He.DefD := ⟨(x, none), x, x, defArgs st, defBody st, defScope st, [], []⟩
def fn : List He.DefD := [dG "is_whole" sPIsWhole,
  dG "is_name" sPIsName,
  dG "is_sequence" sPIsSequence,
  dG "numbered" sPNumbered,
  dG "_entries_fault" sPEntriesFault,
  dG "check_names" sPCheckNames,
  dG "check_unlike_names" sPCheckUnlikeNames,
  dG "_first_parting" sPFirstParting,
  dG "first_difference" sPFirstDifference,
  dG "names_for" sPNamesFor,
  dG "renaming_of" sPRenamingOf,
  dG "_law_mix" sMix,
  dG "_law_hand" sHand,
  dG "_law_draw" sDraw,
  dG "_law_pick" sPick,
  dG "_law_entries" sEntries,
  dG "_law_numbers" sNumbers,
  dG "_law_size" sSize,
  dG "_law_pool" sPool,
  dG "_law_count" sCount,
  dG "_law_row" sRow,
  dG "_law_differs" sDiffers,
  dG "_law_spoilt" sSpoilt,
  dG "_law_told" sTold,
  dG "_law_due_pairs" sDuePairs,
  dG "_law_renaming_right" sRenamingRight,
  dG "_law_odd" sOdd,
  dG "_law_odd_right" sOddRight,
  dG "law" sLaw,
  ⟨("BadPattern", some "__init__"), "__init__", "BadPattern.__init__", defArgs (inClass (top 3) 0), defBody (inClass (top 3) 0), defScope (inClass (top 3) 0), [], []⟩,
  ⟨("BadNames", some "__init__"), "__init__", "BadNames.__init__", defArgs (inClass (top 4) 0), defBody (inClass (top 4) 0), defScope (inClass (top 4) 0), [], []⟩,
  ⟨("NoRenaming", some "__init__"), "__init__", "NoRenaming.__init__", defArgs (inClass (top 6) 0), defBody (inClass (top 6) 0), defScope (inClass (top 6) 0), [], []⟩,
  ⟨("Pattern", some "__init__"), "__init__", "Pattern.__init__", defArgs (inClass (top 16) 0), defBody (inClass (top 16) 0), defScope (inClass (top 16) 0), [], []⟩]
abbrev sCount0 : Stmt := inClass (top 16) 2
/-! ### the Hook -/
abbrev AlM : Type := Bool × List He.FnW × He.FnW
def obsM (K : PySem.W.Frag) : AlM := ((fa.all fun f => f.ok K) && (restB K && fn.all fun d => d.ok K), fn.map fun d => He.fnW K d.at_, gW K)
def valM : AlM := (true, fn.map He.DefD.val, some ("class_count", "Pattern.class_count", defArgs sCount0, .stmts (defBody sCount0), defScope sCount0, mainGlobals, [], builtinsNs))
def SaysM (K : PySem.W.Frag) : Prop := obsM K = valM
/-- the def whose lambdas' code objects are laid: its code object, its table -/
def tf : List He.Defn := [("_law_renaming_right", none), ("_law_odd_right", none)]
structure SaysN (h : Heap) (K : PySem.W.Frag) : Prop where
  m : SaysM K
  hd : ∀ p ∈ tf, PySem.W.codeHdIn K (He.cT K p).1 (He.cT K p).2 = true
  out : ∀ p ∈ tf, K.lookup (He.cT K p).2 = none
  empty : ∀ p ∈ tf, h.get? (He.cT K p).2 = some { cls := .none, data := .fields #[] }
end K27

namespace K27
open PySem PySem.Spec PyProof.Rows L2
def refs1 (o : Obj) : List Addr := match o.data with
  | .dict es _ => es.toList.flatMap fun e => He.refV e.val
  | .func fd => He.refV fd.code ++ He.refV fd.defaults
  | .cls cd => [cd.ns]
  | .fields vs => vs.toList.flatMap He.refV
  | .seq its _ => its.toList.flatMap He.refV
  | _ => []
def nxt (g : Addr → Option Obj) (as : List Addr) : List Addr := as.flatMap fun a => match g a with
  | some o => refs1 o
  | none => []
def asL (g : Addr → Option Obj) : Nat → List Addr → List Addr
  | 0, as => as
  | n + 1, as => as ++ asL g n (nxt g as)
def asM (g : Addr → Option Obj) : List Addr := asL g 5 [mainGlobals]
abbrev AlN : Type := AlM × Bool
def obsMG (g : Addr → Option Obj) : AlN := (obsM (He.frT g (asM g)), He.tabsB g tf (He.frT g (asM g)))
theorem says_of {h : Heap} (e : obsMG h.get? = (valM, true)) : SaysN h (He.frT h.get? (asM h.get?)) := by
  have e1 : SaysM (He.frT h.get? (asM h.get?)) := congrArg (fun z : AlN => z.1) e
  have h2 : He.tabsB h.get? tf (He.frT h.get? (asM h.get?)) = true := congrArg (fun z : AlN => z.2) e
  generalize hK : He.frT h.get? (asM h.get?) = K at e1 h2
  have key : ∀ p ∈ tf, PySem.W.codeHdIn K (He.cT K p).1 (He.cT K p).2 = true ∧ ∃ o, h.get? (He.cT K p).2 = some o ∧ He.emptyTab o = true := fun p hp => by
    obtain ⟨h3, h4⟩ := Bool.and_eq_true_iff.mp (List.all_eq_true.mp h2 p hp)
    refine ⟨h3, ?_⟩
    cases q : h.get? (He.cT K p).2 with
    | none =>
      rw [q] at h4
      cases h4
    | some o =>
      rw [q] at h4
      exact ⟨o, rfl, h4⟩
  refine ⟨e1, fun p hp => (key p hp).1, fun p hp => ?_, fun p hp => ?_⟩
  · obtain ⟨_, o, q, z⟩ := key p hp
    have y := He.frT_none (as := asM h.get?) q z
    rw [hK] at y
    exact y
  · obtain ⟨_, o, q, z⟩ := key p hp
    rw [q, He.emptyTab_eq z]
def hookM : PySem.W.Hook where
  α := AlN
  obs := fun s => obsMG s.heap.get?
  val := fun _ => (valM, true)
  says := fun _ h => ∃ K : PySem.W.Frag, K.In h ∧ SaysN h K
  of := fun _ _ e => ⟨_, He.frT_in, says_of e⟩
  keeps := fun _ _ _ ⟨K, hK, c⟩ k => ⟨K, PySem.W.Frag.In.keeps hK k, ⟨c.m, c.hd, c.out, fun p hp => k _ _ (c.empty p hp)⟩⟩
abbrev R : PySem.W.OpenRow := PySem.W.OpenLaw.row PySem.Challenge.rw_namesakes_k27_whole_rows_of_names_led_to
def ob (s : PySem.W.SharedT) : AlN := obsMG (HandSHeadRun.getT s)
theorem ob_eq (s : PySem.W.SharedT) : ob s = hookM.obs s.abs := by
  have e : HandSHeadRun.getT s = s.abs.heap.get? := funext (HandSHeadRun.getT_eq s)
  show obsMG (HandSHeadRun.getT s) = obsMG s.abs.heap.get?
  rw [e]
def looseL : List Str := [("_wall" : Str), ("CustomError" : Str), ("BadPattern" : Str), ("BadNames" : Str), ("BadMatch" : Str), ("NoRenaming" : Str), ("MOST_NAME" : Str), ("is_whole" : Str), ("is_name" : Str), ("is_sequence" : Str), ("MOST_PLACES" : Str), ("numbered" : Str), ("_entries_fault" : Str), ("Pattern" : Str), ("check_match" : Str), ("_merged" : Str), ("check_names" : Str), ("check_unlike_names" : Str), ("_first_parting" : Str), ("first_difference" : Str), ("names_for" : Str), ("renaming_of" : Str), ("_law_mix" : Str), ("_law_hand" : Str), ("_law_draw" : Str), ("_law_pick" : Str), ("_law_entries" : Str), ("_law_numbers" : Str), ("_law_size" : Str), ("_law_pool" : Str), ("_law_count" : Str), ("_law_row" : Str), ("_law_differs" : Str), ("_law_spoilt" : Str), ("_law_told" : Str), ("_law_due_pairs" : Str), ("_law_renaming_right" : Str), ("_law_odd" : Str), ("_law_odd_right" : Str)]
theorem run (w : World) : HandSHeadRun.RunEq R (PySem.W.view R.prog [43]) hookM ob 20000 looseL w := by
  intro os
  kernel_rfl
end K27


namespace K27
section
variable {α β : Type}
/-- two places hold the same -/
def Ker (l : List (Option α)) (i j : Nat) : Prop := ∃ x, l[i]? = some (some x) ∧ l[j]? = some (some x)
theorem Ker.symm {l : List (Option α)} {i j : Nat} (h : Ker l i j) : Ker l j i := by
  obtain ⟨x, a, b⟩ := h
  exact ⟨x, b, a⟩
theorem Ker.trans {l : List (Option α)} {i j k : Nat} (h : Ker l i j) (g : Ker l j k) : Ker l i k := by
  obtain ⟨x, a, b⟩ := h
  obtain ⟨y, c, d⟩ := g
  rw [b] at c
  cases c
  exact ⟨x, a, d⟩
theorem Ker.left {l : List (Option α)} {i j : Nat} (h : Ker l i j) : Ker l i i := h.trans h.symm
/-- the same places are nobody's -/
def Mask (l : List (Option α)) (m : List (Option β)) : Prop := l.map Option.isSome = m.map Option.isSome
theorem Mask.len {l : List (Option α)} {m : List (Option β)} (h : Mask l m) : l.length = m.length := by
  have := congrArg List.length h
  simpa using this
theorem Mask.at_ {l : List (Option α)} {m : List (Option β)} (h : Mask l m) (i : Nat) : (l[i]?).map Option.isSome = (m[i]?).map Option.isSome := by
  have := congrArg (fun z => z[i]?) h
  simpa [List.getElem?_map] using this
theorem Mask.some {l : List (Option α)} {m : List (Option β)} (h : Mask l m) {i : Nat} {x : α} (e : l[i]? = some (some x)) : ∃ y, m[i]? = some (some y) := by
  have z := h.at_ i
  rw [e] at z
  cases e2 : m[i]? with
  | none => rw [e2] at z; cases z
  | some o =>
    cases o with
    | none => rw [e2] at z; cases z
    | some y => exact ⟨y, rfl⟩
theorem Mask.symm {l : List (Option α)} {m : List (Option β)} (h : Mask l m) : Mask m l := Eq.symm h
end
section
variable {α β : Type} [DecidableEq α] [DecidableEq β]
/-- numbers in the order of first coming -/
def numA : List α → List (Option α) → List (Option Nat)
  | _, [] => []
  | met, none :: r => none :: numA met r
  | met, some x :: r => if x ∈ met then some (met.idxOf x) :: numA met r else some met.length :: numA (met ++ [x]) r
def num (l : List (Option α)) : List (Option Nat) := numA [] l
theorem mask_num : ∀ (l : List (Option α)) (met : List α), (numA met l).map Option.isSome = l.map Option.isSome
  | [], _ => rfl
  | none :: r, met => congrArg (List.cons false) (mask_num r met)
  | some x :: r, met => by
    unfold numA
    split
    · exact congrArg (List.cons true) (mask_num r met)
    · exact congrArg (List.cons true) (mask_num r (met ++ [x]))
theorem Mask.nums (l : List (Option α)) : Mask (num l) l := mask_num l []
theorem num_len (l : List (Option α)) : (num l).length = l.length := (Mask.nums l).len
theorem idx_of {l : List α} {x : α} (h : x ∈ l) : l[l.idxOf x]? = some x := by
  have hl := List.idxOf_lt_length_of_mem h
  rw [List.getElem?_eq_getElem hl]
  simp
/-- what the numbers met stand for: read at place i -/
theorem num_at : ∀ (l : List (Option α)) (met : List α), met.Nodup → ∃ fin : List α, (met ++ fin).Nodup ∧
    ∀ i : Nat, (∀ x, l[i]? = some (some x) → ∃ k, (numA met l)[i]? = some (some k) ∧ (met ++ fin)[k]? = some x)
  | [], met, h => ⟨[], by simpa using h, fun i x e => by cases e⟩
  | none :: r, met, h => by
    obtain ⟨fin, h1, h2⟩ := num_at r met h
    refine ⟨fin, h1, fun i x e => ?_⟩
    cases i with
    | zero => cases e
    | succ i => exact h2 i x e
  | some x :: r, met, h => by
    by_cases hx : x ∈ met
    · obtain ⟨fin, h1, h2⟩ := num_at r met h
      refine ⟨fin, h1, fun i y e => ?_⟩
      unfold numA
      rw [if_pos hx]
      cases i with
      | zero =>
        cases e
        refine ⟨_, rfl, ?_⟩
        rw [List.getElem?_append_left (List.idxOf_lt_length_of_mem hx)]
        exact idx_of hx
      | succ i => exact h2 i y e
    · have hn : (met ++ [x]).Nodup := by
        rw [List.nodup_append]
        refine ⟨h, by simp, fun a ha b hb => ?_⟩
        rw [List.mem_singleton.mp hb]
        exact fun z => hx (z ▸ ha)
      obtain ⟨fin, h1, h2⟩ := num_at r (met ++ [x]) hn
      refine ⟨x :: fin, by simpa using h1, fun i y e => ?_⟩
      unfold numA
      rw [if_neg hx]
      cases i with
      | zero =>
        cases e
        exact ⟨met.length, rfl, by simp⟩
      | succ i =>
        obtain ⟨k, k1, k2⟩ := h2 i y e
        exact ⟨k, k1, by simpa using k2⟩
theorem nodup_get {l : List α} (h : l.Nodup) {i j : Nat} {x : α} (a : l[i]? = some x) (b : l[j]? = some x) : i = j := by
  obtain ⟨hi, ei⟩ := List.getElem?_eq_some_iff.mp a
  obtain ⟨hj, ej⟩ := List.getElem?_eq_some_iff.mp b
  have a := List.Nodup.idxOf_getElem h i hi
  have b := List.Nodup.idxOf_getElem h j hj
  rw [ei] at a
  rw [ej] at b
  exact a.symm.trans b
theorem ker_num (l : List (Option α)) (i j : Nat) : Ker (num l) i j ↔ Ker l i j := by
  obtain ⟨fin, h1, h2⟩ := num_at l [] List.nodup_nil
  have M := Mask.nums l
  refine ⟨fun ⟨k, a, b⟩ => ?_, fun ⟨x, a, b⟩ => ?_⟩
  · obtain ⟨x, ex⟩ := M.some a
    obtain ⟨y, ey⟩ := M.some b
    obtain ⟨k1, e1, f1⟩ := h2 i x ex
    obtain ⟨k2, e2, f2⟩ := h2 j y ey
    have a' : (numA [] l)[i]? = some (some k) := a
    have b' : (numA [] l)[j]? = some (some k) := b
    rw [a'] at e1
    rw [b'] at e2
    cases e1
    cases e2
    rw [f1] at f2
    cases f2
    exact ⟨x, ex, ey⟩
  · obtain ⟨k1, e1, f1⟩ := h2 i x a
    obtain ⟨k2, e2, f2⟩ := h2 j x b
    obtain rfl := nodup_get h1 f1 f2
    exact ⟨k1, e1, e2⟩
end
section
variable {α β : Type} [DecidableEq α] [DecidableEq β]
/-- the same kernel: the same numbers -/
theorem num_ext_aux : ∀ (l : List (Option α)) (m : List (Option β)) (L : List (Option α)) (M : List (Option β)) (p : Nat) (met : List α) (met' : List β),
    L.drop p = l → M.drop p = m → met.Nodup → met'.Nodup → met.length = met'.length → (∀ i j, Ker L i j ↔ Ker M i j) → Mask L M →
    (∀ (k : Nat) (x : α) (y : β), met[k]? = some x → met'[k]? = some y → ∃ q, q < p ∧ L[q]? = some (some x) ∧ M[q]? = some (some y)) →
    (∀ (q : Nat) (x : α), q < p → L[q]? = some (some x) → x ∈ met) → (∀ (q : Nat) (y : β), q < p → M[q]? = some (some y) → y ∈ met') → numA met l = numA met' m
  | [], m, L, M, p, met, met', e1, e2, _, _, _, _, hM, _, _, _ => by
    have a := congrArg List.length e1
    have b := congrArg List.length e2
    have c := hM.len
    rw [List.length_drop] at a b
    have : m.length = 0 := by simp at a; omega
    rw [List.eq_nil_of_length_eq_zero this]
    rfl
  | o :: l, m, L, M, p, met, met', e1, e2, nd, nd', hl, hk, hM, hq, h1, h2 => by
    have lp : L[p]? = some o := by
      have := congrArg (fun z => z[0]?) e1
      simpa using this
    have mp : ∃ o' m', m = o' :: m' := by
      have a := congrArg List.length e1
      have b := congrArg List.length e2
      have c := hM.len
      rw [List.length_drop] at a b
      cases m with
      | nil => simp at a b; omega
      | cons o' m' => exact ⟨o', m', rfl⟩
    obtain ⟨o', m', rfl⟩ := mp
    have mp : M[p]? = some o' := by
      have := congrArg (fun z => z[0]?) e2
      simpa using this
    have e1' : L.drop (p + 1) = l := by
      have := congrArg (fun z => z.drop 1) e1
      simpa [List.drop_drop, Nat.add_comm] using this
    have e2' : M.drop (p + 1) = m' := by
      have := congrArg (fun z => z.drop 1) e2
      simpa [List.drop_drop, Nat.add_comm] using this
    have mo := hM.at_ p
    rw [lp, mp] at mo
    have mo : o.isSome = o'.isSome := by simpa using mo
    cases o with
    | none =>
      cases o' with
      | some y => cases mo
      | none =>
        refine congrArg (List.cons none) (num_ext_aux l m' L M (p + 1) met met' e1' e2' nd nd' hl hk hM (fun k x y a b => ?_) (fun q x a b => ?_) fun q y a b => ?_)
        · obtain ⟨q, q1, q2⟩ := hq k x y a b
          exact ⟨q, by omega, q2⟩
        · rcases Nat.lt_succ_iff_lt_or_eq.mp a with a | a
          · exact h1 q x a b
          · rw [a, lp] at b; cases b
        · rcases Nat.lt_succ_iff_lt_or_eq.mp a with a | a
          · exact h2 q y a b
          · rw [a, mp] at b; cases b
    | some x =>
      cases o' with
      | none => cases mo
      | some y =>
        have link : ∀ k, met[k]? = some x ↔ met'[k]? = some y := fun k => by
          refine ⟨fun a => ?_, fun a => ?_⟩
          · have kl : k < met'.length := by have := (List.getElem?_eq_some_iff.mp a).1; omega
            obtain ⟨q, q1, q2, q3⟩ := hq k x met'[k] a (List.getElem?_eq_getElem kl)
            obtain ⟨z, z1, z2⟩ := (hk q p).mp ⟨x, q2, lp⟩
            rw [mp] at z2
            cases z2
            rw [q3] at z1
            rw [List.getElem?_eq_getElem kl]
            exact Option.some.inj z1
          · have kl : k < met.length := by have := (List.getElem?_eq_some_iff.mp a).1; omega
            obtain ⟨q, q1, q2, q3⟩ := hq k met[k] y (List.getElem?_eq_getElem kl) a
            obtain ⟨z, z1, z2⟩ := (hk q p).mpr ⟨y, q3, mp⟩
            rw [lp] at z2
            cases z2
            rw [q2] at z1
            rw [List.getElem?_eq_getElem kl]
            exact Option.some.inj z1
        have mem : x ∈ met ↔ y ∈ met' := by
          rw [List.mem_iff_getElem?, List.mem_iff_getElem?]
          exact ⟨fun ⟨k, a⟩ => ⟨k, (link k).mp a⟩, fun ⟨k, a⟩ => ⟨k, (link k).mpr a⟩⟩
        unfold numA
        by_cases hx : x ∈ met
        · rw [if_pos hx, if_pos (mem.mp hx)]
          have ei : met.idxOf x = met'.idxOf y := nodup_get nd' ((link _).mp (idx_of hx)) (idx_of (mem.mp hx))
          rw [ei]
          refine congrArg (List.cons _) (num_ext_aux l m' L M (p + 1) met met' e1' e2' nd nd' hl hk hM (fun k x y a b => ?_) (fun q x' a b => ?_) fun q y' a b => ?_)
          · obtain ⟨q, q1, q2⟩ := hq k x y a b
            exact ⟨q, by omega, q2⟩
          · rcases Nat.lt_succ_iff_lt_or_eq.mp a with a | a
            · exact h1 q x' a b
            · rw [a, lp] at b; cases b; exact hx
          · rcases Nat.lt_succ_iff_lt_or_eq.mp a with a | a
            · exact h2 q y' a b
            · rw [a, mp] at b; cases b; exact mem.mp hx
        · have hy := fun z => hx (mem.mpr z)
          rw [if_neg hx, if_neg hy, hl]
          have nn : ∀ {γ : Type} [DecidableEq γ] {l : List γ} {x : γ}, l.Nodup → ¬ x ∈ l → (l ++ [x]).Nodup := fun {γ} _ {l x} h n => by
            rw [List.nodup_append]
            refine ⟨h, by simp, fun a ha b hb => ?_⟩
            rw [List.mem_singleton.mp hb]
            exact fun z => n (z ▸ ha)
          refine congrArg (List.cons _) (num_ext_aux l m' L M (p + 1) (met ++ [x]) (met' ++ [y]) e1' e2' (nn nd hx) (nn nd' hy) (by simp [hl]) hk hM (fun k x' y' a b => ?_) (fun q x' a b => ?_) fun q y' a b => ?_)
          · by_cases kl : k < met.length
            · rw [List.getElem?_append_left kl] at a
              rw [List.getElem?_append_left (by omega)] at b
              obtain ⟨q, q1, q2⟩ := hq k x' y' a b
              exact ⟨q, by omega, q2⟩
            · rw [List.getElem?_append_right (by omega)] at a
              rw [List.getElem?_append_right (by omega), ← hl] at b
              cases z : k - met.length with
              | succ _ => rw [z] at a; cases a
              | zero =>
                rw [z] at a b
                cases a
                cases b
                exact ⟨p, by omega, lp, mp⟩
          · rcases Nat.lt_succ_iff_lt_or_eq.mp a with a | a
            · exact List.mem_append_left _ (h1 q x' a b)
            · rw [a, lp] at b; cases b; simp
          · rcases Nat.lt_succ_iff_lt_or_eq.mp a with a | a
            · exact List.mem_append_left _ (h2 q y' a b)
            · rw [a, mp] at b; cases b; simp
theorem num_ext {l : List (Option α)} {m : List (Option β)} (hM : Mask l m) (hk : ∀ i j, Ker l i j ↔ Ker m i j) : num l = num m :=
  num_ext_aux l m l m 0 [] [] (by simp) (by simp) List.nodup_nil List.nodup_nil rfl hk hM (fun k x y a => by simp at a) (fun q x a => absurd a (Nat.not_lt_zero _)) fun q y a => absurd a (Nat.not_lt_zero _)
theorem num_idem (l : List (Option α)) : num (num l) = num l := num_ext (Mask.nums l) (ker_num l)
end

/-! ### a number is at most its place -/
theorem numA_lt {α : Type} [DecidableEq α] : ∀ (l : List (Option α)) (met : List α) (i k : Nat), (numA met l)[i]? = some (some k) → k < met.length + i + 1
  | [], _, i, k, h => by cases h
  | none :: r, met, i, k, h => by
    cases i with
    | zero => cases h
    | succ i =>
      have := numA_lt r met i k h
      omega
  | some x :: r, met, i, k, h => by
    unfold numA at h
    split at h
    · rename_i hx
      cases i with
      | zero =>
        have := List.idxOf_lt_length_of_mem hx
        have e : met.idxOf x = k := by simpa using h
        omega
      | succ i =>
        have := numA_lt r met i k h
        omega
    · cases i with
      | zero =>
        have e : met.length = k := by simpa using h
        omega
      | succ i =>
        have := numA_lt r (met ++ [x]) i k h
        rw [List.length_append] at this
        simp at this
        omega
theorem num_lt {α : Type} [DecidableEq α] {l : List (Option α)} {i k : Nat} (h : (num l)[i]? = some (some k)) : k < l.length := by
  have a := numA_lt l [] i k h
  have b := (List.getElem?_eq_some_iff.mp h).1
  rw [num_len] at b
  simp at a
  omega
/-- numbered as patterns are -/
def Pt (p : List (Option Nat)) : Prop := num p = p
theorem Pt.nums {α : Type} [DecidableEq α] (l : List (Option α)) : Pt (num l) := num_idem l
theorem Pt.lt {p : List (Option Nat)} (h : Pt p) {i k : Nat} (e : p[i]? = some (some k)) : k < p.length := by
  rw [← h] at e
  exact num_lt e
theorem Pt.ext {p q : List (Option Nat)} (hp : Pt p) (hq : Pt q) (hM : Mask p q) (hk : ∀ i j, Ker p i j ↔ Ker q i j) : p = q := by
  have e := num_ext hM hk
  rw [hp, hq] at e
  exact e
theorem Mask.trans {α β γ : Type} {l : List (Option α)} {m : List (Option β)} {n : List (Option γ)} (h : Mask l m) (g : Mask m n) : Mask l n := Eq.trans h g
/-! ### finer -/
def Finer (a b : List (Option Nat)) : Prop := ∀ i j, Ker a i j → Ker b i j
theorem Finer.refl (a : List (Option Nat)) : Finer a a := fun _ _ h => h
/-- the least above -/
structure IsJoin {α : Type} (l : List (Option α)) (a b : List (Option Nat)) : Prop where
  mask : Mask l a
  left : ∀ i j, Ker a i j → Ker l i j
  right : ∀ i j, Ker b i j → Ker l i j
  least : ∀ R : Nat → Nat → Prop, (∀ i j, R i j → R j i) → (∀ i j k, R i j → R j k → R i k) → (∀ i j, Ker a i j → R i j) → (∀ i j, Ker b i j → R i j) → ∀ i j, Ker l i j → R i j
theorem IsJoin.le {α β : Type} {l : List (Option α)} {m : List (Option β)} {a b : List (Option Nat)} (h : IsJoin l a b) (f : ∀ i j, Ker a i j → Ker m i j) (g : ∀ i j, Ker b i j → Ker m i j) : ∀ i j, Ker l i j → Ker m i j :=
  h.least _ (fun _ _ z => z.symm) (fun _ _ _ z y => z.trans y) f g
theorem IsJoin.ker {α β : Type} {l : List (Option α)} {m : List (Option β)} {a b : List (Option Nat)} (h : IsJoin l a b) (g : IsJoin m a b) (i j : Nat) : Ker l i j ↔ Ker m i j :=
  ⟨h.le g.left g.right i j, g.le h.left h.right i j⟩
theorem IsJoin.nums {α : Type} [DecidableEq α] {l : List (Option α)} {a b : List (Option Nat)} (h : IsJoin l a b) : IsJoin (num l) a b :=
  ⟨(Mask.nums l).trans h.mask, fun i j z => (ker_num l i j).mpr (h.left i j z), fun i j z => (ker_num l i j).mpr (h.right i j z), fun R s t f g i j z => h.least R s t f g i j ((ker_num l i j).mp z)⟩
theorem IsJoin.same {α β : Type} [DecidableEq α] [DecidableEq β] {l : List (Option α)} {m : List (Option β)} {a b : List (Option Nat)} (h : IsJoin l a b) (g : IsJoin m a b) : num l = num m :=
  num_ext (h.mask.trans g.mask.symm) (h.ker g)
theorem IsJoin.swap {α : Type} {l : List (Option α)} {a b : List (Option Nat)} (h : IsJoin l a b) (hM : Mask a b) : IsJoin l b a :=
  ⟨h.mask.trans hM, h.right, h.left, fun R s t f g => h.least R s t g f⟩
/-- the greatest beneath -/
structure IsMeet {α : Type} (l : List (Option α)) (a b : List (Option Nat)) : Prop where
  mask : Mask l a
  ker : ∀ i j, Ker l i j ↔ (Ker a i j ∧ Ker b i j)
theorem IsMeet.nums {α : Type} [DecidableEq α] {l : List (Option α)} {a b : List (Option Nat)} (h : IsMeet l a b) : IsMeet (num l) a b :=
  ⟨(Mask.nums l).trans h.mask, fun i j => (ker_num l i j).trans (h.ker i j)⟩
theorem IsMeet.same {α β : Type} [DecidableEq α] [DecidableEq β] {l : List (Option α)} {m : List (Option β)} {a b : List (Option Nat)} (h : IsMeet l a b) (g : IsMeet m a b) : num l = num m :=
  num_ext (h.mask.trans g.mask.symm) fun i j => (h.ker i j).trans (g.ker i j).symm
theorem IsMeet.swap {α : Type} {l : List (Option α)} {a b : List (Option Nat)} (h : IsMeet l a b) (hM : Mask a b) : IsMeet l b a :=
  ⟨h.mask.trans hM, fun i j => (h.ker i j).trans ⟨fun z => ⟨z.2, z.1⟩, fun z => ⟨z.2, z.1⟩⟩⟩
/-! ### what the law asks of them -/
section
variable {a b c j m : List (Option Nat)}
theorem join_self (ha : Pt a) (hj : Pt j) (h : IsJoin j a a) : j = a := hj.ext ha h.mask fun _ _ => ⟨h.le (fun _ _ z => z) (fun _ _ z => z) _ _, h.left _ _⟩
theorem meet_self (ha : Pt a) (hm : Pt m) (h : IsMeet m a a) : m = a := hm.ext ha h.mask fun i k => (h.ker i k).trans ⟨fun z => z.1, fun z => ⟨z, z⟩⟩
/-- first | (first & second) -/
theorem join_meet (ha : Pt a) (hj : Pt j) (hm : IsMeet m a b) (h : IsJoin j a m) : j = a :=
  hj.ext ha h.mask fun _ _ => ⟨h.le (fun _ _ z => z) (fun i k z => ((hm.ker i k).mp z).1) _ _, h.left _ _⟩
/-- first & (first | second) -/
theorem meet_join (ha : Pt a) (hm : Pt m) (hj : IsJoin j a b) (h : IsMeet m a j) : m = a :=
  hm.ext ha h.mask fun i k => (h.ker i k).trans ⟨fun z => z.1, fun z => ⟨z, hj.left i k z⟩⟩
theorem finer_join (hb : Pt b) (hj : Pt j) (hM : Mask a b) (h : IsJoin j a b) : Finer a b ↔ j = b :=
  ⟨fun f => hj.ext hb (h.mask.trans hM) fun _ _ => ⟨h.le f (fun _ _ z => z) _ _, h.right _ _⟩, fun e i k z => e ▸ h.left i k z⟩
theorem finer_meet (ha : Pt a) (hm : Pt m) (h : IsMeet m a b) : Finer a b ↔ m = a :=
  ⟨fun f => hm.ext ha h.mask fun i k => (h.ker i k).trans ⟨fun z => z.1, fun z => ⟨z, f i k z⟩⟩, fun e i k z => ((h.ker i k).mp (e ▸ z)).2⟩
theorem join_finer (h : IsJoin j a b) : Finer j c ↔ (Finer a c ∧ Finer b c) :=
  ⟨fun f => ⟨fun i k z => f i k (h.left i k z), fun i k z => f i k (h.right i k z)⟩, fun ⟨f, g⟩ => h.le f g⟩
theorem finer_of_meet (h : IsMeet m a b) : Finer c m ↔ (Finer c a ∧ Finer c b) :=
  ⟨fun f => ⟨fun i k z => ((h.ker i k).mp (f i k z)).1, fun i k z => ((h.ker i k).mp (f i k z)).2⟩, fun ⟨f, g⟩ i k z => (h.ker i k).mpr ⟨f i k z, g i k z⟩⟩
theorem join_assoc {ab bc l r : List (Option Nat)} (hl : Pt l) (hr : Pt r) (h1 : IsJoin ab a b) (h2 : IsJoin bc b c) (g1 : IsJoin l ab c) (g2 : IsJoin r a bc) : l = r :=
  hl.ext hr ((g1.mask.trans h1.mask).trans g2.mask.symm) fun _ _ =>
    ⟨g1.le (h1.le g2.left (fun i k z => g2.right i k (h2.left i k z))) (fun i k z => g2.right i k (h2.right i k z)) _ _,
     g2.le (fun i k z => g1.left i k (h1.left i k z)) (h2.le (fun i k z => g1.left i k (h1.right i k z)) g1.right) _ _⟩
theorem meet_assoc {ab bc l r : List (Option Nat)} (hl : Pt l) (hr : Pt r) (h1 : IsMeet ab a b) (h2 : IsMeet bc b c) (g1 : IsMeet l ab c) (g2 : IsMeet r a bc) : l = r :=
  hl.ext hr ((g1.mask.trans h1.mask).trans g2.mask.symm) fun i k => by
    rw [g1.ker, g2.ker, h1.ker, h2.ker]
    exact ⟨fun z => ⟨z.1.1, z.1.2, z.2⟩, fun z => ⟨⟨z.1, z.2.1⟩, z.2.2⟩⟩
end
/-! ### the program's join: classes of the other, one by one -/
def alikeOf (found other : List (Option Nat)) (n : Nat) : List (Option Nat) := ((found.zip other).filter fun p => p.2 == some n).map (·.1)
/-- the first of a list -/
def hdN : List (Option Nat) → Option Nat
  | [] => none
  | x :: _ => x
def merge1 (found other : List (Option Nat)) (n : Nat) : List (Option Nat) := found.map fun e => if e ∈ alikeOf found other n then hdN (alikeOf found other n) else e
def mergeN (one other : List (Option Nat)) : Nat → List (Option Nat)
  | 0 => one
  | k + 1 => merge1 (mergeN one other k) other k
theorem mem_alike {found other : List (Option Nat)} {n : Nat} {e : Option Nat} : e ∈ alikeOf found other n ↔ ∃ i : Nat, found[i]? = some e ∧ other[i]? = some (some n) := by
  unfold alikeOf
  rw [List.mem_map]
  refine ⟨fun ⟨p, h, ep⟩ => ?_, fun ⟨i, a, b⟩ => ⟨(e, some n), List.mem_filter.mpr ⟨?_, by simp⟩, rfl⟩⟩
  · obtain ⟨h1, h2⟩ := List.mem_filter.mp h
    obtain ⟨i, hi⟩ := List.mem_iff_getElem?.mp h1
    rw [List.getElem?_zip_eq_some] at hi
    refine ⟨i, by rw [hi.1, ep], by rw [hi.2]; exact congrArg some (by simpa using h2)⟩
  · exact List.mem_iff_getElem?.mpr ⟨i, List.getElem?_zip_eq_some.mpr ⟨a, b⟩⟩
/-- the head of what is alike -/
theorem alike_head {found other : List (Option Nat)} {n : Nat} {e : Option Nat} (h : e ∈ alikeOf found other n) : hdN (alikeOf found other n) ∈ alikeOf found other n := by
  cases hA : alikeOf found other n with
  | nil => rw [hA] at h; cases h
  | cons x xs => exact List.mem_cons_self
theorem merge_at {found other : List (Option Nat)} {n i : Nat} : (merge1 found other n)[i]? = (found[i]?).map fun e => if e ∈ alikeOf found other n then hdN (alikeOf found other n) else e := List.getElem?_map ..
theorem alike_some {found other : List (Option Nat)} (hM : Mask found other) {n : Nat} {e : Option Nat} (h : e ∈ alikeOf found other n) : ∃ x, e = some x := by
  obtain ⟨i, a, b⟩ := mem_alike.mp h
  obtain ⟨y, ey⟩ := hM.symm.some b
  rw [a] at ey
  exact ⟨y, Option.some.inj ey⟩
theorem merge_mask {found other : List (Option Nat)} (hM : Mask found other) (n : Nat) : Mask (merge1 found other n) other := by
  refine Eq.trans ?_ hM
  unfold merge1
  rw [List.map_map]
  refine List.map_congr_left fun e _ => ?_
  show (if e ∈ alikeOf found other n then hdN (alikeOf found other n) else e).isSome = e.isSome
  split
  · rename_i h
    obtain ⟨x, rfl⟩ := alike_some hM h
    obtain ⟨y, hy⟩ := alike_some hM (alike_head h)
    rw [hy]
    rfl
  · rfl
theorem merge_keep {found other : List (Option Nat)} {n i j : Nat} (hM : Mask found other) (h : Ker found i j) : Ker (merge1 found other n) i j := by
  obtain ⟨x, a, b⟩ := h
  unfold Ker
  rw [merge_at, merge_at, a, b]
  by_cases hx : some x ∈ alikeOf found other n
  · obtain ⟨y, hy⟩ := alike_some hM (alike_head hx)
    exact ⟨y, by simp [hx, hy], by simp [hx, hy]⟩
  · exact ⟨x, by simp [hx], by simp [hx]⟩
theorem merge_class {found other : List (Option Nat)} {n i j : Nat} (hM : Mask found other) (hi : other[i]? = some (some n)) (hj : other[j]? = some (some n)) : Ker (merge1 found other n) i j := by
  obtain ⟨x, ex⟩ := hM.symm.some hi
  obtain ⟨y, ey⟩ := hM.symm.some hj
  have mx := mem_alike.mpr ⟨i, ex, hi⟩
  have my := mem_alike.mpr ⟨j, ey, hj⟩
  obtain ⟨z, hz⟩ := alike_some hM (alike_head mx)
  refine ⟨z, ?_, ?_⟩
  · rw [merge_at, ex]
    simp [mx, hz]
  · rw [merge_at, ey]
    simp [my, hz]
theorem merge_least {found other : List (Option Nat)} {n i j : Nat} {R : Nat → Nat → Prop} (s : ∀ i j, R i j → R j i) (t : ∀ i j k, R i j → R j k → R i k) (f : ∀ i j, Ker found i j → R i j) (g : ∀ i j, Ker other i j → R i j)
    (hM : Mask found other) (h : Ker (merge1 found other n) i j) : R i j := by
  obtain ⟨z, a, b⟩ := h
  rw [merge_at] at a b
  have pick : ∀ {k : Nat} {w : Nat}, ((found[k]?).map fun e => if e ∈ alikeOf found other n then hdN (alikeOf found other n) else e) = some (some w) → ∃ x, found[k]? = some (some x) ∧ ((some x ∈ alikeOf found other n ∧ hdN (alikeOf found other n) = some w) ∨ (¬ some x ∈ alikeOf found other n ∧ x = w)) := fun {k w} h => by
    cases e : found[k]? with
    | none => rw [e] at h; cases h
    | some o =>
      rw [e] at h
      have h2 : (if o ∈ alikeOf found other n then hdN (alikeOf found other n) else o) = some w := by simpa using h
      clear h
      by_cases ho : o ∈ alikeOf found other n
      · rw [if_pos ho] at h2
        obtain ⟨x, rfl⟩ := alike_some hM ho
        exact ⟨x, rfl, .inl ⟨ho, h2⟩⟩
      · rw [if_neg ho] at h2
        subst h2
        exact ⟨w, rfl, .inr ⟨ho, rfl⟩⟩
  obtain ⟨x, ex, hx⟩ := pick a
  obtain ⟨y, ey, hy⟩ := pick b
  rcases hx with ⟨hx, wx⟩ | ⟨hx, rfl⟩
  · rcases hy with ⟨hy, wy⟩ | ⟨hy, rfl⟩
    · obtain ⟨p, p1, p2⟩ := mem_alike.mp hx
      obtain ⟨q, q1, q2⟩ := mem_alike.mp hy
      exact t _ _ _ (f i p ⟨x, ex, p1⟩) (t _ _ _ (g p q ⟨n, p2, q2⟩) (f q j ⟨y, q1, ey⟩))
    · exact absurd (wx ▸ alike_head hx) hy
  · rcases hy with ⟨hy, wy⟩ | ⟨hy, rfl⟩
    · exact absurd (wy ▸ alike_head hy) hx
    · exact f i j ⟨_, ex, ey⟩
theorem mergeN_mask {one other : List (Option Nat)} (hM : Mask one other) : ∀ k, Mask (mergeN one other k) other
  | 0 => hM
  | k + 1 => merge_mask (mergeN_mask hM k) k
theorem mergeN_keep {one other : List (Option Nat)} (hM : Mask one other) {i j : Nat} (h : Ker one i j) : ∀ k, Ker (mergeN one other k) i j
  | 0 => h
  | k + 1 => merge_keep (mergeN_mask hM k) (mergeN_keep hM h k)
theorem mergeN_class {one other : List (Option Nat)} (hM : Mask one other) {i j c : Nat} (hi : other[i]? = some (some c)) (hj : other[j]? = some (some c)) : ∀ k, c < k → Ker (mergeN one other k) i j
  | 0, h => absurd h (Nat.not_lt_zero _)
  | k + 1, h => by
    rcases Nat.lt_succ_iff_lt_or_eq.mp h with h | h
    · exact merge_keep (mergeN_mask hM k) (mergeN_class hM hi hj k h)
    · subst h
      exact merge_class (mergeN_mask hM c) hi hj
theorem mergeN_least {one other : List (Option Nat)} {R : Nat → Nat → Prop} (s : ∀ i j, R i j → R j i) (t : ∀ i j k, R i j → R j k → R i k) (f : ∀ i j, Ker one i j → R i j) (g : ∀ i j, Ker other i j → R i j) (hM : Mask one other) :
    ∀ k i j, Ker (mergeN one other k) i j → R i j
  | 0, i, j, h => f i j h
  | k + 1, i, j, h => merge_least s t (mergeN_least s t f g hM k) g (mergeN_mask hM k) h
theorem merged_join {one other : List (Option Nat)} (hM : Mask one other) (hp : Pt other) : IsJoin (mergeN one other other.length) one other :=
  ⟨(mergeN_mask hM _).trans hM.symm, fun i j h => mergeN_keep hM h _, fun i j ⟨c, a, b⟩ => mergeN_class hM a b _ (hp.lt a), fun R s t f g i j h => mergeN_least s t f g hM _ i j h⟩

/-! ### the law's own join: places linked two by two -/
def at_ (l : List (Option Nat)) (i : Nat) : Option Nat := l.getD i none
/-- a mark -/
def mk (marks : List Nat) (i : Nat) : Nat := marks.getD i 0
theorem mk_of {l : List Nat} {i x : Nat} (h : l[i]? = some x) : mk l i = x := by
  unfold mk
  rw [List.getD_eq_getElem?_getD, h]
  rfl
def linkB (one other : List (Option Nat)) (i j : Nat) : Bool := (at_ one i).isSome && (decide (at_ one i = at_ one j) || decide (at_ other i = at_ other j))
def stepM (one other : List (Option Nat)) (marks : List Nat) (i j : Nat) : List Nat :=
  if linkB one other i j = true ∧ mk marks i ≠ mk marks j then marks.map fun m => if m = mk marks i then mk marks j else m else marks
def innerM (one other : List (Option Nat)) (marks : List Nat) (i : Nat) : Nat → List Nat
  | 0 => marks
  | j + 1 => stepM one other (innerM one other marks i j) i j
def outerM (one other : List (Option Nat)) : Nat → List Nat
  | 0 => List.range one.length
  | i + 1 => innerM one other (outerM one other i) i i
def Sm (marks : List Nat) (a b : Nat) : Prop := ∃ x : Nat, marks[a]? = some x ∧ marks[b]? = some x
section
variable {one other : List (Option Nat)} {marks : List Nat} {i j : Nat}
theorem stepM_len : (stepM one other marks i j).length = marks.length := by
  unfold stepM
  split
  · rw [List.length_map]
  · rfl
theorem innerM_len : ∀ k, (innerM one other marks i k).length = marks.length
  | 0 => rfl
  | k + 1 => stepM_len.trans (innerM_len k)
theorem outerM_len : ∀ k, (outerM one other k).length = one.length
  | 0 => List.length_range
  | k + 1 => (innerM_len k).trans (outerM_len k)
theorem stepM_keep {a b : Nat} (h : Sm marks a b) : Sm (stepM one other marks i j) a b := by
  obtain ⟨x, h1, h2⟩ := h
  unfold stepM
  split
  · exact ⟨_, by rw [List.getElem?_map, h1]; rfl, by rw [List.getElem?_map, h2]; rfl⟩
  · exact ⟨x, h1, h2⟩
theorem innerM_keep {a b : Nat} (h : Sm marks a b) : ∀ k, Sm (innerM one other marks i k) a b
  | 0 => h
  | k + 1 => stepM_keep (innerM_keep h k)
theorem getD_some {l : List Nat} {i : Nat} (h : i < l.length) : l[i]? = some (mk l i) := by
  unfold mk
  rw [List.getElem?_eq_getElem h, List.getD_eq_getElem?_getD, List.getElem?_eq_getElem h]
  rfl
theorem stepM_link (hi : i < marks.length) (hj : j < marks.length) (h : linkB one other i j = true) : Sm (stepM one other marks i j) i j := by
  have ei := getD_some hi
  have ej := getD_some hj
  unfold stepM
  by_cases e : mk marks i = mk marks j
  · rw [if_neg (fun z => z.2 e)]
    exact ⟨_, ei, by rw [ej, e]⟩
  · rw [if_pos ⟨h, e⟩]
    refine ⟨mk marks j, ?_, ?_⟩
    · rw [List.getElem?_map, ei]
      simp
    · rw [List.getElem?_map, ej]
      simp
theorem stepM_least {S : Nat → Nat → Prop} (s : ∀ a b, S a b → S b a) (t : ∀ a b c, S a b → S b c → S a c) (hi : i < marks.length) (hj : j < marks.length) (f : ∀ a b, Sm marks a b → S a b) (g : linkB one other i j = true → S i j) {a b : Nat} (h : Sm (stepM one other marks i j) a b) : S a b := by
  have ei := getD_some hi
  have ej := getD_some hj
  unfold stepM at h
  split at h
  · rename_i hl
    obtain ⟨x, h1, h2⟩ := h
    rw [List.getElem?_map] at h1 h2
    have lk := g hl.1
    generalize mk marks i = u at *
    generalize mk marks j = v at *
    have pick : ∀ {k : Nat}, (marks[k]?).map (fun m => if m = u then v else m) = some x → ∃ m, marks[k]? = some m ∧ ((m = u ∧ x = v) ∨ (m ≠ u ∧ x = m)) := fun {k} h => by
      cases e : marks[k]? with
      | none => rw [e] at h; cases h
      | some m =>
        rw [e] at h
        have h3 : (if m = u then v else m) = x := Option.some.inj h
        by_cases hm : m = u
        · rw [if_pos hm] at h3
          exact ⟨m, rfl, .inl ⟨hm, h3.symm⟩⟩
        · rw [if_neg hm] at h3
          exact ⟨m, rfl, .inr ⟨hm, h3.symm⟩⟩
    obtain ⟨m, em, hm⟩ := pick h1
    obtain ⟨n, en, hn⟩ := pick h2
    have toI : ∀ {k : Nat}, marks[k]? = some u → S k i := fun {k} e => f k i ⟨u, e, ei⟩
    have toJ : ∀ {k : Nat}, marks[k]? = some v → S k j := fun {k} e => f k j ⟨v, e, ej⟩
    rcases hm with ⟨rfl, rfl⟩ | ⟨hm, rfl⟩
    · rcases hn with ⟨rfl, _⟩ | ⟨hn, rfl⟩
      · exact t _ _ _ (toI em) (s _ _ (toI en))
      · exact t _ _ _ (toI em) (t _ _ _ lk (s _ _ (toJ en)))
    · rcases hn with ⟨rfl, rfl⟩ | ⟨hn, rfl⟩
      · exact t _ _ _ (toJ em) (s _ _ (t _ _ _ (toI en) lk))
      · exact f a b ⟨_, em, en⟩
  · exact f a b h
theorem innerM_link (hi : i < marks.length) {k j : Nat} (hj : j < k) (hk : k ≤ i) (h : linkB one other i j = true) : Sm (innerM one other marks i k) i j := by
  induction k with
  | zero => omega
  | succ k ih =>
    rcases Nat.lt_succ_iff_lt_or_eq.mp hj with hj | rfl
    · exact stepM_keep (ih hj (by omega))
    · exact stepM_link (by rw [innerM_len]; exact hi) (by rw [innerM_len]; omega) h
theorem innerM_least {S : Nat → Nat → Prop} (s : ∀ a b, S a b → S b a) (t : ∀ a b c, S a b → S b c → S a c) (hi : i < marks.length) (f : ∀ a b, Sm marks a b → S a b) (g : ∀ j, j < i → linkB one other i j = true → S i j) : ∀ k, k ≤ i → ∀ a b, Sm (innerM one other marks i k) a b → S a b
  | 0, _ => f
  | k + 1, hk => fun a b h => stepM_least s t (by rw [innerM_len]; exact hi) (by rw [innerM_len]; omega) (innerM_least s t hi f g k (by omega)) (g k (by omega)) h
end
section
variable {one other : List (Option Nat)}
theorem outerM_link {k i j : Nat} (hj : j < i) (hi : i < k) (hk : k ≤ one.length) (h : linkB one other i j = true) : Sm (outerM one other k) i j := by
  induction k with
  | zero => omega
  | succ k ih =>
    rcases Nat.lt_succ_iff_lt_or_eq.mp hi with hi | rfl
    · exact innerM_keep (ih hi (by omega)) _
    · exact innerM_link (by rw [outerM_len]; omega) hj (Nat.le_refl _) h
theorem outerM_least {S : Nat → Nat → Prop} (r : ∀ a, S a a) (s : ∀ a b, S a b → S b a) (t : ∀ a b c, S a b → S b c → S a c) (g : ∀ i j, j < i → linkB one other i j = true → S i j) : ∀ k, k ≤ one.length → ∀ a b, Sm (outerM one other k) a b → S a b
  | 0, _ => fun a b ⟨x, h1, h2⟩ => by
    have e : ∀ {a : Nat}, (List.range one.length)[a]? = some x → a = x := fun {a} h => by
      obtain ⟨ha, ea⟩ := List.getElem?_eq_some_iff.mp h
      rw [List.getElem_range] at ea
      exact ea
    rw [e h1, e h2]
    exact r x
  | k + 1, hk => innerM_least s t (by rw [outerM_len]; omega) (outerM_least r s t g k (by omega)) (fun j hj => g k j hj) k (Nat.le_refl _)
/-- marks of the places that are somebody's -/
def marked (one : List (Option Nat)) (marks : List Nat) : List (Option Nat) := (List.range one.length).map fun i => if at_ one i = none then none else some (mk marks i)
theorem at_get {l : List (Option Nat)} {i : Nat} (h : i < l.length) : l[i]? = some (at_ l i) := by
  unfold at_
  rw [List.getElem?_eq_getElem h, List.getD_eq_getElem?_getD, List.getElem?_eq_getElem h]
  rfl
theorem at_of {l : List (Option Nat)} {i : Nat} {o : Option Nat} (h : l[i]? = some o) : at_ l i = o := by
  unfold at_
  rw [List.getD_eq_getElem?_getD, h]
  rfl
theorem marked_at {marks : List Nat} {i : Nat} (h : i < one.length) : (marked one marks)[i]? = some (if at_ one i = none then none else some (mk marks i)) := by
  unfold marked
  rw [List.getElem?_map, List.getElem?_range h]
  rfl
theorem marked_len {marks : List Nat} : (marked one marks).length = one.length := by
  unfold marked
  rw [List.length_map, List.length_range]
theorem ker_marked {marks : List Nat} (hl : marks.length = one.length) {i j : Nat} : Ker (marked one marks) i j ↔ (Ker one i i ∧ Ker one j j ∧ Sm marks i j) := by
  have at2 : ∀ {i x : Nat}, (marked one marks)[i]? = some (some x) ↔ (Ker one i i ∧ marks[i]? = some x) := fun {i x} => by
    refine ⟨fun h => ?_, fun ⟨⟨y, hy, _⟩, hm⟩ => ?_⟩
    · have il := (List.getElem?_eq_some_iff.mp h).1
      rw [marked_len] at il
      rw [marked_at il] at h
      cases e : at_ one i with
      | none => rw [e] at h; cases h
      | some y =>
        rw [e] at h
        have h2 : mk marks i = x := by
          have z := Option.some.inj h
          rw [if_neg (by simp)] at z
          exact Option.some.inj z
        refine ⟨⟨y, ?_, ?_⟩, ?_⟩
        · rw [at_get il, e]
        · rw [at_get il, e]
        · rw [getD_some (by omega), h2]
    · have il := (List.getElem?_eq_some_iff.mp hy).1
      rw [marked_at il, at_of hy]
      rw [mk_of hm]
      simp
  constructor
  · rintro ⟨x, a, b⟩
    exact ⟨(at2.mp a).1, (at2.mp b).1, x, (at2.mp a).2, (at2.mp b).2⟩
  · rintro ⟨a, b, x, c, d⟩
    exact ⟨x, at2.mpr ⟨a, c⟩, at2.mpr ⟨b, d⟩⟩
theorem link_iff (hM : Mask one other) {i j : Nat} (hi : i < one.length) (hj : j < one.length) : linkB one other i j = true ↔ (Ker one i j ∨ Ker other i j) := by
  have lo := hM.len
  unfold linkB
  rw [Bool.and_eq_true_iff, Bool.or_eq_true_iff, decide_eq_true_iff, decide_eq_true_iff]
  constructor
  · rintro ⟨h, e | e⟩
    · obtain ⟨x, hx⟩ := Option.isSome_iff_exists.mp h
      exact .inl ⟨x, by rw [at_get hi, hx], by rw [at_get hj, ← e, hx]⟩
    · obtain ⟨x, hx⟩ := Option.isSome_iff_exists.mp h
      obtain ⟨y, hy⟩ := hM.some (show one[i]? = some (some x) by rw [at_get hi, hx])
      exact .inr ⟨y, hy, by rw [at_get (by omega), ← e, at_of hy]⟩
  · rintro (⟨x, a, b⟩ | ⟨y, a, b⟩)
    · exact ⟨by rw [at_of a]; rfl, .inl (by rw [at_of a, at_of b])⟩
    · obtain ⟨x, hx⟩ := hM.symm.some a
      exact ⟨by rw [at_of hx]; rfl, .inr (by rw [at_of a, at_of b])⟩
theorem Ker.lt {α : Type} {l : List (Option α)} {i j : Nat} (h : Ker l i j) : i < l.length ∧ j < l.length := by
  obtain ⟨x, a, b⟩ := h
  exact ⟨(List.getElem?_eq_some_iff.mp a).1, (List.getElem?_eq_some_iff.mp b).1⟩
theorem Mask.ker {α β : Type} {l : List (Option α)} {m : List (Option β)} (h : Mask l m) {i : Nat} (k : Ker l i i) : Ker m i i := by
  obtain ⟨x, a, _⟩ := k
  obtain ⟨y, e⟩ := h.some a
  exact ⟨y, e, e⟩
def aboveL (one other : List (Option Nat)) : List (Option Nat) := marked one (outerM one other one.length)
theorem above_join (hM : Mask one other) : IsJoin (aboveL one other) one other := by
  have hl : (outerM one other one.length).length = one.length := outerM_len _
  have lk : ∀ i j, (Ker one i j ∨ Ker other i j) → Sm (outerM one other one.length) i j := fun i j h => by
    have hij : i < one.length ∧ j < one.length := h.elim (fun z => z.lt) fun z => by rw [hM.len]; exact z.lt
    rcases Nat.lt_trichotomy i j with c | c | c
    · have z := outerM_link (k := one.length) c hij.2 (Nat.le_refl _) ((link_iff hM hij.2 hij.1).mpr (h.imp (fun z => z.symm) fun z => z.symm))
      obtain ⟨x, a, b⟩ := z
      exact ⟨x, b, a⟩
    · subst c
      exact ⟨_, getD_some (by omega), getD_some (by omega)⟩
    · exact outerM_link (k := one.length) c hij.1 (Nat.le_refl _) ((link_iff hM hij.1 hij.2).mpr h)
  refine ⟨?_, fun i j h => (ker_marked hl).mpr ⟨h.left, h.symm.left, lk i j (.inl h)⟩, fun i j h => (ker_marked hl).mpr ⟨hM.symm.ker h.left, hM.symm.ker h.symm.left, lk i j (.inr h)⟩, fun R s t f g i j h => ?_⟩
  · show (aboveL one other).map Option.isSome = one.map Option.isSome
    refine List.ext_getElem? fun i => ?_
    rw [List.getElem?_map, List.getElem?_map]
    by_cases hi : i < one.length
    · show ((marked one _)[i]?).map _ = _
      rw [marked_at hi, at_get hi]
      cases at_ one i <;> rfl
    · rw [List.getElem?_eq_none (by rw [show (aboveL one other).length = one.length from marked_len]; omega), List.getElem?_eq_none (by omega)]
  · obtain ⟨hi, hj, hs⟩ := (ker_marked hl).mp h
    have z := outerM_least (one := one) (other := other) (S := fun a b => a = b ∨ R a b) (fun a => .inl rfl) (fun a b z => z.imp (fun e => e.symm) (s a b)) (fun a b c z y => by
      rcases z with rfl | z
      · exact y
      · rcases y with rfl | y
        · exact .inr z
        · exact .inr (t _ _ _ z y)) (fun a b hb hab => by
      by_cases ha : a < one.length
      · exact .inr (((link_iff hM ha (by omega)).mp hab).elim (f a b) (g a b))
      · exfalso
        unfold linkB at hab
        have : at_ one a = none := by
          unfold at_
          rw [List.getD_eq_getElem?_getD, List.getElem?_eq_none (by omega)]
          rfl
        rw [this] at hab
        cases hab) one.length (Nat.le_refl _) i j hs
    rcases z with rfl | z
    · exact f _ _ hi
    · exact z
/-! ### the law's own meet, finer -/
def pairL (one other : List (Option Nat)) : List (Option (Nat × Nat)) := (List.range one.length).map fun i => match at_ one i, at_ other i with
  | some x, some y => some (x, y)
  | _, _ => none
theorem pair_at (hM : Mask one other) {i x y : Nat} : (pairL one other)[i]? = some (some (x, y)) ↔ (one[i]? = some (some x) ∧ other[i]? = some (some y)) := by
  unfold pairL
  rw [List.getElem?_map]
  have lo := hM.len
  by_cases hi : i < one.length
  · rw [List.getElem?_range hi, at_get hi, at_get (show i < other.length by omega)]
    cases e1 : at_ one i with
    | none => simp [e1]
    | some u =>
      cases e2 : at_ other i with
      | none => simp [e1, e2]
      | some v => simp [e1, e2]
  · rw [List.getElem?_eq_none (by rw [List.length_range]; omega), List.getElem?_eq_none (by omega)]
    simp
theorem beneath_meet (hM : Mask one other) : IsMeet (pairL one other) one other := by
  refine ⟨?_, fun i j => ⟨fun ⟨⟨x, y⟩, a, b⟩ => ?_, fun ⟨⟨x, a, b⟩, ⟨y, c, d⟩⟩ => ?_⟩⟩
  · show (pairL one other).map Option.isSome = one.map Option.isSome
    refine List.ext_getElem? fun i => ?_
    have lo := hM.len
    rw [List.getElem?_map, List.getElem?_map]
    unfold pairL
    rw [List.getElem?_map]
    by_cases hi : i < one.length
    · rw [List.getElem?_range hi, at_get hi]
      have m := hM.at_ i
      rw [at_get hi, at_get (show i < other.length by omega)] at m
      have m : (at_ one i).isSome = (at_ other i).isSome := Option.some.inj m
      cases e : at_ one i with
      | none => simp [e]
      | some u =>
        rw [e] at m
        cases e2 : at_ other i with
        | none => rw [e2] at m; cases m
        | some v => simp [e, e2]
    · rw [List.getElem?_eq_none (by rw [List.length_range]; omega), List.getElem?_eq_none (by omega)]
      rfl
  · obtain ⟨a1, a2⟩ := (pair_at hM).mp a
    obtain ⟨b1, b2⟩ := (pair_at hM).mp b
    exact ⟨⟨x, a1, b1⟩, ⟨y, a2, b2⟩⟩
  · exact ⟨(x, y), (pair_at hM).mpr ⟨a, c⟩, (pair_at hM).mpr ⟨b, d⟩⟩
def badB (one other : List (Option Nat)) (i j : Nat) : Bool := (at_ one i).isSome && (decide (at_ one i = at_ one j) && !decide (at_ other i = at_ other j))
theorem finer_iff (hM : Mask one other) : Finer one other ↔ ∀ i, i < one.length → ∀ j, j < i → badB one other i j = false := by
  have lo := hM.len
  constructor
  · intro f i hi j hj
    rw [Bool.eq_false_iff]
    intro h
    unfold badB at h
    rw [Bool.and_eq_true_iff, Bool.and_eq_true_iff, decide_eq_true_iff] at h
    obtain ⟨h1, h2, h3⟩ := h
    obtain ⟨x, hx⟩ := Option.isSome_iff_exists.mp h1
    obtain ⟨y, a, b⟩ := f i j ⟨x, by rw [at_get hi, hx], by rw [at_get (by omega), ← h2, hx]⟩
    rw [at_of a, at_of b, decide_eq_true rfl] at h3
    cases h3
  · intro h i j k
    have key : ∀ i j, j < i → Ker one i j → Ker other i j := fun i j hj ⟨x, a, b⟩ => by
      have z := h i (List.getElem?_eq_some_iff.mp a).1 j hj
      unfold badB at z
      rw [at_of a, at_of b] at z
      obtain ⟨u, hu⟩ := hM.some a
      obtain ⟨v, hv⟩ := hM.some b
      rw [at_of hu, at_of hv] at z
      have e : u = v := by simpa using z
      subst e
      exact ⟨u, hu, hv⟩
    rcases Nat.lt_trichotomy i j with c | c | c
    · exact (key j i c k.symm).symm
    · subst c
      exact hM.ker k
    · exact key i j c k
end
/-! ### how many pairs there are -/
theorem cover_len : ∀ (c : Nat) (l : List Nat), (∀ k, k < c → k ∈ l) → c ≤ l.length
  | 0, _, _ => Nat.zero_le _
  | c + 1, l, h => by
    have hc := h c (Nat.lt_succ_self c)
    have z := cover_len c (l.erase c) fun k hk => (List.mem_erase_of_ne (by omega)).mpr (h k (by omega))
    rw [List.length_erase_of_mem hc] at z
    have := List.length_pos_of_mem hc
    omega
theorem dup_of : ∀ (l : List Nat), ¬ l.Nodup → ∃ x, x ∈ l ∧ x ∈ l.erase x
  | [], h => absurd List.nodup_nil h
  | a :: t, h => by
    by_cases ha : a ∈ t
    · exact ⟨a, List.mem_cons_self, by rw [List.erase_cons_head]; exact ha⟩
    · obtain ⟨x, h1, h2⟩ := dup_of t fun z => h (List.nodup_cons.mpr ⟨ha, z⟩)
      have ne : a ≠ x := fun z => ha (z ▸ h1)
      exact ⟨x, List.mem_cons_of_mem _ h1, by rw [List.erase_cons_tail (by simpa using ne)]; exact List.mem_cons_of_mem _ h2⟩
theorem nodup_le : ∀ (l m : List Nat), l.Nodup → (∀ x ∈ l, x ∈ m) → l.length ≤ m.length
  | [], _, _, _ => Nat.zero_le _
  | a :: t, m, h, g => by
    obtain ⟨h1, h2⟩ := List.nodup_cons.mp h
    have ha := g a List.mem_cons_self
    have z := nodup_le t (m.erase a) h2 fun x hx => (List.mem_erase_of_ne (fun e => by rw [e] at hx; exact h1 hx)).mpr (g x (List.mem_cons_of_mem _ hx))
    rw [List.length_erase_of_mem ha] at z
    have := List.length_pos_of_mem ha
    rw [List.length_cons]
    omega
theorem len_nodup {l : List Nat} {c : Nat} (h : ∀ k, k ∈ l ↔ k < c) : l.length = c ↔ l.Nodup := by
  refine ⟨fun e => Decidable.byContradiction fun n => ?_, fun n => ?_⟩
  · obtain ⟨x, h1, h2⟩ := dup_of l n
    have z := cover_len c (l.erase x) fun k hk => by
      by_cases e : k = x
      · exact e ▸ h2
      · exact (List.mem_erase_of_ne e).mpr ((h k).mpr hk)
    rw [List.length_erase_of_mem h1] at z
    have := List.length_pos_of_mem h1
    omega
  · have a := cover_len c l fun k hk => (h k).mpr hk
    have b := nodup_le l (List.range c) n fun x hx => List.mem_range.mpr ((h x).mp hx)
    rw [List.length_range] at b
    omega
theorem nodup_map {α : Type} {f : α → Nat} : ∀ {l : List α}, l.Nodup → ((l.map f).Nodup ↔ ∀ a ∈ l, ∀ b ∈ l, f a = f b → a = b)
  | [], _ => ⟨fun _ a h => (by cases h), fun _ => List.nodup_nil⟩
  | x :: l, h => by
    obtain ⟨h1, h2⟩ := List.nodup_cons.mp h
    rw [List.map_cons, List.nodup_cons, nodup_map h2]
    constructor
    · rintro ⟨g1, g2⟩ a ha b hb e
      rcases List.mem_cons.mp ha with rfl | ha
      · rcases List.mem_cons.mp hb with rfl | hb
        · rfl
        · exact absurd (List.mem_map.mpr ⟨b, hb, e.symm⟩) g1
      · rcases List.mem_cons.mp hb with hb | hb
        · exact absurd (List.mem_map.mpr ⟨a, ha, by rw [e, hb]⟩) g1
        · exact g2 a ha b hb e
    · intro g
      refine ⟨fun z => ?_, fun a ha b hb e => g a (List.mem_cons_of_mem _ ha) b (List.mem_cons_of_mem _ hb) e⟩
      obtain ⟨b, hb, e⟩ := List.mem_map.mp z
      exact h1 ((g x List.mem_cons_self b (List.mem_cons_of_mem _ hb) e.symm) ▸ hb)
/-- as many pairs as classes: finer -/
theorem count_finer {one other : List (Option Nat)} (hM : Mask one other) {c : Nat} (hc : ∀ k, (∃ i : Nat, one[i]? = some (some k)) ↔ k < c) {L : List (Nat × Nat)} (nd : L.Nodup) (hL : ∀ x y, (x, y) ∈ L ↔ ∃ i : Nat, one[i]? = some (some x) ∧ other[i]? = some (some y)) :
    L.length = c ↔ Finer one other := by
  have e : (L.map (·.1)).length = L.length := List.length_map ..
  rw [← e, len_nodup (c := c) fun k => ?_, nodup_map nd]
  · constructor
    · rintro h i j ⟨x, a, b⟩
      obtain ⟨y, hy⟩ := hM.some a
      obtain ⟨y', hy'⟩ := hM.some b
      have z := h (x, y) ((hL x y).mpr ⟨i, a, hy⟩) (x, y') ((hL x y').mpr ⟨j, b, hy'⟩) rfl
      cases z
      exact ⟨y, hy, hy'⟩
    · rintro f ⟨x, y⟩ ha ⟨x', y'⟩ hb rfl
      obtain ⟨i, a1, a2⟩ := (hL _ _).mp ha
      obtain ⟨j, b1, b2⟩ := (hL _ _).mp hb
      obtain ⟨u, c1, c2⟩ := f i j ⟨_, a1, b1⟩
      rw [a2] at c1
      rw [b2] at c2
      cases c1
      cases c2
      rfl
  · rw [← hc k, List.mem_map]
    constructor
    · rintro ⟨⟨x, y⟩, h, rfl⟩
      obtain ⟨i, a, _⟩ := (hL x y).mp h
      exact ⟨i, a⟩
    · rintro ⟨i, a⟩
      obtain ⟨y, hy⟩ := hM.some a
      exact ⟨(k, y), (hL k y).mpr ⟨i, a, hy⟩, rfl⟩
end K27

namespace K27
open PySem PySem.Spec PyProof.Rows L2
/-! ### the hand from which a script is drawn -/
/-- what the hand's list holds: the cells' list, how many are taken, the rest of a great cell, the running number -/
abbrev handO (l : Addr) (i r t : Int) : HO := .lst [.ref l, .int i, .int r, .int t]
structure HandOk (cells : List Int) (i r t : Int) : Prop where
  len : cells.length ≤ 63
  pos : ∀ c ∈ cells, 0 ≤ c
  i0 : 0 ≤ i
  i1 : i ≤ 63
  r0 : 0 ≤ r
  t0 : 0 ≤ t
  t1 : t < 2147483629
def HandAt (H : Hp) (p l : Addr) (cells : List Int) (i r t : Int) : Prop := H p = some (handO l i r t) ∧ H l = some (.lst (cells.map V.int)) ∧ HandOk cells i r t
/-! ### promises -/
def spMix : Sp := fun vs H Q _ => ∃ n k : Int, vs = [.int n, .int k] ∧ 0 ≤ n ∧ n < 2147483647 ∧ 0 ≤ k ∧ k ≤ 64 ∧ ∀ d : Int, 0 ≤ d → Q (.int d) H
def spDraw : Sp := fun vs H Q _ => ∃ (p l : Addr) (cells : List Int) (i r t m : Int), vs = [.ref p, .int m] ∧ HandAt H p l cells i r t ∧ 0 < m ∧ m.natAbs < 2 ^ 8000 ∧
  ∀ d i' r' t' : Int, 0 ≤ d → d < m → HandOk cells i' r' t' → Q (.int d) (upd H p (handO l i' r' t'))
section
variable {P : Program} {w : World} {K : PySem.W.Frag} {mg : Str → Option Value} {base : Heap}
theorem scMix : FnScope ["_law_number", "_law_turn", "_law_once", "_law_twice"] ["_law_number", "_law_turn"] (defScope sMix) := ⟨rfl, rfl, rfl, by decide +kernel, rfl, by decide +kernel, by decide +kernel⟩
theorem pp31 : (2147483647 : Int) < 2 ^ 64 := by decide
theorem ok_mix {f : Addr} {fd : FuncData} (F : FnP K "_law_mix" sMix f fd) (zi : mg "int" = none) : FnOk P w K mg base CX0 1 f fd ["_law_number", "_law_turn"] spMix := by
  refine F.ok scMix (fun vs H Q E h => ?_) (fun cdv A outer s H vs Q E hr h => ?_)
  · obtain ⟨n, k, rfl, _⟩ := h
    rfl
  · obtain ⟨n, k, rfl, n0, n1, k0, k1, q⟩ := h
    refine ⟨_, PSs.nox (pss_cons (ps_set (i := 2) scMix.nd rfl (.inl rfl)
        (pe_op op_mod (pe_callTy call_int1 (by rfl) zi (by decide +kernel) (pa_cons
          (pe_op op_add (pe_op op_add (pe_op op_mul (pv 0) pe_int) (pe_op op_mul (pv 1) pe_int)) pe_int) pa_nil)) pe_int))
      (pss_cons (ps_set (i := 3) scMix.nd rfl (.inl rfl)
        (pe_op op_mod (pe_callTy call_int1 (by rfl) zi (by decide +kernel) (pa_cons
          (pe_op op_add (pe_op op_add (pe_op op_mul (pv 2) (pv 2)) (pe_op op_mul (pe_op op_fdiv (pv 2) pe_int) pe_int)) (pe_op op_mul (pv 1) pe_int)) pa_nil)) pe_int))
      (pss_one (ps_ret (pe_op op_fdiv (pe_op op_mod (pe_callTy call_int1 (by rfl) zi (by decide +kernel) (pa_cons
          (pe_op op_add (pe_op op_fdiv (pe_op op_mul (pv 3) (pv 3)) pe_int) (pv 2)) pa_nil)) pe_int) pe_int))))), ?_⟩
    refine ⟨_, rfl, _, _, rfl, rfl, .inl ⟨by omega, by omega⟩, _, rfl, _, _, rfl, rfl, .inl ⟨by omega, by omega⟩, _, _, rfl, rfl, _, _, rfl, rfl, .inl ⟨_, rfl, _, _, rfl, rfl, (by show (0 : Int) < 2147483647; decide), ?_⟩⟩
    refine ⟨_, rfl, _, rfl, _, _, rfl, rfl, .inl ⟨by omega, by omega⟩, _, rfl, _, _, rfl, rfl, ⟨by decide, by decide⟩, _, _, rfl, rfl, .inr ⟨by decide, by decide⟩, _, _, rfl, rfl, _, rfl, _, _, rfl, rfl, .inl ⟨by omega, by omega⟩, _, _, rfl, rfl, .inl ⟨_, rfl, _, _, rfl, rfl, (by show (0 : Int) < 2147483399; decide), ?_⟩⟩
    refine ⟨_, rfl, _, rfl, _, _, rfl, rfl, .inl ⟨by omega, by omega⟩, _, _, rfl, rfl, ⟨by decide, by decide⟩, _, rfl, _, _, rfl, rfl, .inl ⟨_, rfl, _, _, rfl, rfl, (by show (0 : Int) < 2147483563; decide), _, _, rfl, rfl, ⟨by decide, by decide⟩, ?_⟩⟩
    refine q _ ?_
    omega
theorem scDraw : FnScope ["_law_hand_here", "_law_many", "_law_cell", "_law_rest"] ["_law_hand_here", "_law_many"] (defScope sDraw) := ⟨rfl, rfl, rfl, by decide +kernel, rfl, by decide +kernel, by decide +kernel⟩
theorem ok_draw {f fM : Addr} {fd fdM : FuncData} (F : FnP K "_law_draw" sDraw f fd) (zi : mg "int" = none) (zl : mg "len" = none) (FM : FnP K "_law_mix" sMix fM fdM) (gM : mg "_law_mix" = some (.ref fM)) : FnOk P w K mg base CX0 2 f fd ["_law_hand_here", "_law_many"] spDraw := by
  have GM : FnOk P w K mg base CX0 1 fM fdM ["_law_number", "_law_turn"] spMix := ok_mix FM zi
  have bM : Binds K fdM ["_law_number", "_law_turn"] [] := FM.bindsN fun _ _ _ _ _ _ us hl => match us, hl with | [_, _], _ => rfl
  refine F.ok scDraw (fun vs H Q E h => ?_) (fun cdv A outer s H vs Q E hr h => ?_)
  · obtain ⟨p, l, cells, i, r, t, m, rfl, _⟩ := h
    rfl
  · obtain ⟨p, l, cells, i, r, t, m, rfl, ⟨hp, hl, ok⟩, m0, m1, q⟩ := h
    refine ⟨_, PSs.nox (pss_cons (ps_if (PW.pt (pw_and (pt_cmpR op_eq (pe_ix ix_list (pv 0) pe_int (fun _ _ => rfl)) pe_int (nomark _)) (pw_and1 (pt_cmpR op_lt (pe_ix ix_list (pv 0) pe_int (fun _ _ => rfl)) (pe_callB call_len_seq (by rfl) zl boot_len (pa_cons (pe_ix ix_list (pv 0) pe_int (fun _ _ => rfl)) pa_nil)) (nomark _)))))
          (pss_cons (ps_set (i := 2) scDraw.nd rfl (.inl rfl) (pe_ix ix_list (pe_ix ix_list (pv 0) pe_int (fun _ _ => rfl)) (pe_ix ix_list (pv 0) pe_int (fun _ _ => rfl)) (fun _ _ => rfl)))
          (pss_cons (ps_asg (pe_op op_add (pe_ix ix_list (pv 0) pe_int (fun _ _ => rfl)) pe_int) (pg_sub (pv 0) pe_int set_list))
          (pss_cons (ps_if (pt_cmpR op_lt (pv 2) (pe_op op_pow pe_int pe_int) (nomark _))
            (pss_one (ps_ret (pe_op op_mod (pe_callTy call_int1 (by rfl) zi (by decide +kernel) (pa_cons (pe_call GM hr (by rfl) gM FM.kp bM .nil pass0 (pa_cons (pe_op op_mod (pe_callTy call_int1 (by rfl) zi (by decide +kernel) (pa_cons (pv 2) pa_nil)) pe_int) (pa_cons (pe_ix ix_list (pv 0) pe_int (fun _ _ => rfl)) pa_nil))) pa_nil)) (pv 1)))) pss_nil)
          (pss_one (ps_asg (pv 2) (pg_sub (pv 0) pe_int set_list)))))) pss_nil)
      (pss_cons (ps_if (pt_cmpR op_gt (pe_ix ix_list (pv 0) pe_int (fun _ _ => rfl)) pe_int (nomark _))
          (pss_cons (ps_set (i := 3) scDraw.nd rfl (.inl rfl) (pe_ix ix_list (pv 0) pe_int (fun _ _ => rfl)))
          (pss_cons (ps_asg (pe_op op_fdivW (pv 3) (pv 1)) (pg_sub (pv 0) pe_int set_list))
          (pss_one (ps_ret (pe_op op_mod (pe_callTy call_int1 (by rfl) zi (by decide +kernel) (pa_cons (pv 3) pa_nil)) (pv 1)))))) pss_nil)
      (pss_cons (ps_asg (pe_op op_mod (pe_callTy call_int1 (by rfl) zi (by decide +kernel) (pa_cons (pe_op op_add (pe_ix ix_list (pv 0) pe_int (fun _ _ => rfl)) pe_int) pa_nil)) pe_int) (pg_sub (pv 0) pe_int set_list))
      (pss_one (ps_ret (pe_op op_mod (pe_callTy call_int1 (by rfl) zi (by decide +kernel) (pa_cons (pe_call GM hr (by rfl) gM FM.kp bM .nil pass0 (pa_cons (pe_ix ix_list (pv 0) pe_int (fun _ _ => rfl)) (pa_cons (pe_ix ix_list (pv 0) pe_int (fun _ _ => rfl)) pa_nil))) pa_nil)) (pv 1))))))), ?_⟩
    refine ⟨_, rfl, _, _, _, _, rfl, rfl, SqL.of hp, rfl, rfl, _, rfl, ?_⟩
    have mlog : m.natAbs.log2 < 9000 := Nat.lt_of_lt_of_le (PySem.Flt.log2_lt_of (by decide) m1) (by decide)
    have fin : ∀ (d i' r' t' : Int) (H2 : Hp), 0 ≤ d → d < m → HandOk cells i' r' t' → H2 = upd H p (handO l i' r' t') → Q (.int d) H2 := fun d i' r' t' H2 d0 d1 o e => by
      subst e
      exact q d i' r' t' d0 d1 o
    have npl : l ≠ p := fun z => by
      rw [z, hp] at hl
      have h2 := Option.some.inj hl
      injection h2 with h3
      have h4 := congrArg List.head? h3
      cases cells with
      | nil => cases h4
      | cons c cs => cases h4
    refine ite2 (fun e => ?_) (fun e => ?_)
    · refine ⟨_, rfl, _, _, _, _, rfl, rfl, SqL.of hp, rfl, _, rfl, _, _, _, _, rfl, rfl, SqL.of hp, rfl, _, _, rfl, .inl (SqL.of hl), _, _, rfl, rfl, _, rfl, ?_⟩
      refine ite2 (fun e1 => ?_) (fun e1 => ?_)
      · have HP0 := hp
        have hi0 : 0 ≤ i := ok.i0
        have hlen : ((cells.map V.int).length : Int) = (cells.length : Int) := by rw [List.length_map]
        have hlt : i < (cells.length : Int) := by
          have z : i < ((cells.map V.int).length : Int) := of_decide_eq_true e1
          omega
        have hnat : i.toNat < cells.length := by omega
        have hget : atI (cells.map V.int) i = some (.int cells[i.toNat]) := by
          have z := atI_nat (xs := cells.map V.int) (j := i.toNat) (v := .int cells[i.toNat]) (by rw [List.getElem?_map, List.getElem?_eq_getElem hnat]; rfl)
          rw [Int.toNat_of_nonneg hi0] at z
          exact z
        have c0 : 0 ≤ cells[i.toNat] := ok.pos _ (List.getElem_mem hnat)
        have hl63 := ok.len
        refine ⟨_, rfl, _, _, _, _, rfl, rfl, SqL.of hp, rfl, _, rfl, _, _, _, _, rfl, rfl, SqL.of hp, rfl, _, _, _, _, rfl, rfl, SqL.of hl, hget, ?_⟩
        generalize cells[i.toNat] = c at c0
        refine ⟨_, rfl, _, _, _, _, rfl, rfl, SqL.of hp, rfl, _, _, rfl, rfl, _, rfl, _, _, _, _, rfl, rfl, hp, rfl, ?_⟩
        have ok2 : HandOk cells (i + 1) c t := ⟨ok.len, ok.pos, by omega, by omega, c0, ok.t0, ok.t1⟩
        refine ⟨_, rfl, _, _, rfl, rfl, ⟨by decide, by decide, by decide⟩, _, _, rfl, rfl, _, rfl, ?_⟩
        refine ite2 (fun e2 => ?_) (fun e2 => ?_)
        · refine ⟨_, rfl, .inl ⟨_, rfl, _, _, rfl, rfl, (by show (0 : Int) < 2147483647; decide), _, rfl, _, _, _, _, rfl, rfl, SqL.of upd_same, rfl, _, _, rfl, Int.emod_nonneg _ (by decide), Int.emod_lt_of_pos _ (by decide), by omega, by omega, fun d d0 => ?_⟩⟩
          refine .inl ⟨_, rfl, _, rfl, _, _, rfl, rfl, m0, ?_⟩
          exact fin _ _ _ _ _ (Int.emod_nonneg _ (Int.ne_of_gt m0)) (Int.emod_lt_of_pos _ m0) ⟨ok.len, ok.pos, ok2.i0, ok2.i1, ok.r0, ok.t0, ok.t1⟩ (by simp only [upd_upd]; rfl)
        · refine ⟨_, rfl, _, rfl, _, _, _, _, rfl, rfl, upd_same, rfl, ?_⟩
          have HP : (upd (upd H p (.lst ([V.ref l, .int i, .int r, .int t].set 1 (.int (i + 1))))) p (.lst (([V.ref l, .int i, .int r, .int t].set 1 (.int (i + 1))).set 2 (.int c)))) p = some (handO l (i + 1) c t) := upd_same
          refine ⟨_, rfl, _, _, _, _, rfl, rfl, SqL.of HP, rfl, _, _, rfl, rfl, _, rfl, ?_⟩
          refine ite2 (fun e3 => ?_) (fun e3 => ?_)
          · refine ⟨_, rfl, _, _, _, _, rfl, rfl, SqL.of HP, rfl, ?_⟩
            refine ⟨_, rfl, _, rfl, _, _, rfl, rfl, ⟨m0, mlog⟩, _, rfl, _, _, _, _, rfl, rfl, HP, rfl, ?_⟩
            refine ⟨_, rfl, .inl ⟨_, rfl, _, rfl, _, _, rfl, rfl, m0, ?_⟩⟩
            exact fin _ _ _ _ _ (Int.emod_nonneg _ (Int.ne_of_gt m0)) (Int.emod_lt_of_pos _ m0) ⟨ok2.len, ok2.pos, ok2.i0, ok2.i1, Int.ediv_nonneg ok2.r0 (Int.le_of_lt m0), ok2.t0, ok2.t1⟩ (by simp only [upd_upd]; rfl)
          · refine ⟨_, rfl, _, _, _, _, rfl, rfl, SqL.of HP, rfl, _, _, rfl, rfl, .inl ⟨_, rfl, _, _, rfl, rfl, (by show (0 : Int) < 2147483629; decide), _, rfl, _, _, _, _, rfl, rfl, HP, rfl, ?_⟩⟩
            have u0 := ok2.i0
            have u1 := ok2.i1
            refine ⟨_, rfl, _, _, _, _, rfl, rfl, SqL.of upd_same, rfl, _, rfl, _, _, _, _, rfl, rfl, SqL.of upd_same, rfl, _, _, rfl, by omega, by omega, by omega, by omega, fun d d0 => ?_⟩
            refine .inl ⟨_, rfl, _, rfl, _, _, rfl, rfl, m0, ?_⟩
            exact fin _ _ _ _ _ (Int.emod_nonneg _ (Int.ne_of_gt m0)) (Int.emod_lt_of_pos _ m0) ⟨ok2.len, ok2.pos, ok2.i0, ok2.i1, ok2.r0, Int.emod_nonneg (t + 1) (show (2147483629 : Int) ≠ 0 by decide), Int.emod_lt_of_pos (t + 1) (show (0 : Int) < 2147483629 by decide)⟩ (by simp only [upd_upd]; rfl)
      · have HP := hp
        refine ⟨_, rfl, _, _, _, _, rfl, rfl, SqL.of HP, rfl, _, _, rfl, rfl, _, rfl, ?_⟩
        refine ite2 (fun e2 => ?_) (fun e2 => ?_)
        · refine ⟨_, rfl, _, _, _, _, rfl, rfl, SqL.of HP, rfl, ?_⟩
          refine ⟨_, rfl, _, rfl, _, _, rfl, rfl, ⟨m0, mlog⟩, _, rfl, _, _, _, _, rfl, rfl, HP, rfl, ?_⟩
          refine ⟨_, rfl, .inl ⟨_, rfl, _, rfl, _, _, rfl, rfl, m0, ?_⟩⟩
          exact fin _ _ _ _ _ (Int.emod_nonneg _ (Int.ne_of_gt m0)) (Int.emod_lt_of_pos _ m0) ⟨ok.len, ok.pos, ok.i0, ok.i1, Int.ediv_nonneg ok.r0 (Int.le_of_lt m0), ok.t0, ok.t1⟩ (by simp only [upd_upd]; rfl)
        · refine ⟨_, rfl, _, _, _, _, rfl, rfl, SqL.of HP, rfl, _, _, rfl, rfl, .inl ⟨_, rfl, _, _, rfl, rfl, (by show (0 : Int) < 2147483629; decide), _, rfl, _, _, _, _, rfl, rfl, HP, rfl, ?_⟩⟩
          have u0 := ok.i0
          have u1 := ok.i1
          refine ⟨_, rfl, _, _, _, _, rfl, rfl, SqL.of upd_same, rfl, _, rfl, _, _, _, _, rfl, rfl, SqL.of upd_same, rfl, _, _, rfl, by omega, by omega, by omega, by omega, fun d d0 => ?_⟩
          refine .inl ⟨_, rfl, _, rfl, _, _, rfl, rfl, m0, ?_⟩
          exact fin _ _ _ _ _ (Int.emod_nonneg _ (Int.ne_of_gt m0)) (Int.emod_lt_of_pos _ m0) ⟨ok.len, ok.pos, ok.i0, ok.i1, ok.r0, Int.emod_nonneg (t + 1) (show (2147483629 : Int) ≠ 0 by decide), Int.emod_lt_of_pos (t + 1) (show (0 : Int) < 2147483629 by decide)⟩ (by simp only [upd_upd]; rfl)
    · have HP := hp
      refine ⟨_, rfl, _, _, _, _, rfl, rfl, SqL.of HP, rfl, _, _, rfl, rfl, _, rfl, ?_⟩
      refine ite2 (fun e2 => ?_) (fun e2 => ?_)
      · refine ⟨_, rfl, _, _, _, _, rfl, rfl, SqL.of HP, rfl, ?_⟩
        refine ⟨_, rfl, _, rfl, _, _, rfl, rfl, ⟨m0, mlog⟩, _, rfl, _, _, _, _, rfl, rfl, HP, rfl, ?_⟩
        refine ⟨_, rfl, .inl ⟨_, rfl, _, rfl, _, _, rfl, rfl, m0, ?_⟩⟩
        exact fin _ _ _ _ _ (Int.emod_nonneg _ (Int.ne_of_gt m0)) (Int.emod_lt_of_pos _ m0) ⟨ok.len, ok.pos, ok.i0, ok.i1, Int.ediv_nonneg ok.r0 (Int.le_of_lt m0), ok.t0, ok.t1⟩ (by simp only [upd_upd]; rfl)
      · refine ⟨_, rfl, _, _, _, _, rfl, rfl, SqL.of HP, rfl, _, _, rfl, rfl, .inl ⟨_, rfl, _, _, rfl, rfl, (by show (0 : Int) < 2147483629; decide), _, rfl, _, _, _, _, rfl, rfl, HP, rfl, ?_⟩⟩
        have u0 := ok.i0
        have u1 := ok.i1
        refine ⟨_, rfl, _, _, _, _, rfl, rfl, SqL.of upd_same, rfl, _, rfl, _, _, _, _, rfl, rfl, SqL.of upd_same, rfl, _, _, rfl, by omega, by omega, by omega, by omega, fun d d0 => ?_⟩
        refine .inl ⟨_, rfl, _, rfl, _, _, rfl, rfl, m0, ?_⟩
        exact fin _ _ _ _ _ (Int.emod_nonneg _ (Int.ne_of_gt m0)) (Int.emod_lt_of_pos _ m0) ⟨ok.len, ok.pos, ok.i0, ok.i1, ok.r0, Int.emod_nonneg (t + 1) (show (2147483629 : Int) ≠ 0 by decide), Int.emod_lt_of_pos (t + 1) (show (0 : Int) < 2147483629 by decide)⟩ (by simp only [upd_upd]; rfl)
/-! ### the hand is made -/
def absI (c : Int) : Int := if c < 0 then -c else c
theorem absI_nonneg (c : Int) : 0 ≤ absI c := by
  unfold absI
  split <;> omega
theorem same_upd {H : Hp} {p : Addr} {o : HO} (h : H p = none) : Same H (upd H p o) := fun b x e => by
  rw [upd_ne (ne_of_none e h)]
  exact e
def spHand (K : PySem.W.Frag) : Sp := fun vs H Q _ => ∃ (a : Addr) (ns : List Int), vs = [.ref a] ∧ SqL K H a (ns.map V.int) ∧ ns.length ≤ 63 ∧
  ∀ (H' : Hp) (p l : Addr) (t : Int), Same H H' → H p = none → HandAt H' p l (ns.map absI) 0 0 t → Q (.ref p) H'
theorem scHand : FnScope ["_law_script", "_law_total", "_law_k", "_law_cell"] ["_law_script"] (defScope sHand) := ⟨rfl, rfl, rfl, by decide +kernel, rfl, by decide +kernel, by decide +kernel⟩
theorem ok_hand {f : Addr} {fd : FuncData} (F : FnP K "_law_hand" sHand f fd) (zi : mg "int" = none) (za : mg "abs" = none) (ze : mg "enumerate" = none) : FnOk P w K mg base CX0 1 f fd ["_law_script"] (spHand K) := by
  refine F.ok scHand (fun vs H Q E h => ?_) (fun cdv A outer s H vs Q E hr h => ?_)
  · obtain ⟨a, ns, rfl, _⟩ := h
    rfl
  · obtain ⟨a, ns, rfl, hS, hlen, q⟩ := h
    refine ⟨_, PSs.nox (pss_cons (ps_set (i := 1) scHand.nd rfl (.inl rfl) pe_int)
      (pss_cons (ps_for PassesOwn.never rfl (pi_enum (by rfl) ze (pa_cons (pv 0) pa_nil))
          (pg_tup (by rfl) (pgs_cons (pg_name (i := 2) scHand.nd rfl (.inl rfl)) (pgs_cons (pg_name (i := 3) scHand.nd rfl (.inl rfl)) pgs_nil)))
        (pss_one (ps_set (i := 1) scHand.nd rfl (.inl rfl) (pe_op op_mod (pe_callTy call_int1 (by rfl) zi (by decide +kernel) (pa_cons
          (pe_op op_add (pe_op op_mul (pv 1) pe_int) (pe_op op_mul (pe_callTy call_int1 (by rfl) zi (by decide +kernel) (pa_cons (pv 3) pa_nil)) (pe_op op_add (pv 2) pe_int))) pa_nil)) pe_int))))
      (pss_one (ps_ret (pe_lst (pa_cons
        (pe_lc (own := [("_law_cell", 3)]) (g := gName 3) (tt := tYes) rfl scHand.nd (pi_list (pv 0)) (blkOk_by (N := ["_law_script", "_law_total", "_law_k", "_law_cell"]) (sc := defScope sHand) (by decide +kernel)) (fun _ _ _ _ _ => pg_name (i := 3) scHand.nd rfl (Or.inl rfl)) (fun _ _ _ _ _ => pts_nil)
          (fun _ _ _ _ _ => pe_callB call_abs (by rfl) za (by decide +kernel) (pa_cons (pe_callTy call_int1 (by rfl) zi (by decide +kernel) (pa_cons (pv 3) pa_nil)) pa_nil)))
        (pa_cons pe_int (pa_cons pe_int (pa_cons (pv 1) pa_nil))))))))), ?_⟩
    refine ⟨_, rfl, a, _, rfl, hS, for_it walk_enum (fun _ σ H' => ∃ (t : Int) (x y : Option V), σ = [some (.ref a), some (.int t), x, y] ∧ 0 ≤ t ∧ t < 2147483629 ∧ Same H H') ⟨0, none, none, rfl, by decide, by decide, fun _ _ e => e⟩
      (fun i σ H' _ ⟨_, _, _, _, _, _, sm⟩ => sm.seq hS) ?_ ?_⟩
    · rintro i x σ H1 H2 hi ⟨t, x1, x2, rfl, t0, t1, sm⟩ ⟨T, u, v, rfl, nT, rfl, eu, ev⟩
      have hi' : i < ns.length := by
        rw [List.length_map] at hi
        exact hi
      obtain rfl : u = .int (i : Int) := (Option.some.inj eu).symm
      obtain rfl : v = .int ns[i] := by
        have e2 : (ns.map V.int)[i]? = some (.int ns[i]) := by rw [List.getElem?_map, List.getElem?_eq_getElem hi']; rfl
        exact Option.some.inj (ev.symm.trans e2)
      refine ⟨T, _, rfl, .inl (.inl upd_same), rfl, _, _, rfl, _, _, rfl, rfl, ?_⟩
      refine ⟨_, rfl, _, _, rfl, rfl, .inl ⟨by omega, by omega⟩, _, rfl, .inl ⟨_, rfl, _, rfl, _, _, rfl, rfl, _, _, rfl, rfl, .inr ⟨by omega, by omega⟩, _, _, rfl, rfl, .inl ⟨_, rfl, _, _, rfl, rfl, (by show (0 : Int) < 2147483629; decide), ?_⟩⟩⟩
      exact ⟨_, _, _, rfl, Int.emod_nonneg _ (by decide), Int.emod_lt_of_pos _ (by decide), fun b o e => same_upd nT _ _ (sm _ _ e)⟩
    · rintro σ H1 ⟨t, x1, x2, rfl, t0, t1, sm⟩
      refine ⟨_, rfl, a, rfl, ⟨_, sm.seq hS⟩, fun D nD => lc_it walk_list (fun i H' => Same H1 H' ∧ H' D = some (.lst (((ns.map absI).take i).map V.int))) ⟨same_upd nD, upd_same⟩
        (fun i H' _ ⟨s2, _⟩ => s2.seq (sm.seq hS)) ?_ ?_⟩
      · rintro i x H2 H3 hi ⟨s2, eD⟩ ⟨rfl, ex⟩
        have hi' : i < ns.length := by
          rw [List.length_map] at hi
          exact hi
        obtain rfl : x = .int ns[i] := by
          have e2 : (ns.map V.int)[i]? = some (.int ns[i]) := by rw [List.getElem?_map, List.getElem?_eq_getElem hi']; rfl
          exact Option.some.inj (ex.symm.trans e2)
        refine ⟨rfl, ?_⟩
        refine ⟨_, rfl, .inl ⟨_, rfl, _, rfl, _, eD, ?_, ?_⟩⟩
        · rw [List.length_map, List.length_take]
          exact Nat.lt_of_le_of_lt (Nat.min_le_left _ _) (Nat.lt_of_lt_of_le (Nat.lt_of_lt_of_le hi' hlen) (by decide))
        · refine ⟨fun b o e => ?_, ?_⟩
          · have nb : b ≠ D := ne_of_none e nD
            rw [upd_ne nb]
            exact s2 _ _ e
          · rw [upd_same, List.take_add_one, List.getElem?_map, List.getElem?_eq_getElem hi', List.map_append]
            rfl
      · rintro H2 ⟨s2, eD⟩
        have eall : ((ns.map absI).take (ns.map V.int).length) = ns.map absI := List.take_of_length_le (by rw [List.length_map, List.length_map]; exact Nat.le_refl _)
        rw [eall] at eD
        refine ⟨_, rfl, (by show 4 ≤ sizeLine; decide), fun p np => ?_⟩
        have npD : D ≠ p := ne_of_none eD np
        refine q _ p D t (fun b o e => same_upd np _ _ (s2 _ _ (sm _ _ e))) ?_ ⟨upd_same, ?_, ?_⟩
        · cases e : H p with
          | none => rfl
          | some o =>
            have e2 := s2 _ _ (sm _ _ e)
            rw [np] at e2
            cases e2
        · rw [upd_ne npD]
          exact eD
        · exact ⟨by rw [List.length_map]; exact hlen, fun c hc => by
            obtain ⟨y, _, rfl⟩ := List.mem_map.mp hc
            exact absI_nonneg y, by decide, by decide, by decide, t0, t1⟩
end
end K27

/-! the greatest of a list of whole numbers, with default= -/
namespace K27
open PySem PySem.Spec PyProof.Rows L2
def rMaxDef (K : PySem.W.Frag) : List V → List V → Hp → VK → Prop := fun vs zs H Q => ∃ (a : Addr) (ns : List Int) (d : Int), vs = [.ref a] ∧ zs = [.int d] ∧ SqL K H a (ns.map V.int) ∧ (ns = [] → Q (.int d) H) ∧
  ∀ m, m ∈ ns → (∀ y ∈ ns, y ≤ m) → Q (.int m) H
theorem readsInts {h : Heap} {vs : List Value} {ns : List Int} (r : IntsAre vs ns) : ReadsAll h vs (ns.map PyData.int) [] := by
  induction r with
  | nil => exact .nil
  | cons i t _ ih => exact .cons (.int _ _) ih
theorem depth_ints : ∀ ns : List Int, PyData.depthAll (ns.map PyData.int) ≤ 1
  | [] => Nat.zero_le _
  | n :: ns => Nat.max_le.mpr ⟨Nat.zero_le _, depth_ints ns⟩
theorem foldmax_mem (n : Int) : ∀ ns : List Int, (ns.foldl max n ∈ n :: ns) ∧ ∀ y ∈ n :: ns, y ≤ ns.foldl max n
  | [] => ⟨List.mem_cons_self, fun y h => by
    rcases List.mem_cons.mp h with rfl | h
    · exact Int.le_refl _
    · cases h⟩
  | k :: ns => by
    obtain ⟨h1, h2⟩ := foldmax_mem (max n k) ns
    rw [List.foldl_cons]
    have hm : max n k = n ∨ max n k = k := by omega
    refine ⟨?_, fun y h => ?_⟩
    · rcases List.mem_cons.mp h1 with e | h
      · rw [e]
        rcases hm with e2 | e2
        · rw [e2]; exact List.mem_cons_self
        · rw [e2]; exact List.mem_cons_of_mem _ List.mem_cons_self
      · exact List.mem_cons_of_mem _ (List.mem_cons_of_mem _ h)
    · have hmx := h2 (max n k) List.mem_cons_self
      rcases List.mem_cons.mp h with rfl | h
      · omega
      · rcases List.mem_cons.mp h with rfl | h
        · omega
        · exact h2 y (List.mem_cons_of_mem _ h)
theorem crk_max {X : Cx} (hc : X.calm = true) (hu : X.A.units + 3 < cLine) : CallRK X (.builtin "max") [Str.ofString "default"] (rMaxDef X.K) := by
  intro pins s σ H xs zs us ws Q I r rz h
  obtain ⟨a, ns, d, rfl, rfl, hS, q0, q⟩ := h
  obtain ⟨its, rv, hl, _⟩ := I.list hS
  rw [Vals.ref1 r]
  cases rz with
  | cons rd rr =>
    cases rr
    obtain ⟨t, rfl⟩ := rd
    have hi := rv.ints
    have hr := readsInts (h := s.heap) hi
    have hd : PyData.depthAll (ns.map PyData.int) ≤ 1 := depth_ints ns
    refine PySem.W.max_list_default (vs := its.toArray) (xs := ns.map PyData.int) (I.ok.hd hc) hl.isList hr ⟨fun x hx y hy => ?_, fun x hx => ?_⟩ (by show X.A.units + 1 + _ < _; omega) (fun e h' tk hk => ?_) (fun y ys i v h' tk bs e hv rd hk => ?_)
    · obtain ⟨i, _, rfl⟩ := List.mem_map.mp hx
      obtain ⟨j, _, rfl⟩ := List.mem_map.mp hy
      rfl
    · obtain ⟨i, _, rfl⟩ := List.mem_map.mp hx
      intro z
      cases z
    · have en : ns = [] := by
        cases ns with
        | nil => rfl
        | cons n ns => cases e
      exact ⟨.int d, H, I.kept hk, ⟨_, rfl⟩, q0 en⟩
    · cases ns with
      | nil => cases e
      | cons n ns =>
        injection e with e1 e2
        subst e1 e2
        rw [PySem.W.maxD_ints] at rd
        obtain ⟨h1, h2⟩ := foldmax_mem n ns
        cases rd with
        | int i t => exact ⟨.int _, H, I.kept hk, ⟨_, rfl⟩, q _ h1 h2⟩
end K27

/-! == by an own __eq__, with either answer; is between classes of either sort; type of either sort -/
namespace K27
open PySem PySem.Spec PyProof.Rows L2
/-- what stands right of the sign: its class -/
inductive TyR (H : Hp) : V → Value → Prop where
  | ins {a C dx : Addr} {fs : List (Str × V)} (e : H a = some (.ins C dx fs)) : TyR H (.ref a) (.ref C)
  | tup {a : Addr} {xs : List V} (e : H a = some (.tup xs)) : TyR H (.ref a) (.type "tuple")
  | lst {a : Addr} {xs : List V} (e : H a = some (.lst xs)) : TyR H (.ref a) (.type "list")
def rEqI (K : PySem.W.Frag) (C : Addr) (sp : Sp) : R2 := fun x y H Q => ∃ (a dx : Addr) (fs : List (Str × V)) (tb : Value), x = .ref a ∧ H a = some (.ins C dx fs) ∧ TyR H y tb ∧ PySem.W.notFirst K C tb = true ∧ sp [.ref a, y] H (fun v H' => ∃ b, v = .bl b ∧ Q (.bl b) H') E0
section
variable {X : Cx} {n : Nat}
theorem TyR.look {pins : List (Addr × Obj)} {s : Shared} {σ : L2.St} {H : Hp} {y : V} {v tb : Value} (I : Inv X pins σ H s) (t : TyR H y tb) (r : RelV y v) : PySem.W.Looks (model X.prog X.w) s.heap (typeOf v) tb := by
  cases t with
  | ins e =>
    cases r
    obtain ⟨mA, J, _⟩ := ins_get I.hok e
    obtain ⟨od, J, _⟩ := J.look
    exact J.type
  | tup e =>
    cases r
    obtain ⟨_, _, _, o, h1, h2, _⟩ := (show ObjOk X.prog X.w H s.heap _ (.tup _) from I.hok _ _ e)
    exact fun A Q E s k q => wpAny_typeOf_ref (k _ _ h1) (by rw [h2]; exact q)
  | lst e =>
    cases r
    obtain ⟨_, _, n, _, h1⟩ := (show ObjOk X.prog X.w H s.heap _ (.lst _) from I.hok _ _ e)
    exact fun A Q E s k q => wpAny_typeOf_ref (k _ _ h1) q
theorem op_eqI {CX : CXT} {C f : Addr} {fd : FuncData} {ps : List Str} {sp : Sp} (F : FnOk X.prog X.w X.K X.mg X.base CX n f fd ps sp)
    (hs : PySem.W.findIn X.K (.ref C) "__eq__" = some (some (.ref f))) (hf : PySem.W.isFn X.K (.ref f) = true) (hb : Binds X.K fd ps []) (hx : Passes CX X E0) (hr : Room n X.A) : OpR X (compareOp .Eq) (rEqI X.K C sp) := by
  intro pins s σ H x y u v Q I rx ry h
  obtain ⟨a, dx, fs, tb, rfl, ha, ty, nf, hsp⟩ := h
  cases rx
  obtain ⟨mA, J, _⟩ := ins_get I.hok ha
  obtain ⟨od, J, _⟩ := J.look
  obtain ⟨m, hF⟩ := I.fr
  refine PySem.W.cmp_K (op := .Eq) (tb := tb) hr.units0 hF I.ok.mod.kin J (ty.look I ry) nf hs hf ?_
  have e0 : Env0 X.prog X.w X.K X.mg X.base X.A X.stack s H := I.env0
  have hl := F.len _ _ _ _ hsp
  have r2 : Vals [V.ref a, y] [Value.ref a, v] := .cons rfl (.cons ry .nil)
  refine wpAny_call (codeAny_mono (F.run X.A X.stack s H ⟨[.ref a, v], []⟩ [.ref a, v] [.ref a, y] _ E0 hr e0 (by
    have := hb s [.ref a, v] I.kIn (by simpa using hl)
    simpa using this) r2 hsp) fun r s' hq => ?_)
  cases r with
  | error e => exact hx pins σ H s e s' I hq
  | ok fl =>
    cases fl with
    | ret w =>
      obtain ⟨z, H', I', rz, b, ez, q⟩ := I.after hq
      subst ez
      cases rz
      exact ⟨.bl b, H', I', rfl, q⟩
    | next => exact False.elim hq
    | brk => exact False.elim hq
    | cont => exact False.elim hq
/-! ### type(a) is type(b) -/
def rTyp2 : List V → Hp → VK → Prop := fun xs H Q => ∃ x, xs = [x] ∧ ((∃ a C dx fs, x = .ref a ∧ H a = some (.ins C dx fs) ∧ Q (.ref C) H) ∨ (∃ a us, x = .ref a ∧ (H a = some (.tup us)) ∧ Q (.ty "tuple") H))
theorem cr_type2 : CallR X (.type "type") rTyp2 := by
  intro pins s σ H xs us Q I r h
  obtain ⟨x, rfl, ⟨a, C, dx, fs, rfl, ha, q⟩ | ⟨a, zs, rfl, ha, q⟩⟩ := h
  · exact cr_type pins s σ H _ us Q I r ⟨a, C, dx, fs, rfl, ha, q⟩
  · rw [Vals.ref1 r]
    obtain ⟨hz, its, r', ob, g, c, k⟩ := (show ObjOk X.prog X.w H s.heap _ (.tup _) from I.hok _ _ ha)
    exact call_type_of (Tx := "tuple") ⟨ob, g, c⟩ (by decide +kernel) ⟨.ty "tuple", H, I, rfl, q⟩
def rIs2 (K : PySem.W.Frag) : R2 := fun x y H Q => ∃ a, x = .ref a ∧ ((y = .ref a ∧ Q (.bl true) H) ∨ (∃ b, y = .ref b ∧ a ≠ b ∧ PySem.W.makesIn K a = true ∧ PySem.W.makesIn K b = true ∧ Q (.bl false) H) ∨ (∃ t, y = .ty t ∧ Q (.bl false) H))
theorem op_is2 : OpR X (compareOp .Is) (rIs2 X.K) := by
  intro pins s σ H x y v u Q I rx ry h
  obtain ⟨a, rfl, ⟨rfl, q⟩ | ⟨b, rfl, ne, h1, h2, q⟩ | ⟨t, rfl, q⟩⟩ := h
  · exact op_is_cls pins s σ H _ _ v u Q I rx ry ⟨a, a, rfl, rfl, .inl rfl, by rw [decide_eq_true rfl]; exact q⟩
  · exact op_is_cls pins s σ H _ _ v u Q I rx ry ⟨a, b, rfl, rfl, .inr ⟨h1, h2⟩, by rw [decide_eq_false ne]; exact q⟩
  · cases rx
    cases ry
    exact wpAny_is_other rfl (by intro z; cases z) ⟨.bl false, H, I, rfl, q⟩
end
end K27

/-! own errors with an __init__: made where an except suite above may raise; isinstance of a caught one with fields; a def walked while one is handled -/
namespace K27
open PySem PySem.Spec PyProof.Rows L2
section
variable {X : Cx} {e : Expr} {es : List Expr} {ta : TA} {p pos : Pos}
theorem pmk_oexN {CX : CXT} {x : Str} {C fI : Addr} {k : Nat} {fd : FuncData} {ps : List Str} {sp : Sp} (T : OexC X.K C) (iC : PySem.W.findIn X.K (.ref C) "__init__" = some (some (.ref fI))) (tI : PySem.W.typeIn X.K (.ref fI) = some (.type "function"))
    (F1 : FnOk X.prog X.w X.K X.mg X.base CX k fI fd ps sp) (hr : Room (k + 1) X.A) (hb : Binds X.K fd ps []) (hx : Passes CX X (fun _ _ _ => False)) (hg : Gl X x) (hm : X.mg x = some (.ref C)) (ha : PA X (e :: es) ta)
    (hdb : (x == ("__debug__" : Str)) = false := by decide) (he : starEach (e :: es) X.env = (false, eval e X.env) :: starEach es X.env := by rfl) (hpl : (backTo pos (starEach es X.env)).any (·.1) = false := by rfl) :
    L2N.PMk X (.Call (.Name x p) (e :: es) [] pos) (tMkO C sp [] ta) := by
  intro pins s σ H Q I h
  obtain ⟨nm, q, N, bs, bm, sn, sub, ab, col, dd, k0, k1, k2, k3, k5, hC, hbm⟩ := T.cls
  refine wpAny_Call_Name_kw (ld_glob I hg hm ?_ hdb)
  refine PySem.W.callWith_K (h₀ := X.base) I.ok.mod.kin T.kC (thn (ha.run pos pins s σ H _ I h) fun us s1 ⟨vs, H1, I1, r1, hz, q1⟩ => ⟨I1.kIn, ?_⟩) he hpl
  show wpAny _ _ (call (.ref C) us) _ _ _
  obtain ⟨hp, g, dr, tk, os⟩ := s1
  have hsz : hp.objs.size ≤ hp.objs.size + 1 := Nat.le_succ _
  have hn : H1 (hp.objs.size + 1) = none := I1.hok.fresh hsz
  have hq := q1 (hp.objs.size + 1) hn
  have kk : ∀ b o, hp.get? b = some o → ((hp.push (PySem.W.kdv_tup us)).push (PySem.HandSPX.excO C hp.objs.size)).get? b = some o := fun b o e => Heap.get?_push_of_some _ (Heap.get?_push_of_some _ e)
  have hget : ((hp.push (PySem.W.kdv_tup us)).push (PySem.HandSPX.excO C hp.objs.size)).get? (hp.objs.size + 1) = some (PySem.HandSPX.excO C hp.objs.size) := by heap_get
  have I2 : Inv X pins σ (upd H1 (hp.objs.size + 1) (exo (hp.objs.size + 1) C none)) ⟨(hp.push (PySem.W.kdv_tup us)).push (PySem.HandSPX.excO C hp.objs.size), g, dr, tk, os⟩ :=
    I1.laid (t' := tk) (a := hp.objs.size + 1) (o := exo (hp.objs.size + 1) C none) (h' := (hp.push (PySem.W.kdv_tup us)).push (PySem.HandSPX.excO C hp.objs.size)) kk hsz (exo_ok hget)
  have r2 : Vals (V.ref (hp.objs.size + 1) :: (vs ++ [])) (Value.ref (hp.objs.size + 1) :: (us ++ [])) := .cons rfl (r1.append .nil)
  have hl : (Value.ref (hp.objs.size + 1) :: us ++ []).length = ps.length := by
    have e := r2.length
    rw [F1.len _ _ _ _ hq] at e
    exact e.symm
  have hus : us.length ≤ sizeLine := by
    rw [← Paired.length r1, sizeLine_eq]
    omega
  refine wpAny_call (PySem.HandSPX.call_own F.excBase_ValueError (fun Y => PySem.HandSPX.refsVE_contains Y bm hbm) (I1.kIn _ _ hC) (PySem.W.looks_findIn I1.kIn iC) (fun self => PySem.W.bind_fn I1.kIn self tI) hus
    (codeAny_mono (F1.run _ X.stack _ _ ⟨Value.ref (hp.objs.size + 1) :: us, []⟩ (Value.ref (hp.objs.size + 1) :: (us ++ [])) _ _ (fun _ _ _ => False) (hr.make C us []) (I2.env0.make C us []) (by rw [List.append_nil]; have z := hb _ (Value.ref (hp.objs.size + 1) :: us) I2.kIn hl; rw [List.append_nil] at z; exact z) r2 hq) fun r s' hq' => ?_))
  cases r with
  | error er => exact hx pins σ _ _ er s' I2 hq'
  | ok fl =>
    cases fl with
    | ret u =>
      obtain ⟨v, H2, os2, bare2, un2, hok2, rv, ev, d, fs, ea, ed, hd1, q2⟩ := hq'
      subst ev
      obtain ⟨h2, g2, d2, t2, os'⟩ := s'
      obtain ⟨t0, G, J, kG, ge, hoe, na⟩ := mk_end0 (d2 := d2) (t2 := t2) I1 hsz kk un2 hok2 os2 bare2 ea ed hd1
      exact ⟨rv, ⟨hp.objs.size + 1, _, _, ⟨G, g2, d2, t2, os'⟩, _, .ref C, some d, rfl, J, kG, ge, hoe, ⟨rfl, rfl, fun vs hv => by
        cases hv
        rfl⟩, rfl, rfl, na, rfl, bare2, raises_own T.exC T.tyC, q2⟩⟩
    | next => exact False.elim hq'
    | brk => exact False.elim hq'
    | cont => exact False.elim hq'
end
/-! ### isinstance of the error that a suite holds, with fields of its own -/
def rIsD (K : PySem.W.Frag) (D a : Addr) (cls : Value) (d : Option Addr) : List V → Hp → VK → Prop := fun xs H Q => ∃ (c : V) (cv : Value) (b : Bool) (dd : Addr) (fs : List (Str × V)), xs = [.ref a, c] ∧ cls = .ref D ∧ d = some dd ∧ H dd = some (.xd fs) ∧ (∀ u, RelV c u → u = cv) ∧ PySem.W.kitOne K (.ref D) cv = some b ∧ Q (.bl b) H
theorem clsIn_some {K : PySem.W.Frag} {D : Addr} (h : PySem.W.hasDictIn K D = true) : (PySem.W.clsIn K D).isSome = true := by
  obtain ⟨cd, hc, _⟩ := PySem.W.any_some h
  rw [hc]
  rfl
theorem call_isD {X : Cx} {a D : Addr} {oe : Obj} {cls : Value} {d : Option Addr} {pn : List (Addr × Obj)} (C : ExcC X.K D) (hz : Zc cls d oe) (hf : ∃ vs, oe.data = .fields vs) : CallR (X.suite a ((a, oe) :: pn)) (.builtin "isinstance") (rIsD X.K D a cls d) := by
  intro pins s σ H xs us Q I r h
  obtain ⟨c, cv, b, dd, fs, rfl, rfl, rfl, ed, hcv, e, q⟩ := h
  obtain ⟨u1, u2, rfl, r1, r2⟩ := vals2 r
  cases (show u1 = Value.ref a from r1)
  have ec := hcv _ r2
  subst ec
  obtain ⟨hget, _⟩ := I.pin (a, oe) (List.mem_append.mpr (.inl List.mem_cons_self))
  obtain ⟨vs, hv⟩ := hf
  have hx : ObjOk X.prog X.w H s.heap dd (.xd fs) := I.hok dd _ ed
  obtain ⟨mA, hns, hr⟩ := hx
  obtain ⟨od, ho, hl⟩ := lookIn_ns hns
  have J : PySem.W.InstAt s.heap a oe D (some od) := ⟨hget, hz.1, by unfold PySem.W.notCls; rw [hv] <;> rfl, by rw [hz.2]; exact ho⟩
  exact PySem.W.kia_one (PySem.W.kitx_exc (clsIn_some C.hd) C.hg C.hk C.hs C.ha C.hn C.ht C.hm) I.kIn J e (fun z => nomatch z) fun tk => ⟨.bl b, H, I.tok tk, rfl, q⟩
end K27
namespace L2H
open PySem PySem.Spec PyProof.Rows L2
/-! ### a def walked while an error is handled -/
theorem okH {P : Program} {w : World} {K : PySem.W.Frag} {mg : Str → Option Value} {base : Heap} {x qual : Str} {params : Arguments} {body : List Stmt} {scope : Scope} {dvs : List V} {kws : List (Str × V)} {f : Addr} {fd : FuncData}
    {CX : CXT} {N ps : List Str} {k : Nat} {sp : Sp} (F : FunD K x qual params body scope dvs kws f fd) (S : FnScope N ps scope) (len : ∀ vs H Q E, sp vs H Q E → vs.length = ps.length)
    (hbody : ∀ (cdv : Value) (A : Around) (outer : List Env) (s : Shared) (H : Hp) (vs : List V) (Q : VK) (E : XK) (p : Addr × Obj), Hot1 A p → RoomH k (A.deeper (envOfC qual scope s.heap.objs.size f cdv)) → sp vs H Q E →
      ∃ t, PSs (cxH CX P w K mg base N qual scope f cdv A outer s H E p) body t ∧ t { nx := fun _ H' => Q .non H', rt := Q } (L2.start N vs) H) : FnH P w K mg base CX (k + 1) f fd ps sp := by
  obtain ⟨oc, od, dV, kV, doc, pm, an, cdv, ct, osl, rfl, lk, hcd, _, _⟩ := F.ex
  exact fn_ofH lk hcd S len fun A outer s H vs Q E p hot hr hsp => hbody cdv A outer s H vs Q E p hot hr hsp
end L2H

/-! enumerate over a tuple -/
namespace K27
open PySem PySem.Spec PyProof.Rows
open AutoSeq1 (wpAny_loadPart')
theorem enum_new_tuple (l : Addr) (items : Array Value) (n : Nat) (dct : Option Addr) (sl : Array (Option Value)) :
    Meets (Builtin.«enumerate.__new__» ⟨[.type "enumerate", .ref l], []⟩) (fun _ R s => s.heap.get? l = some { cls := .type "tuple", dict := dct, data := .seq items n, slots := sl } ∧
      R (.ok (.ret (.ref (s.heap.push { cls := .type "tuple_iterator", data := .fields #[.ref l, .int 0 0] }).objs.size)))
        { s with heap := (s.heap.push { cls := .type "tuple_iterator", data := .fields #[.ref l, .int 0 0] }).push { cls := .type "enumerate", data := .fields #[.none, .bool false, .ref s.heap.objs.size, rawInt 0, .none, .none] } }) :=
  .of_wp fun prog w A R s h => by
    obtain ⟨hp, g, d, tk, os⟩ := s
    obtain ⟨hl, h⟩ := h
    have subE := sub_enumerate
    have isT : Heap.IsTuple (Shared.heap ⟨hp, g, d, tk, os⟩) l items := ⟨_, hl, rfl, n, rfl⟩
    wp_walk using wpAny_loadPart' hl
    refine wpAny_stack_any fun st => wpAny_pure ?_
    split
    · rename_i c _ _ _ _ _
      cases (c == Value.type "enumerate")
      · wp_walk using wpAny_loadPart' hl, wpAny_pyIter_tuple isT
        exact ⟨_, rfl, h⟩
      · wp_walk using wpAny_loadPart' hl, wpAny_pyIter_tuple isT
        exact ⟨_, rfl, h⟩
    · wp_walk using wpAny_loadPart' hl, wpAny_pyIter_tuple isT
      exact ⟨_, rfl, h⟩
section
variable {prog : Program} {w : World} {A : Around} {E : Value → Shared → Prop} {s : Shared}
theorem call_enum_tuple {l : Addr} {items : Array Value} {Q : Value → Shared → Prop} (hL : IsTup s.heap l items)
    (h : ∀ h', IsEnum h' (s.heap.objs.size + 1) s.heap.objs.size 0 .none → h'.IsTupleIter s.heap.objs.size l 0 → h'.objs.size = s.heap.objs.size + 2 →
      (∀ b o, s.heap.get? b = some o → h'.get? b = some o) → Q (.ref (s.heap.objs.size + 1)) { s with heap := h' }) :
    wpAny (model prog w) A (call (.type "enumerate") [.ref l]) Q E s := by
  obtain ⟨⟨c, dct, dt, sl⟩, hl, hc, n, hd⟩ := hL
  replace hc : c = .type "tuple" := hc
  replace hd : dt = .seq items n := hd
  subst hc hd
  refine callType_new F.called_enumerate (by decide) (F.typeCall_enumerate_1 _) (F.newCall_enumerate_1 _) (fun obj => F.args_object_init_2 obj _) F.entry_enumerate_new (enum_new_tuple l items n dct sl) ⟨hl, ?_⟩
  have hz : (s.heap.push { cls := .type "tuple_iterator", data := .fields #[.ref l, .int 0 0] }).objs.size = s.heap.objs.size + 1 := Heap.size_push ..
  show _ ∧ _
  rw [hz]
  have he : IsEnum ((s.heap.push { cls := .type "tuple_iterator", data := .fields #[.ref l, .int 0 0] }).push
      { cls := .type "enumerate", data := .fields #[.none, .bool false, .ref s.heap.objs.size, rawInt 0, .none, .none] }) (s.heap.objs.size + 1) s.heap.objs.size 0 .none := by
    have e0 := Heap.get?_push_size (s.heap.push { cls := .type "tuple_iterator", data := .fields #[.ref l, .int 0 0] })
      (o := { cls := .type "enumerate", data := .fields #[.none, .bool false, .ref s.heap.objs.size, rawInt 0, .none, .none] }) rfl
    rw [hz] at e0
    exact e0
  exact ⟨⟨_, he, rfl⟩, h _ he ⟨_, Heap.get?_push_of_some _ (Heap.get?_push_size _ rfl), rfl, rfl⟩ (by rw [Heap.size_push, hz]) fun b o x => Heap.get?_push_of_some _ (Heap.get?_push_of_some _ x)⟩
end
open L2
/-- the tuple at a, its items in new pairs with their numbers -/
def IteT (K : PySem.W.Frag) (a : Addr) : It :=
  ⟨fun i H => ∃ (xs : List V) (x : V), SqT K H a xs ∧ xs[i]? = some x, fun i H v H' => ∃ T x, v = .ref T ∧ H T = none ∧ H' = upd H T (.tup [.int (i : Nat), x]) ∧ ∀ xs, SqT K H a xs → xs[i]? = some x, fun i H => ∃ xs : List V, SqT K H a xs ∧ xs.length = i⟩
theorem turn_enumT {P : Program} {w : World} {K : PySem.W.Frag} {elts : List Expr} {kk : Nat} {tpos : Pos} (a e it : Addr) :
    Turn P w K (.Tuple elts kk tpos) (IteT K a) [e, it] e (fun i h => (∃ old, IsEnum h e it ((i : Nat) : Int) old) ∧ h.IsTupleIter it a i ∧ e ≠ it) where
  mem := by simp
  obj := fun i h st b hb => by
    obtain ⟨⟨old, he⟩, ⟨o, ho, hc, hd⟩, _⟩ := st
    have e' : b = e ∨ b = it := by simpa using hb
    rcases e' with z | z
    · rw [z]; exact ⟨_, he, fun v q => nomatch q⟩
    · rw [z]; exact ⟨o, ho, fun v q => by rw [hd] at q; cases q⟩
  keep := fun i h h' st k => let ⟨⟨old, he⟩, hi, hne⟩ := st; ⟨⟨old, k e (by simp) _ he⟩, hi.at fun o q => k it (by simp) o q, hne⟩
  item := by
    intro X hP hw hK hc i pins s σ H E I hf st hg
    subst hP hw hK
    obtain ⟨⟨old, he⟩, hit, hne⟩ := st
    obtain ⟨xs, x, hq, hx⟩ := hg
    obtain ⟨its, rv, p, hz⟩ := I.tuple hq
    obtain ⟨u, hu, ru⟩ := rv.get hx
    have hel : e < s.heap.objs.size := Heap.lt_size he
    have hil : it < s.heap.objs.size := by obtain ⟨_, q, _⟩ := hit; exact Heap.lt_size q
    have nae : e ≠ a := fun z => by
      obtain ⟨o, ho, hcl, _⟩ := p
      rw [← z, he] at ho
      have z2 := Option.some.inj ho
      subst z2
      exact absurd (Value.type.inj hcl) (by decide)
    have nai : a ≠ it := fun z => by
      obtain ⟨o, ho, hcl, _⟩ := p
      obtain ⟨o2, ho2, hc2, _⟩ := hit
      rw [z, ho2] at ho
      have z2 := Option.some.inj ho
      subst z2
      rw [hcl] at hc2
      exact absurd (Value.type.inj hc2) (by decide)
    have hi : i < its.toArray.size := by
      have z := (List.getElem?_eq_some_iff.mp hu).1
      simpa using z
    refine wpAny_pyNext_enum_itemD (Draws.tuple (A := X.A.in1) (I.ok.hd hc) it a nai its.toArray) he ⟨hit, show s.heap.IsTuple a its.toArray from p⟩ hi hne (by simp only [List.mem_cons, List.not_mem_nil, or_false, not_or]; exact ⟨hne, nae⟩) fun y h' tk hP ho hst' hT hsz hk => ?_
    have ey : y = u := by
      have z : its.toArray[i]? = some u := by simpa using hu
      exact Option.some.inj (hP.symm.trans z)
    subst ey
    refine ⟨_, rfl, wpAny_letOwnedTupleGo_enum (s := { s with heap := h', toks := tk + 1 }) ho fun h'' he' sb => ?_⟩
    have hT2 : h''.get? s.heap.objs.size = some { cls := .type "tuple", data := .seq #[.int i tk, y] } := (sb.2 _ (Nat.ne_of_gt hel)).trans hT
    have new : ObjOk X.prog X.w (upd H s.heap.objs.size (.tup [.int (i : Nat), x])) h'' s.heap.objs.size (.tup [.int (i : Nat), x]) :=
      ⟨by show 2 ≤ sizeLine; decide, [.int i tk, y], .cons ⟨_, rfl⟩ (.cons ru .nil), ⟨_, hT2, rfl, _, rfl⟩⟩
    have I1 : Inv X pins σ (upd H s.heap.objs.size (.tup [.int (i : Nat), x])) { s with heap := h'', toks := tk + 1 } :=
      I.turnedNew (ch := [e, it]) (fun b ob hb q => (sb.2 b (fun z => hb (by simp [z]))).trans (hk b ob (fun z => hb (by simp [z])) (fun z => hb (by simp [z])) q)) hf (Nat.le_refl _) new
    refine ⟨.ref s.heap.objs.size, _, I1, rfl, ⟨_, x, rfl, I.hok.fresh (Nat.le_refl _), rfl, fun ys hy => by rw [I.tuple_inj hy hq]; exact hx⟩, ⟨⟨y, ?_⟩, hst'.1.at fun o q => (sb.2 it (Ne.symm hne)).trans q, hne⟩, fun b hb => ?_⟩
    · have e1 : ((i + 1 : Nat) : Int) = (i : Int) + 1 := by omega
      rw [e1]; exact he'
    · have hb' : b < s.heap.objs.size := by
        have e' : b = e ∨ b = it := by simpa using hb
        rcases e' with z | z
        · rw [z]; exact hel
        · rw [z]; exact hil
      rw [upd_ne (Nat.ne_of_lt hb')]
      exact (hf b hb).1
  done := by
    intro X hP hw hK hc i pins s σ H E I hf st hg
    subst hP hw hK
    obtain ⟨⟨old, he⟩, hit, hne⟩ := st
    obtain ⟨xs, hq, hx⟩ := hg
    obtain ⟨its, rv, p, hz⟩ := I.tuple hq
    obtain ⟨f0, f1, f2, f3, f4, f5⟩ := hf it (by simp)
    have nai : a ≠ it := fun z => by
      obtain ⟨o, ho, hcl, _⟩ := p
      obtain ⟨o2, ho2, hc2, _⟩ := hit
      rw [z, ho2] at ho
      have z2 := Option.some.inj ho
      subst z2
      rw [hcl] at hc2
      exact absurd (Value.type.inj hc2) (by decide)
    have hn : its.toArray.size = i := by
      have hl := rv.length
      simp only [List.size_toArray]
      omega
    have D := Draws.tuple (prog := X.prog) (w := X.w) (A := X.A.in1) (I.ok.hd hc) it a nai its.toArray
    rw [hn] at D
    exact wpAny_pyNext_enum_endD D he ⟨hit, show s.heap.IsTuple a its.toArray from p⟩ fun h' eb => ⟨rfl, I.turned (t' := s.toks) (fun b o hb q => eb b o hb q) f0 f1 f3 f4 f5⟩
  self := fun A i s Q E st h => let ⟨⟨_, he⟩, _⟩ := st; wpAny_pyIter_enum he h
def iEnumT (K : PySem.W.Frag) (ta : TA) : TI := fun σ H R => ta σ H fun vs H1 => ∃ a xs, vs = [.ref a] ∧ SqT K H1 a xs ∧ R (IteT K a) H1
theorem pi_enumT {X : Cx} {e : Expr} {ta : TA} {p pos tpos : Pos} {elts : List Expr} {kk : Nat} (hg : Gl X "enumerate") (hm : X.mg "enumerate" = none) (ha : PA X [e] ta) (hs : starEach [e] X.env = [(false, eval e X.env)]) :
    PI X (.Tuple elts kk tpos) (.Call (.Name "enumerate" p) [e] [] pos) (iEnumT X.K ta) := by
  refine ⟨fun pins s σ H R I h => ?_⟩
  refine Call_ (ld_blt I hg hm boot_enumerate (PyProof.Rows.callWith_type1 (thn (ha.run pos pins s σ H _ I h) fun us s1 ⟨vs, H1, I1, r1, q1⟩ => ?_) hs rfl))
  obtain ⟨a, xs, rfl, hq, q⟩ := q1
  obtain ⟨u, rfl, rx⟩ := vals1 r1
  cases (show u = Value.ref a from rx)
  obtain ⟨its, rv, tp, hz⟩ := I1.tuple hq
  refine call_enum_tuple tp fun h' he hit hsz hk => wpAny_pyIter_enum he ?_
  have I2 : Inv X pins σ H1 { s1 with heap := h' } := I1.kept (t' := s1.toks) hk
  refine ⟨s1.heap.objs.size + 1, [s1.heap.objs.size + 1, s1.heap.objs.size], _, _, H1, rfl, I2, turn_enumT a (s1.heap.objs.size + 1) s1.heap.objs.size, ⟨⟨.none, he⟩, hit, Nat.succ_ne_self _⟩, fun b hb => ?_, q⟩
  have hle : s1.heap.objs.size ≤ b := by
    have e' : b = s1.heap.objs.size + 1 ∨ b = s1.heap.objs.size := by simpa using hb
    rcases e' with z | z
    · rw [z]
      exact Nat.le_succ _
    · rw [z]
      exact Nat.le_refl _
  exact I1.fpOk hle (I1.hok.fresh hle)
theorem walk_enumT {K : PySem.W.Frag} {a : Addr} {xs : List V} : Walk (IteT K a) xs.length (fun H => SqT K H a xs) (YPair (fun i => some (.int (i : Nat))) (fun i => xs[i]?)) := by
  refine ⟨fun i _ hi q => ⟨xs, xs[i], q, by simp [hi]⟩, fun _ q => ⟨xs, q, rfl⟩, fun i H v H' _ q y => ?_⟩
  obtain ⟨T, x, h1, h2, h3, h4⟩ := y
  exact ⟨T, .int (i : Nat), x, h1, h2, h3, rfl, h4 xs q⟩
/-- one walk or the other -/
theorem pi_or {X : Cx} {tg it : Expr} {w1 w2 : TI} (h1 : PI X tg it w1) (h2 : PI X tg it w2) : PI X tg it (fun σ H R => w1 σ H R ∨ w2 σ H R) :=
  ⟨fun pins s σ H R I h => h.elim (h1.run pins s σ H R I) (h2.run pins s σ H R I)⟩
end K27

/-! the questions: is it a whole number, a kind, a sequence -/
namespace K27
open PySem PySem.Spec PyProof.Rows L2
/-- any thing that the law draws: its type's name -/
inductive Odd (H : Hp) : V → String → Prop where
  | int (i : Int) : Odd H (.int i) "int"
  | bl (b : Bool) : Odd H (.bl b) "bool"
  | non : Odd H .non "NoneType"
  | str (x : Str) (hx : x.length ≤ 1000) (hs : (PyData.str x).canLay0 = true) : Odd H (.str x) "str"
  | tup {a : Addr} {xs : List V} (h : H a = some (.tup xs)) : Odd H (.ref a) "tuple"
  | lst {a : Addr} {xs : List V} (h : H a = some (.lst xs)) : Odd H (.ref a) "list"
  | dic {a : Addr} {kvs : List (Key × V)} (h : H a = some (.dK kvs)) : Odd H (.ref a) "dict"
theorem Odd.ty {K : PySem.W.Frag} {H : Hp} {v : V} {t : String} (o : Odd H v t) : TyX K H v (.type t) := by
  cases o with
  | int i => exact .base (.int i)
  | bl b => exact .base (.bl b)
  | non => exact .base .non
  | str x _ _ => exact .base (.str x)
  | tup h => exact .base (.tup h)
  | lst h => exact .base (.lst h)
  | dic h => exact .base (.dK h)
section
variable {P : Program} {w : World} {K : PySem.W.Frag} {mg : Str → Option Value} {base : Heap}
def seqT (t : String) : Bool := t == "list" || t == "tuple"
def spSeq : Sp := fun vs H Q _ => ∃ (v : V) (t : String), vs = [v] ∧ Odd H v t ∧ ∀ p, H p = none → Q (.bl (seqT t)) (upd H p (.tup [.ty "list", .ty "tuple"]))
theorem kit_seq {K : PySem.W.Frag} {t : String} {b1 b2 r : Bool} (h1 : kitB t "list" = some b1) (h2 : kitB t "tuple" = some b2) (e : (b1 || b2) = r) : PySem.W.kitAny K (.type t) [.type "list", .type "tuple"] = some r := by
  subst e
  refine kitAny_cons (kit_ty h1) (fun e1 => ?_) (fun e1 => by rw [e1]; rfl)
  subst e1
  refine kitAny_cons (kit_ty h2) (fun e2 => ?_) (fun e2 => by rw [e2]; rfl)
  subst e2
  exact kitAny_nil
theorem scSeq : FnScope ["thing"] ["thing"] (defScope sPIsSequence) := ⟨rfl, rfl, rfl, by decide +kernel, rfl, by decide +kernel, by decide +kernel⟩
theorem Odd.same {H H' : Hp} {v : V} {t : String} (o : Odd H v t) (s : Same H H') : Odd H' v t := by
  cases o with
  | int i => exact .int i
  | bl b => exact .bl b
  | non => exact .non
  | str x hx hs => exact .str x hx hs
  | tup h => exact .tup (s _ _ h)
  | lst h => exact .lst (s _ _ h)
  | dic h => exact .dic (s _ _ h)
theorem ok_seq {f : Addr} {fd : FuncData} (F : FnP K "is_sequence" sPIsSequence f fd) (zl : mg "list" = none) (zt : mg "tuple" = none) (zs : mg "isinstance" = none) : FnOk P w K mg base CX0 1 f fd ["thing"] spSeq := by
  refine F.ok scSeq (fun vs H Q E h => ?_) (fun cdv A outer s H vs Q E hr h => ?_)
  · obtain ⟨v, t, rfl, _⟩ := h
    rfl
  · obtain ⟨v, t, rfl, o, q⟩ := h
    refine ⟨_, PSs.nox (pss_one (ps_ret (pe_callB call_isiT (by rfl) zs (by decide +kernel) (pa_cons (pv 0) (pa_cons (pe_tup (pa_cons (pe_bltn (by rfl) zl (by decide +kernel) (v := .ty "list") rfl) (pa_cons (pe_bltn (by rfl) zt (by decide +kernel) (v := .ty "tuple") rfl) pa_nil))) pa_nil))))), ?_⟩
    refine ⟨_, rfl, (by show 2 ≤ sizeLine; decide), fun p np => ⟨_, p, _, _, [.type "list", .type "tuple"], seqT t, rfl, upd_same, .cons (.ty _) (.cons (.ty _) .nil), (o.same (same_upd np)).ty, ?_, q p np⟩⟩
    cases o with
    | tup _ => exact kit_seq (b1 := false) (b2 := true) (by decide +kernel) (by decide +kernel) (by decide +kernel)
    | lst _ => exact kit_seq (b1 := true) (b2 := false) (by decide +kernel) (by decide +kernel) (by decide +kernel)
    | _ => exact kit_seq (b1 := false) (b2 := false) (by decide +kernel) (by decide +kernel) (by decide +kernel)
end
end K27

/-! a list or a tuple, walked; the model of patterns, lives, pairs -/
namespace K27
open PySem PySem.Spec PyProof.Rows L2
theorem not_t {b : Bool} (h : (!b) = true) : b = false := by
  cases b with
  | false => rfl
  | true => cases h
theorem not_f {b : Bool} (h : ¬ (!b) = true) : b = true := by
  cases b with
  | true => rfl
  | false => exact absurd rfl h
/-- at a stands a list or a tuple of xs -/
def Sq (H : Hp) (a : Addr) (xs : List V) : Prop := H a = some (.lst xs) ∨ H a = some (.tup xs)
def Kp (a : Addr) (H H' : Hp) : Prop := ∀ o, H a = some o → H' a = some o
theorem Same.kp {H H' : Hp} {a : Addr} (s : Same H H') : Kp a H H' := fun o e => s a o e
theorem Sq.kp {H H' : Hp} {a : Addr} {xs : List V} (h : Sq H a xs) (k : Kp a H H') : Sq H' a xs := h.elim (fun h => .inl (k _ h)) fun h => .inr (k _ h)
theorem Sq.same {H H' : Hp} {a : Addr} {xs : List V} (h : Sq H a xs) (s : Same H H') : Sq H' a xs := h.kp (Same.kp s)
theorem Sq.or {K : PySem.W.Frag} {H : Hp} {a : Addr} {xs : List V} (h : Sq H a xs) : SqL K H a xs ∨ SqT K H a xs := h.elim (fun h => .inl (SqL.of h)) fun h => .inr (SqT.of h)
theorem Sq.odd {H : Hp} {a : Addr} {xs : List V} (h : Sq H a xs) : ∃ t, Odd H (.ref a) t ∧ seqT t = true := h.elim (fun h => ⟨_, .lst h, by decide⟩) fun h => ⟨_, .tup h, by decide⟩
theorem enum_any {K : PySem.W.Frag} {σ : L2.St} {H : Hp} {R : It → Hp → Prop} {te : TE} {a : Addr} {xs : List V} (he : ∀ Q : VK, Q (.ref a) H → te σ H Q) (hS : Sq H a xs)
    (key : ∀ (it : It) (G : Hp → Prop), Walk it xs.length G (YPair (fun i => some (.int (i : Nat))) (fun i => xs[i]?)) → (∀ H', Kp a H H' → G H') → R it H) :
    iEnum K (tCons te tNil) σ H R ∨ iEnumT K (tCons te tNil) σ H R := by
  rcases hS with h | h
  · exact .inl (he _ ⟨a, xs, rfl, SqL.of h, key _ _ walk_enum fun H' k => SqL.of (k _ h)⟩)
  · exact .inr (he _ ⟨a, xs, rfl, SqT.of h, key _ _ walk_enumT fun H' k => SqT.of (k _ h)⟩)
theorem seq_any {K : PySem.W.Frag} {σ : L2.St} {H : Hp} {R : It → Hp → Prop} {te : TE} {a : Addr} {xs : List V} (he : ∀ Q : VK, Q (.ref a) H → te σ H Q) (hS : Sq H a xs)
    (key : ∀ (it : It) (G : Hp → Prop), Walk it xs.length G (YAt xs) → (∀ H', Kp a H H' → G H') → R it H) :
    iList K te σ H R ∨ iTup K te σ H R := by
  rcases hS with h | h
  · exact .inl (he _ ⟨a, rfl, ⟨_, SqL.of h⟩, key _ _ walk_list fun H' k => SqL.of (k _ h)⟩)
  · exact .inr (he _ ⟨a, rfl, ⟨_, SqT.of h⟩, key _ _ walk_tup fun H' k => SqT.of (k _ h)⟩)
theorem none_of {H H' : Hp} {y : Addr} (s : Same H H') (h : H' y = none) : H y = none := by
  cases e : H y with
  | none => rfl
  | some o =>
    have z := s _ _ e
    rw [h] at z
    cases z
def rTupS : List V → Hp → VK → Prop := fun vs H Q => ∃ (a : Addr) (xs : List V), vs = [.ref a] ∧ Sq H a xs ∧ ∀ (H2 : Hp) (t : Addr), Same H H2 → H2 t = some (.tup xs) → Q (.ref t) H2
theorem call_tupS {X : Cx} : CallR X (.type "tuple") rTupS := fun pins s σ H vs us Q I r h => by
  obtain ⟨a, xs, rfl, hS, k⟩ := h
  refine call_tuple_of pins s σ H _ us Q I r ⟨a, xs, rfl, ?_⟩
  exact hS.elim (fun h => .inl ⟨SqL.of h, fun l nl => k _ l (same_upd nl) upd_same⟩) fun h => .inr ⟨SqT.of h, k H a (Same.refl _) h⟩
/-! ### entries -/
def stepE (c : Nat) (v : V) : Option Nat := match v with
  | .non => some c
  | .int i => if i < 0 then none else if (c : Int) < i then none else if i = c then some (c + 1) else some c
  | _ => none
def cnt : Nat → List V → Option Nat
  | c, [] => some c
  | c, v :: vs => match stepE c v with
    | some c' => cnt c' vs
    | none => none
/-- flat values -/
inductive Fl : V → Prop where
  | non : Fl .non
  | bl (b : Bool) : Fl (.bl b)
  | int (i : Int) : Fl (.int i)
  | str (x : Str) (hx : x.length ≤ 1000) (hs : (PyData.str x).canLay0 = true) : Fl (.str x)
def tyF : V → String
  | .non => "NoneType"
  | .bl _ => "bool"
  | .int _ => "int"
  | _ => "str"
theorem Fl.odd {H : Hp} {v : V} (f : Fl v) : Odd H v (tyF v) := by
  cases f with
  | non => exact .non
  | bl b => exact .bl b
  | int i => exact .int i
  | str x h1 h2 => exact .str x h1 h2
theorem Fl.flat {v : V} (f : Fl v) : flatV v = true := by cases f <;> rfl
/-- what is handed as entries -/
inductive Nm (H : Hp) : V → List V → Option Nat → Prop where
  | seq {a : Addr} {xs : List V} (h : Sq H a xs) (hl : xs.length ≤ 40) (fl : ∀ x ∈ xs, Fl x) : Nm H (.ref a) xs (cnt 0 xs)
  | bad {v : V} {t : String} (o : Odd H v t) (ns : seqT t = false) : Nm H v [] none
theorem Nm.same {H H' : Hp} {v : V} {xs : List V} {o : Option Nat} (n : Nm H v xs o) (s : Same H H') : Nm H' v xs o := by
  cases n with
  | seq h hl fl => exact .seq (h.same s) hl fl
  | bad o ns => exact .bad (o.same s) ns
theorem cnt_cons (c : Nat) (v : V) (vs : List V) : cnt c (v :: vs) = (match stepE c v with | some c' => cnt c' vs | none => none) := rfl
theorem stepE_le {c c' : Nat} {v : V} (h : stepE c v = some c') : c ≤ c' := by
  unfold stepE at h
  split at h
  · injection h with h; omega
  · split at h
    · cases h
    · split at h
      · cases h
      · split at h <;> injection h with h <;> omega
  · cases h
theorem cnt_le : ∀ {vs : List V} {c c' : Nat}, cnt c vs = some c' → c ≤ c'
  | [], c, c', h => by
    injection h with h
    omega
  | v :: vs, c, c', h => by
    rw [cnt_cons] at h
    cases e : stepE c v with
    | none => rw [e] at h; cases h
    | some d =>
      rw [e] at h
      exact Nat.le_trans (stepE_le e) (cnt_le h)
/-- the whole numbers among the entries -/
def intsOf : List V → List Int
  | [] => []
  | .int i :: vs => i :: intsOf vs
  | _ :: vs => intsOf vs
theorem cnt_ints : ∀ {vs : List V} {c c' : Nat}, cnt c vs = some c' → (∀ y ∈ intsOf vs, y < c') ∧ (c < c' → ((c' : Int) - 1) ∈ intsOf vs)
  | [], c, c', h => by
    injection h with h
    exact ⟨fun y hy => (by cases hy), fun z => by omega⟩
  | v :: vs, c, c', h => by
    rw [cnt_cons] at h
    cases e : stepE c v with
    | none => rw [e] at h; cases h
    | some d =>
      rw [e] at h
      obtain ⟨h1, h2⟩ := cnt_ints h
      have hd := cnt_le h
      cases v with
      | int i =>
        have e' : (if i < 0 then none else if (c : Int) < i then none else if i = c then some (c + 1) else some c) = some d := e
        show (∀ y ∈ i :: intsOf vs, y < (c' : Int)) ∧ (c < c' → ((c' : Int) - 1) ∈ i :: intsOf vs)
        by_cases n0 : i < 0
        · rw [if_pos n0] at e'; cases e'
        rw [if_neg n0] at e'
        by_cases n1 : (c : Int) < i
        · rw [if_pos n1] at e'; cases e'
        rw [if_neg n1] at e'
        by_cases n2 : i = c
        · rw [if_pos n2] at e'
          injection e' with e'
          refine ⟨fun y hy => ?_, fun z => ?_⟩
          · rcases List.mem_cons.mp hy with rfl | hy
            · omega
            · exact h1 y hy
          · by_cases n3 : d < c'
            · exact List.mem_cons_of_mem _ (h2 n3)
            · have : (c' : Int) - 1 = i := by omega
              rw [this]
              exact List.mem_cons_self
        · rw [if_neg n2] at e'
          injection e' with e'
          refine ⟨fun y hy => ?_, fun z => List.mem_cons_of_mem _ (h2 (by omega))⟩
          rcases List.mem_cons.mp hy with rfl | hy
          · omega
          · exact h1 y hy
      | non =>
        have e' : some c = some d := e
        injection e' with e'
        subst e'
        exact ⟨h1, h2⟩
      | _ => cases e
theorem stepE_odd {c d : Nat} {v : V} (h : stepE c v = some d) : v = .non ∨ ∃ i, v = .int i := by
  cases v with
  | non => exact .inl rfl
  | int i => exact .inr ⟨i, rfl⟩
  | _ => cases h
end K27

/-! what is wrong with entries -/
namespace K27
open PySem PySem.Spec PyProof.Rows L2
structure Df (P : Program) (w : World) (K : PySem.W.Frag) (mg : Str → Option Value) (base : Heap) (x : Str) (k : Nat) (ps : List Str) (sp : Sp) (f : Addr) (fd : FuncData) : Prop where
  gl : mg x = some (.ref f)
  ok : FnOk P w K mg base CX0 k f fd ps sp
  bi : Binds K fd ps []
  kp : PySem.W.keepIn K (.ref f) = true
def spEF : Sp := fun vs H Q _ => ∃ (v : V) (xs : List V) (o : Option Nat), vs = [v] ∧ Nm H v xs o ∧
  (o = none → ∀ (H' : Hp) (t : Addr) (i : Int) (z : Str), Same H H' → H' t = some (.tup [.int i, .str z]) → Q (.ref t) H') ∧ (∀ c, o = some c → ∀ H', Same H H' → Q .non H')
section
variable {P : Program} {w : World} {K : PySem.W.Frag} {mg : Str → Option Value} {base : Heap}
theorem scEF : FnScope ["entries", "classes", "index", "entry"] ["entries"] (defScope sPEntriesFault) := ⟨rfl, rfl, rfl, by decide +kernel, rfl, by decide +kernel, by decide +kernel⟩
theorem drop_cons {xs : List V} {i : Nat} {v : V} (h : xs[i]? = some v) : xs.drop i = v :: xs.drop (i + 1) := by
  obtain ⟨hi, e⟩ := List.getElem?_eq_some_iff.mp h
  rw [List.drop_eq_getElem_cons hi, e]
theorem ok_ef {f fS : Addr} {fd fdS : FuncData} (F : FnP K "_entries_fault" sPEntriesFault f fd) (z_len : mg "len" = none) (z_enumerate : mg "enumerate" = none) (z_isinstance : mg "isinstance" = none) (z_int : mg "int" = none) (z_bool : mg "bool" = none)
    (g_MOST_PLACES : ∃ t, mg "MOST_PLACES" = some (.int 40 t)) (dS : Df P w K mg base "is_sequence" 1 ["thing"] spSeq fS fdS) : FnOk P w K mg base CX0 2 f fd ["entries"] spEF := by
  obtain ⟨tk, g_MOST_PLACES⟩ := g_MOST_PLACES
  refine F.ok scEF (fun vs H Q E h => ?_) (fun cdv A outer s H vs Q E hr1 h => ?_)
  · obtain ⟨v, xs, o, rfl, _⟩ := h
    rfl
  · obtain ⟨v, xs, o, rfl, nm, q0, q1⟩ := h
    refine ⟨_, PSs.nox (pss_cons (ps_if (PW.pt (pw_or (pt_not (pt_val (pe_call dS.ok hr1 (by rfl) dS.gl dS.kp dS.bi .nil pass0 (pa_cons (pv 0) pa_nil)))) (pw_or1 (pt_cmpR op_gt (pe_callB call_len_seq (by rfl) z_len boot_len (pa_cons (pv 0) pa_nil)) (pe_glob (by rfl) g_MOST_PLACES (v := .int 40) ⟨_, rfl⟩) (nomark _)))))
      (pss_one (ps_ret (pe_tup (pa_cons pe_int (pa_cons pe_str pa_nil)))))
      pss_nil)
    (pss_cons (ps_set (i := 1) scEF.nd rfl (.inl rfl) pe_int)
    (pss_cons (ps_for PassesOwn.never rfl (pi_or (pi_enum (by rfl) z_enumerate (pa_cons (pv 0) pa_nil)) (pi_enumT (by rfl) z_enumerate (pa_cons (pv 0) pa_nil) rfl)) (pg_tup (by rfl) (pgs_cons (pg_name (i := 2) scEF.nd rfl (.inl rfl)) (pgs_cons (pg_name (i := 3) scEF.nd rfl (.inl rfl)) pgs_nil)))
      (pss_cons (ps_if (pt_cmpR op_isN (pv 3) pe_non (nomark _))
        (pss_one ps_continue)
        pss_nil)
      (pss_cons (ps_if (PW.pt (pw_or (pt_not (pt_val (pe_callB call_isi (by rfl) z_isinstance (by decide +kernel) (pa_cons (pv 3) (pa_cons (pe_bltn (by rfl) z_int (by decide +kernel) (v := .ty "int") rfl) pa_nil))))) (pw_or (pt_val (pe_callB call_isi (by rfl) z_isinstance (by decide +kernel) (pa_cons (pv 3) (pa_cons (pe_bltn (by rfl) z_bool (by decide +kernel) (v := .ty "bool") rfl) pa_nil)))) (pw_or1 (pt_cmpR op_lt (pv 3) pe_int (nomark _))))))
        (pss_one (ps_ret (pe_tup (pa_cons (pv 2) (pa_cons pe_str pa_nil)))))
        pss_nil)
      (pss_cons (ps_if (pt_cmpR op_gt (pv 3) (pv 1) (nomark _))
        (pss_one (ps_ret (pe_tup (pa_cons (pv 2) (pa_cons pe_str pa_nil)))))
        pss_nil)
      (pss_one (ps_if (pt_cmpR op_eq (pv 3) (pv 1) (nomark _))
        (pss_one (ps_aug (i := 1) scEF.nd rfl (.inl rfl) pe_int ip_add))
        pss_nil))))))
    (pss_one (ps_ret pe_non))))), ?_⟩
    cases nm with
    | bad o ns =>
      refine ⟨_, rfl, _, _, rfl, o, fun u nu => ?_⟩
      rw [ns]
      exact ⟨_, rfl, iteT ⟨(by show 2 ≤ sizeLine; decide), fun z nz => q0 rfl _ z _ _ ((same_upd nu).trans (same_upd nz)) upd_same⟩⟩
    | @seq a xs h hl fl =>
      obtain ⟨t, o, hs⟩ := h.odd
      refine ⟨_, rfl, _, _, rfl, o, fun u nu => ?_⟩
      rw [hs]
      refine ⟨_, rfl, iteF ?_⟩
      have su := same_upd (o := .tup [.ty "list", .ty "tuple"]) nu
      have h1 := h.same su
      generalize upd H u (.tup [.ty "list", .ty "tuple"]) = H0 at su h1 ⊢
      refine ⟨_, rfl, _, _, rfl, h1.or, _, _, rfl, rfl, _, rfl, ite2 (fun z => absurd (of_decide_eq_true z) (by omega)) (fun _ => ?_)⟩
      refine enum_any (fun Q q => ⟨_, rfl, q⟩) h1 fun it G wk keep => for_it wk (fun i σ H' => ∃ (c : Nat) (x2 x3 : Option V), σ = [some (.ref a), some (.int (c : Int)), x2, x3] ∧ cnt c (xs.drop i) = cnt 0 xs ∧ Same H0 H')
        ⟨0, none, none, rfl, by rw [List.drop_zero], Same.refl _⟩ (fun i σ H' _ ⟨_, _, _, _, _, s⟩ => keep _ (Same.kp s)) ?_ ?_
      · rintro i x σ H1 H2 hi ⟨c, x2, x3, rfl, hc, sm⟩ ⟨T, u', v, rfl, nT, rfl, eu, ev⟩
        obtain rfl : u' = .int (i : Int) := (Option.some.inj eu).symm
        have fv := fl v (List.mem_of_getElem? ev)
        rw [drop_cons ev, cnt_cons] at hc
        have sT := sm.trans (same_upd (o := .tup [.int (i : Int), v]) nT)
        have sH := su.trans sT
        refine ⟨T, _, rfl, .inl (.inl upd_same), rfl, _, _, rfl, _, _, rfl, rfl, ?_⟩
        have ret : ∀ z : Str, cnt 0 xs = none → ∀ p, upd H1 T (.tup [.int (i : Int), v]) p = none → Q (.ref p) (upd (upd H1 T (.tup [.int (i : Int), v])) p (.tup [.int (i : Int), .str z])) := fun z e p np => q0 e _ p _ z (sH.trans (same_upd np)) upd_same
        cases fv with
        | non => exact ⟨_, rfl, rfl, _, rfl, iteT ⟨c, _, _, rfl, hc, sT⟩⟩
        | bl b =>
          refine ⟨_, rfl, rfl, _, rfl, iteF ?_⟩
          refine ⟨_, rfl, _, _, _, _, true, rfl, .ty _, .base (.bl b), kit_ty (by decide +kernel), _, rfl, iteF ⟨_, rfl, _, _, _, _, true, rfl, .ty _, .base (.bl b), kit_ty (by decide +kernel), _, rfl, iteT ?_⟩⟩
          exact ⟨_, rfl, (by show 2 ≤ sizeLine; decide), fun p np => ret _ hc.symm p np⟩
        | str z h1 h2 =>
          refine ⟨_, rfl, rfl, _, rfl, iteF ?_⟩
          refine ⟨_, rfl, _, _, _, _, false, rfl, .ty _, .base (.str z), kit_ty (by decide +kernel), _, rfl, iteT ?_⟩
          exact ⟨_, rfl, (by show 2 ≤ sizeLine; decide), fun p np => ret _ hc.symm p np⟩
        | int j =>
          refine ⟨_, rfl, rfl, _, rfl, iteF ?_⟩
          refine ⟨_, rfl, _, _, _, _, true, rfl, .ty _, .base (.int j), kit_ty (by decide +kernel), _, rfl, iteF ⟨_, rfl, _, _, _, _, false, rfl, .ty _, .base (.int j), kit_ty (by decide +kernel), _, rfl, iteF ?_⟩⟩
          have hc' : (match (if j < 0 then none else if (c : Int) < j then none else if j = c then some (c + 1) else some c : Option Nat) with | some c' => cnt c' (xs.drop (i + 1)) | none => none) = cnt 0 xs := hc
          refine ⟨_, rfl, _, _, rfl, rfl, _, rfl, ite2 (fun g => ?_) (fun g => ?_)⟩
          · rw [if_pos (of_decide_eq_true g)] at hc'
            exact ⟨_, rfl, (by show 2 ≤ sizeLine; decide), fun p np => ret _ hc'.symm p np⟩
          rw [if_neg (fun z => g (decide_eq_true z))] at hc'
          refine ⟨_, rfl, _, rfl, _, _, rfl, rfl, _, rfl, ite2 (fun g => ?_) (fun g => ?_)⟩
          · rw [if_pos (of_decide_eq_true g)] at hc'
            exact ⟨_, rfl, (by show 2 ≤ sizeLine; decide), fun p np => ret _ hc'.symm p np⟩
          rw [if_neg (fun z => g (decide_eq_true z))] at hc'
          refine ⟨_, rfl, _, rfl, rfl, _, rfl, ite2 (fun g => ?_) (fun g => ?_)⟩
          · have ej : j = (c : Int) := V.int.inj (of_decide_eq_true g)
            rw [if_pos ej] at hc'
            refine ⟨_, rfl, _, _, rfl, rfl, ⟨c + 1, _, _, rfl, hc', sT⟩⟩
          · rw [if_neg (fun z => g (decide_eq_true (by rw [z])))] at hc'
            exact ⟨c, _, _, rfl, hc', sT⟩
      · rintro σ H1 ⟨c, x2, x3, rfl, hc, sm⟩
        rw [List.drop_of_length_le (Nat.le_refl _)] at hc
        exact q1 c hc.symm H1 (su.trans sm)
end
end K27

/-! the errors' __init__ -/
namespace K27
open PySem PySem.Spec PyProof.Rows L2 L2H
abbrev sPatErr : Stmt := inClass (top 3) 0
abbrev sMtErr : Stmt := inClass (top 5) 0
abbrev NoF (K : PySem.W.Frag) (C : Addr) (f : Str) : Prop := PySem.W.findIn K (.ref C) f = some none
abbrev patF (i : Int) (x : Str) : List (Str × V) := [("what", .str x), ("index", .int i)]
abbrev stF (x : Str) : List (Str × V) := [("what", .str x)]
theorem keep_new {H : Hp} {a d : Addr} {o u : HO} (nd : H d = none) : ∀ b x, b ≠ a → H b = some x → (upd (upd H d u) a o) b = some x := fun b x n e => by
  rw [upd_ne n, upd_ne (ne_of_none e nd)]
  exact e
theorem keep_dict {H H1 : Hp} {a d : Addr} {o : HO} (nd : H d = none) (k : ∀ b x, b ≠ a → H b = some x → H1 b = some x) : ∀ b x, b ≠ a → H b = some x → (upd H1 d o) b = some x := fun b x n e => by
  rw [upd_ne (ne_of_none e nd)]
  exact k b x n e
def spPatErr (C : Addr) : Sp := fun vs H Q _ => ∃ (a : Addr) (i : Int) (x : Str), vs = [.ref a, .int i, .str x] ∧ H a = some (exo a C none) ∧
  ∀ (H' : Hp) (d : Addr), H d = none → H' a = some (exo a C (some d)) → H' d = some (exd d (patF i x)) → (∀ b o, b ≠ a → H b = some o → H' b = some o) → Q .non H'
def spMtErr (C : Addr) : Sp := fun vs H Q _ => ∃ (a : Addr) (x : Str), vs = [.ref a, .str x] ∧ H a = some (exo a C none) ∧
  ∀ (H' : Hp) (d : Addr), H d = none → H' a = some (exo a C (some d)) → H' d = some (exd d (stF x)) → (∀ b o, b ≠ a → H b = some o → H' b = some o) → Q .non H'
section
variable {P : Program} {w : World} {K : PySem.W.Frag} {mg : Str → Option Value} {base : Heap}
theorem ok_patErr {f C : Addr} {fd : FuncData} (F : FunD K "__init__" "BadPattern.__init__" (defArgs sPatErr) (defBody sPatErr) (defScope sPatErr) [] [] f fd) (T : OexC K C) (n0 : NoF K C "index") (n1 : NoF K C "what") :
    FnOk P w K mg base CX0 1 f fd ["self", "index", "what"] (spPatErr C) := by
  have sc : FnScope ["self", "index", "what"] ["self", "index", "what"] (defScope sPatErr) := ⟨rfl, rfl, rfl, by decide +kernel, rfl, by decide +kernel, by decide +kernel⟩
  refine F.ok sc (fun vs H Q E h => ?_) (fun cdv A outer s H vs Q E hr h => ?_)
  · obtain ⟨a, i, x, rfl, _⟩ := h
    rfl
  · obtain ⟨a, i, x, rfl, ea, q⟩ := h
    refine ⟨_, PSs.nox (pss_cons (ps_ost (pv 0) (pv 1)) (pss_one (ps_ost (pv 0) (pv 2)))), ?_⟩
    refine ⟨_, rfl, _, rfl, a, C, rfl, T, n0, .inl ⟨ea, fun d nd ne => ?_⟩⟩
    refine ⟨_, rfl, _, rfl, a, C, rfl, T, n1, .inr ⟨d, _, upd_same, Eq.trans (upd_ne ne) upd_same, (by show 1 ≤ 900; decide), ?_⟩⟩
    exact q _ d nd (Eq.trans (upd_ne (Ne.symm ne)) upd_same) upd_same (keep_dict nd (keep_new nd))
theorem ok_mtErr {f C : Addr} {fd : FuncData} (F : FunD K "__init__" "BadMatch.__init__" (defArgs sMtErr) (defBody sMtErr) (defScope sMtErr) [] [] f fd) (T : OexC K C) (n1 : NoF K C "what") :
    FnOk P w K mg base CX0 1 f fd ["self", "what"] (spMtErr C) := by
  have sc : FnScope ["self", "what"] ["self", "what"] (defScope sMtErr) := ⟨rfl, rfl, rfl, by decide +kernel, rfl, by decide +kernel, by decide +kernel⟩
  refine F.ok sc (fun vs H Q E h => ?_) (fun cdv A outer s H vs Q E hr h => ?_)
  · obtain ⟨a, x, rfl, _⟩ := h
    rfl
  · obtain ⟨a, x, rfl, ea, q⟩ := h
    refine ⟨_, PSs.nox (pss_one (ps_ost (pv 0) (pv 1))), ?_⟩
    refine ⟨_, rfl, _, rfl, a, C, rfl, T, n1, .inl ⟨ea, fun d nd ne => ?_⟩⟩
    exact q _ d nd upd_same (Eq.trans (upd_ne ne) upd_same) (keep_new nd)
theorem ok_mtErrH {f C : Addr} {fd : FuncData} (F : FunD K "__init__" "BadMatch.__init__" (defArgs sMtErr) (defBody sMtErr) (defScope sMtErr) [] [] f fd) (T : OexC K C) (n1 : NoF K C "what") :
    FnH P w K mg base CX0 1 f fd ["self", "what"] (spMtErr C) := by
  have sc : FnScope ["self", "what"] ["self", "what"] (defScope sMtErr) := ⟨rfl, rfl, rfl, by decide +kernel, rfl, by decide +kernel, by decide +kernel⟩
  refine okH F sc (fun vs H Q E h => ?_) (fun cdv A outer s H vs Q E p hot hr h => ?_)
  · obtain ⟨a, x, rfl, _⟩ := h
    rfl
  · obtain ⟨a, x, rfl, ea, q⟩ := h
    refine ⟨_, PSs.nox (pss_one (ps_ost (pv 0) (pv 1))), ?_⟩
    refine ⟨_, rfl, _, rfl, a, C, rfl, T, n1, .inl ⟨ea, fun d nd ne => ?_⟩⟩
    exact q _ d nd upd_same (Eq.trans (upd_ne ne) upd_same) (keep_new nd)
end
end K27

/-! a pattern is made, or refused -/
namespace K27
open PySem PySem.Spec PyProof.Rows L2
abbrev sPInit : Stmt := inClass (top 16) 0
theorem intsOf_app : ∀ (xs ys : List V), intsOf (xs ++ ys) = intsOf xs ++ intsOf ys
  | [], ys => rfl
  | v :: vs, ys => by
    have ih := intsOf_app vs ys
    cases v with
    | int i => exact congrArg (List.cons i) ih
    | _ => exact ih
theorem cnt_kinds : ∀ {vs : List V} {c c' : Nat}, cnt c vs = some c' → ∀ v ∈ vs, v = .non ∨ ∃ i : Int, v = .int i ∧ 0 ≤ i
  | [], c, c', h => fun v hv => by cases hv
  | v :: vs, c, c', h => by
    rw [cnt_cons] at h
    cases e : stepE c v with
    | none => rw [e] at h; cases h
    | some d =>
      rw [e] at h
      intro u hu
      rcases List.mem_cons.mp hu with rfl | hu
      · cases u with
        | non => exact .inl rfl
        | int i =>
          refine .inr ⟨i, rfl, ?_⟩
          have e' : (if i < 0 then none else if (c : Int) < i then none else if i = c then some (c + 1) else some c : Option Nat) = some d := e
          by_cases n0 : i < 0
          · rw [if_pos n0] at e'; cases e'
          · omega
        | _ => cases e
      · exact cnt_kinds h u hu
theorem len_intsOf : ∀ vs : List V, (intsOf vs).length ≤ vs.length
  | [] => Nat.le_refl _
  | v :: vs => by
    have ih := len_intsOf vs
    cases v with
    | int i => exact Nat.succ_le_succ ih
    | _ => exact Nat.le_succ_of_le ih
theorem mem_intsOf : ∀ {vs : List V} {i : Int}, i ∈ intsOf vs → V.int i ∈ vs
  | [], i, h => by cases h
  | v :: vs, i, h => by
    cases v with
    | int j =>
      rcases List.mem_cons.mp h with rfl | h
      · exact List.mem_cons_self
      · exact List.mem_cons_of_mem _ (mem_intsOf h)
    | _ => exact List.mem_cons_of_mem _ (mem_intsOf (show i ∈ intsOf vs from h))
theorem cnt_max {vs : List V} {c : Nat} (h : cnt 0 vs = some c) {m : Int} (hm : m ∈ intsOf vs) (hle : ∀ y ∈ intsOf vs, y ≤ m) : 1 + m = c := by
  obtain ⟨h1, h2⟩ := cnt_ints h
  have z1 := h1 m hm
  have z0 : 0 ≤ m := by
    rcases cnt_kinds h _ (mem_intsOf hm) with e | ⟨i, e, hi⟩
    · cases e
    · injection e with e
      omega
  have z2 := hle _ (h2 (by omega))
  omega
theorem cnt_none {vs : List V} {c : Nat} (h : cnt 0 vs = some c) (hn : intsOf vs = []) : c = 0 := by
  obtain ⟨h1, h2⟩ := cnt_ints h
  by_cases z : 0 < c
  · have y := h2 z
    rw [hn] at y
    cases y
  · omega
/-- the class of patterns -/
structure PatC (K : PySem.W.Frag) (CP : Addr) : Prop where
  cl : Cls K CP
  nE : NoAttr K CP "entries"
  nC : NoAttr K CP "_classes"
/-- BadPattern(..), BadState(..) -/
structure ErrC (P : Program) (w : World) (K : PySem.W.Frag) (mg : Str → Option Value) (base : Heap) (x : Str) (ps : List Str) (sp : Addr → Sp) (C fI : Addr) (fd : FuncData) : Prop where
  cl : OexC K C
  ini : PySem.W.findIn K (.ref C) "__init__" = some (some (.ref fI))
  ty : PySem.W.typeIn K (.ref fI) = some (.type "function")
  gl : mg x = some (.ref C)
  ok : FnOk P w K mg base CX0 1 fI fd ps (sp C)
  bi : Binds K fd ps []
abbrev patO (t : Addr) (c : Nat) : List (Str × V) := [("entries", .ref t), ("_classes", .int c)]
def spPat (CP CE : Addr) : Sp := fun vs H Q E => ∃ (x dx : Addr) (v : V) (xs : List V) (o : Option Nat), vs = [.ref x, v] ∧ H x = some (.ins CP dx []) ∧ Nm H v xs o ∧
  (∀ c, o = some c → ∀ (H' : Hp) (t : Addr), H' x = some (.ins CP dx (patO t c)) → H' t = some (.tup xs) → (∀ z u, H z = some u → z ≠ x → H' z = some u) → Q .non H') ∧
  (o = none → ∀ (H' : Hp) (d : Addr) (i : Int) (z : Str), H d = none → H' d = some (.xd (patF i z)) → Same H H' → E (.ref CE) (some d) H')
section
variable {P : Program} {w : World} {K : PySem.W.Frag} {mg : Str → Option Value} {base : Heap}
abbrev nmPI : List Str := ["self", "entries", "fault", "entry"]
theorem scPI : FnScope nmPI ["self", "entries"] (defScope sPInit) := ⟨rfl, rfl, rfl, by decide +kernel, rfl, by decide +kernel, by decide +kernel⟩
theorem ok_pat {f fE fX CP CE : Addr} {fd fdE fdX : FuncData} (F : FunD K "__init__" "Pattern.__init__" (defArgs sPInit) (defBody sPInit) (defScope sPInit) [] [] f fd) (T : PatC K CP) (z_tuple : mg "tuple" = none) (z_max : mg "max" = none)
    (dE : Df P w K mg base "_entries_fault" 2 ["entries"] spEF fE fdE) (X : ErrC P w K mg base "BadPattern" ["self", "index", "what"] spPatErr CE fX fdX) : FnOk P w K mg base (L2.CX P w) 3 f fd ["self", "entries"] (spPat CP CE) := by
  refine F.ok scPI (fun vs H Q E h => ?_) (fun cdv A outer s H vs Q E hr h => ?_)
  · obtain ⟨x, dx, v, xs, o, rfl, _⟩ := h
    rfl
  · obtain ⟨x, dx, v, xs, o, rfl, hx, nm, q1, q0⟩ := h
    have hu := hu_of hr
    refine ⟨_, pss_cons (ps_set (i := 2) scPI.nd rfl (.inl rfl) (pe_call dE.ok hr (by rfl) dE.gl dE.kp dE.bi .nil pass0 (pa_cons (pv 1) pa_nil)))
      (pss_cons (ps_if (pt_cmpR op_notN (pv 2) pe_non (nomark _))
          (pss_one (ps_raise rfl (takes_of rfl rfl rfl rfl) (pmk_oex X.cl X.ini X.ty X.ok hr X.bi .nil pass0 (by rfl) X.gl (pa_cons (pe_ix ix_tup (pv 2) pe_int (fun _ _ => rfl)) (pa_cons (pe_ix ix_tup (pv 2) pe_int (fun _ _ => rfl)) pa_nil))))) pss_nil)
      (PSs.nox (pss_cons (ps_fld (pv 0) (pe_callTy call_tupS (by rfl) z_tuple (by decide +kernel) (pa_cons (pv 1) pa_nil)) rfl)
      (pss_one (ps_fld (pv 0) (pe_op op_add pe_int (pe_callBK (crk_max rfl (Nat.lt_of_le_of_lt (Nat.add_le_add_left (by decide : 3 ≤ 64) _) hr.units)) (by rfl) z_max (by decide +kernel)
        (pa_cons (pe_lc (own := [("entry", 3)]) (g := gName 3) rfl scPI.nd (pi_or (pi_list (pv 1)) (pi_tup (pv 1))) (blkOk_by (N := nmPI) (sc := defScope sPInit) (by decide +kernel))
          (fun _ _ _ _ _ => pg_name (i := 3) scPI.nd rfl (Or.inl rfl)) (fun _ _ _ _ _ => pts_one (pt_cmpR op_notN (pv 3) pe_non (nomark _))) (fun _ _ _ _ _ => pv 3)) pa_nil) (pk_cons (pe_un un_neg pe_int) pk_nil))) rfl))))), ?_⟩
    refine ⟨_, rfl, v, xs, o, rfl, nm, fun eo H1 t i z s1 ht => ?_, fun c eo H1 s1 => ?_⟩
    · refine ⟨_, rfl, rfl, _, rfl, iteT ?_⟩
      refine ⟨_, rfl, _, _, _, _, rfl, rfl, SqT.of ht, rfl, _, rfl, _, _, _, _, rfl, rfl, SqT.of ht, rfl, (by show 2 ≤ 1000; decide), fun av nav => ⟨av, i, z, rfl, upd_same, fun H3 dd nd3 ha3 hd3 kp => ⟨rfl, dd, _, ha3, hd3, ?_, ?_⟩⟩⟩
      · exact none_of (same_upd nav) nd3
      · refine q0 eo _ dd i z (none_of s1 (none_of (same_upd nav) nd3)) upd_same fun y' o' e' => ?_
        have e2 := s1 _ _ e'
        rw [upd_ne (ne_of_none e2 (none_of (same_upd nav) nd3)), del_ne (ne_of_none e2 nav)]
        exact kp _ _ (ne_of_none e2 nav) (same_upd nav _ _ e2)
    · refine ⟨_, rfl, rfl, _, rfl, iteF ?_⟩
      cases nm with
      | bad o ns => cases eo
      | @seq a xs h hl fl =>
        have h1 := h.same s1
        have hx1 := s1 _ _ hx
        have ax : a ≠ x := h.elim (fun e => ne_of e hx (by intro z; cases z)) fun e => ne_of e hx (by intro z; cases z)
        refine ⟨_, rfl, a, xs, rfl, h1, fun H2 t s2 ht => ?_⟩
        have hx2 := s2 _ _ hx1
        have tx : t ≠ x := ne_of ht hx2 (by intro z; cases z)
        refine ⟨_, rfl, x, CP, dx, _, rfl, hx2, T.cl, T.nE, by decide, ?_⟩
        have hx3 : upd H2 x (.ins CP dx (putF "entries" (.ref t) [])) x = some (.ins CP dx (putF "entries" (.ref t) [])) := upd_same
        have ht3 : upd H2 x (.ins CP dx (putF "entries" (.ref t) [])) t = some (.tup xs) := (upd_ne tx).trans ht
        have k3 : ∀ z u, H z = some u → z ≠ x → upd H2 x (.ins CP dx (putF "entries" (.ref t) [])) z = some u := fun z u e ne => (upd_ne ne).trans (s2 _ _ (s1 _ _ e))
        have h3 : Sq (upd H2 x (.ins CP dx (putF "entries" (.ref t) []))) a xs := (h1.same s2).elim (fun e => .inl ((upd_ne ax).trans e)) fun e => .inr ((upd_ne ax).trans e)
        generalize upd H2 x (.ins CP dx (putF "entries" (.ref t) [])) = H3 at hx3 ht3 k3 h3
        refine seq_any (fun Q q => ⟨_, rfl, q⟩) h3 fun it G wk keep D nD => lc_it wk (fun i H' => Same H3 H' ∧ H' D = some (.lst ((intsOf (xs.take i)).map V.int))) ⟨same_upd nD, upd_same⟩ (fun i H' _ ⟨s, _⟩ => keep _ (Same.kp s)) ?_ ?_
        · rintro i y H4 H5 hi ⟨s4, eD⟩ ⟨rfl, ev⟩
          have et : xs.take (i + 1) = xs.take i ++ [y] := by rw [List.take_add_one, ev]; rfl
          have hlen : ((intsOf (xs.take i)).map V.int).length < sizeLine := by
            rw [List.length_map]
            refine Nat.lt_of_le_of_lt (Nat.le_trans (len_intsOf _) ?_) (show 40 < sizeLine by decide)
            rw [List.length_take]
            exact Nat.le_trans (Nat.min_le_right _ _) hl
          rcases cnt_kinds eo y (List.mem_of_getElem? ev) with rfl | ⟨j, rfl, _⟩
          · refine ⟨rfl, _, rfl, rfl, _, rfl, iteF ⟨s4, ?_⟩⟩
            rw [et, intsOf_app]
            show H5 D = some (.lst ((intsOf (xs.take i) ++ []).map V.int))
            rw [List.append_nil]
            exact eD
          · refine ⟨rfl, _, rfl, rfl, _, rfl, iteT ⟨_, rfl, _, eD, hlen, fun b o e => ?_, ?_⟩⟩
            · rw [upd_ne (ne_of_none e nD)]
              exact s4 _ _ e
            · rw [upd_same, et, intsOf_app, List.map_append]
              rfl
        · rintro H4 ⟨s4, eD⟩
          rw [List.take_of_length_le (Nat.le_refl _)] at eD
          refine ⟨_, rfl, D, intsOf xs, -1, rfl, rfl, SqL.of eD, fun en => ?_, fun m hm hle => ?_⟩
          · have ec := cnt_none eo en
            subst ec
            refine ⟨_, _, rfl, rfl, _, rfl, x, CP, dx, _, rfl, s4 _ _ hx3, T.cl, T.nC, (show 1 < 1000 by decide), ?_⟩
            exact q1 0 eo _ t upd_same ((upd_ne tx).trans (s4 _ _ ht3)) fun z u e ne => (upd_ne ne).trans (s4 _ _ (k3 z u e ne))
          · have ec := cnt_max eo hm hle
            refine ⟨_, _, rfl, rfl, _, rfl, x, CP, dx, _, rfl, s4 _ _ hx3, T.cl, T.nC, (show 1 < 1000 by decide), ?_⟩
            exact q1 c eo _ t (by rw [upd_same]; show some (HO.ins CP dx [("entries", V.ref t), ("_classes", V.int (1 + m))]) = _; rw [ec]) ((upd_ne tx).trans (s4 _ _ ht3)) fun z u e ne => (upd_ne ne).trans (s4 _ _ (k3 z u e ne))
end
end K27

/-! C(..) where its __init__ may raise -/
namespace K27
open PySem PySem.Spec PyProof.Rows L2 L2H
/-- C(..) in a try: its __init__ may raise -/
def tMakeS (C : Addr) (sp : Sp) (E : L2.St → XK) (t : TA) : TE := fun σ H Q => t σ H fun vs H1 => ∀ x dx, H1 x = none → H1 dx = none → dx ≠ x →
  sp (.ref x :: vs) (upd (upd H1 dx (.own x)) x (.ins C dx [])) (fun v H2 => v = .non ∧ Q (.ref x) H2) (E σ)
section
variable {X : Cx} {CX : CXT} {k : Nat} {f C : Addr} {fd : FuncData} {ps : List Str} {sp : Sp} {E : L2.St → XK} {x : Str} {p pos : Pos} {e : Expr} {es : List Expr} {t : TA}
theorem run_makeS {pins : List (Addr × Obj)} {σ : L2.St} {H : Hp} {s : Shared} {Q : VK} {us : List Value} {vs : List V} (M : Mk X.K C f) (F : FnOk X.prog X.w X.K X.mg X.base CX k f fd ps sp) (hr : Room (k + 1) X.A) (hb : Binds X.K fd ps [])
    (hx : PassesAt CX X σ (E σ)) (I : Inv X pins σ H s) (r : Vals vs us)
    (h : ∀ x dx, H x = none → H dx = none → dx ≠ x → sp (.ref x :: vs) (upd (upd H dx (.own x)) x (.ins C dx [])) (fun v H2 => v = .non ∧ Q (.ref x) H2) (E σ)) :
    wpAny (model X.prog X.w) X.A (call (.ref C) us) (EP X pins σ Q) X.xe s := by
  have hq := h (s.heap.objs.size + 1) s.heap.objs.size (I.hok.fresh (Nat.le_succ _)) (I.hok.fresh (Nat.le_refl _)) (Nat.ne_of_lt (Nat.lt_succ_self _))
  have I2 := Inv.made (C := C) I
  have r2 : Vals (V.ref (s.heap.objs.size + 1) :: vs) (Value.ref (s.heap.objs.size + 1) :: us) := .cons rfl r
  have hl : (Value.ref (s.heap.objs.size + 1) :: us ++ []).length = ps.length := by
    have e := r2.length
    rw [F.len _ _ _ _ hq] at e
    rw [List.append_nil]
    exact e.symm
  have hbb := hb _ (Value.ref (s.heap.objs.size + 1) :: us) I2.kIn hl
  rw [List.append_nil] at hbb
  refine wpAny_call (make_map (f := f) I.kIn M.makes M.init (beq_iff_eq.mp M.fn) (codeAny_mono (F.run _ X.stack _ _ ⟨Value.ref (s.heap.objs.size + 1) :: us, []⟩ (Value.ref (s.heap.objs.size + 1) :: us) _ _ (E σ) (hr.make C us [])
    (I2.env0.make C us []) hbb r2 hq) fun r s' hq' => ?_))
  cases r with
  | error e => exact hx pins _ _ e s' I2 hq'
  | ok fl =>
    cases fl with
    | ret u =>
      obtain ⟨v, H', I3, rv, ev, q3⟩ := I2.after hq'
      subst ev
      exact ⟨rv, ⟨V.ref (s.heap.objs.size + 1), H', I3, rfl, q3⟩⟩
    | next => exact False.elim hq'
    | brk => exact False.elim hq'
    | cont => exact False.elim hq'
theorem pe_makeS (M : Mk X.K C f) (F : FnOk X.prog X.w X.K X.mg X.base CX k f fd ps sp) (hr : Room (k + 1) X.A) (hg : Gl X x) (hm : X.mg x = some (.ref C)) (hb : Binds X.K fd ps []) (hx : ∀ σ, PassesAt CX X σ (E σ))
    (ha : PA X (e :: es) t) (hdb : (x == ("__debug__" : Str)) = false := by decide) (he : starEach (e :: es) X.env = (false, eval e X.env) :: starEach es X.env := by rfl) (hpl : (backTo pos (starEach es X.env)).any (·.1) = false := by rfl) :
    PE X (.Call (.Name x p) (e :: es) [] pos) (tMakeS C sp E t) := by
  refine ⟨fun pins s σ H Q I h => ?_⟩
  refine wpAny_Call_Name_kw (ld_glob I hg hm ?_ hdb)
  refine PySem.W.callWith_K (h₀ := X.base) I.ok.mod.kin M.kp (thn (ha.run pos pins s σ H _ I h) fun us s1 ⟨vs, H1, I1, r, q⟩ => ⟨I1.kIn, ?_⟩) he hpl
  exact run_makeS M F hr hb (hx σ) I1 r q
end
end K27

/-! odd things are drawn -/
namespace K27
open PySem PySem.Spec PyProof.Rows L2
def Kept (p : Addr) (H H' : Hp) : Prop := ∀ b o, b ≠ p → H b = some o → H' b = some o
theorem Kept.upd {p : Addr} {H : Hp} {o : HO} : Kept p H (upd H p o) := fun b u n e => by
  rw [upd_ne n]
  exact e
theorem Kept.refl {p : Addr} {H : Hp} : Kept p H H := fun b u n e => e
theorem Kept.trans {p : Addr} {H H1 H2 : Hp} (a : Kept p H H1) (b : Kept p H1 H2) : Kept p H H2 := fun c o n e => b c o n (a c o n e)
theorem Kept.same {p : Addr} {H H1 : Hp} (a : Same H H1) : Kept p H H1 := fun c o _ e => a c o e
theorem Kept.seq {p : Addr} {H H1 : Hp} {K : PySem.W.Frag} {a : Addr} {xs : List V} (k : Kept p H H1) (n : a ≠ p) (h : SqL K H a xs) : SqL K H1 a xs := by
  rcases h with (h | ⟨o, h⟩) | h
  · exact .inl (.inl (k _ _ n h))
  · exact .inl (.inr ⟨o, k _ _ n h⟩)
  · exact .inr h
theorem hand_apart {H : Hp} {p l : Addr} {cells : List Int} {i r t : Int} (h : HandAt H p l cells i r t) : l ≠ p := fun z => by
  have h1 := h.1
  have h2 := h.2.1
  rw [z, h1] at h2
  have h3 := Option.some.inj h2
  injection h3 with h4
  have h5 := congrArg List.head? h4
  cases cells with
  | nil => cases h5
  | cons c cs => cases h5
theorem hand_upd {H : Hp} {p l : Addr} {cells : List Int} {i r t i' r' t' : Int} (h : HandAt H p l cells i r t) (o : HandOk cells i' r' t') : HandAt (upd H p (handO l i' r' t')) p l cells i' r' t' := by
  refine ⟨upd_same, ?_, o⟩
  rw [upd_ne (hand_apart h)]
  exact h.2.1
theorem hand_same {H H' : Hp} {p l : Addr} {cells : List Int} {i r t : Int} (h : HandAt H p l cells i r t) (s : Same H H') : HandAt H' p l cells i r t := ⟨s _ _ h.1, s _ _ h.2.1, h.2.2⟩
theorem callR_or {X : Cx} {f : Value} {r1 r2 : List V → Hp → VK → Prop} (h1 : CallR X f r1) (h2 : CallR X f r2) : CallR X f (fun xs H Q => r1 xs H Q ∨ r2 xs H Q) := fun pins s σ H xs us Q I rv h => h.elim (h1 pins s σ H xs us Q I rv) (h2 pins s σ H xs us Q I rv)
/-- a list's item, or a text's sign -/
def spPick (K : PySem.W.Frag) : Sp := fun vs H Q _ => ∃ (p l : Addr) (cells : List Int) (i r t : Int), HandAt H p l cells i r t ∧
  ((∃ (a : Addr) (xs : List V), vs = [.ref p, .ref a] ∧ SqL K H a xs ∧ a ≠ p ∧ 0 < xs.length ∧ xs.length ≤ 1000 ∧ ∀ (v : V) (i' r' t' : Int), v ∈ xs → HandOk cells i' r' t' → Q v (upd H p (handO l i' r' t'))) ∨
   (∃ z : Str, vs = [.ref p, .str z] ∧ 0 < z.length ∧ z.length ≤ 1000 ∧ ∀ (c : Nat) (i' r' t' : Int), c ∈ z.cps.toList → HandOk cells i' r' t' → Q (.str ⟨#[c]⟩) (upd H p (handO l i' r' t'))))
section
variable {P : Program} {w : World} {K : PySem.W.Frag} {mg : Str → Option Value} {base : Heap}
theorem scPick : FnScope ["_law_hand_here", "_law_things"] ["_law_hand_here", "_law_things"] (defScope sPick) := ⟨rfl, rfl, rfl, by decide +kernel, rfl, by decide +kernel, by decide +kernel⟩
theorem ok_pick {f fD : Addr} {fd fdD : FuncData} (F : FnP K "_law_pick" sPick f fd) (zl : mg "len" = none) (dD : Df P w K mg base "_law_draw" 2 ["_law_hand_here", "_law_many"] spDraw fD fdD) : FnOk P w K mg base CX0 3 f fd ["_law_hand_here", "_law_things"] (spPick K) := by
  refine F.ok scPick (fun vs H Q E h => ?_) (fun cdv A outer s H vs Q E hr h => ?_)
  · obtain ⟨p, l, cells, i, r, t, hh, (⟨a, xs, rfl, _⟩ | ⟨z, rfl, _⟩)⟩ := h <;> rfl
  · obtain ⟨p, l, cells, i, r, t, hh, h⟩ := h
    refine ⟨_, PSs.nox (pss_one (ps_ret (pe_ix ix_seq (pv 1) (pe_call dD.ok hr (by rfl) dD.gl dD.kp dD.bi .nil pass0 (pa_cons (pv 0) (pa_cons (pe_callB (callR_or call_len_seq call_len_str) (by rfl) zl boot_len (pa_cons (pv 1) pa_nil)) pa_nil))) (fun _ _ => rfl)))), ?_⟩
    rcases h with ⟨a, xs, rfl, hS, nap, h0, h1, q⟩ | ⟨z, rfl, h0, h1, q⟩
    · refine ⟨_, rfl, _, rfl, _, rfl, .inl ⟨_, _, rfl, .inl hS, p, l, cells, i, r, t, _, rfl, hh, by omega, ?_, fun d i' r' t' d0 d1 ok' => ?_⟩⟩
      · have e : ((xs.length : Int)).natAbs = xs.length := by omega
        rw [e]
        exact Nat.lt_of_le_of_lt h1 (Nat.lt_of_lt_of_le (m := 2 ^ 20) (by decide) (Nat.pow_le_pow_right (by decide) (by decide)))
      · have hd : d.toNat < xs.length := by omega
        have hget : atI xs d = some xs[d.toNat] := by
          have z := atI_nat (xs := xs) (j := d.toNat) (v := xs[d.toNat]) (List.getElem?_eq_getElem hd)
          rw [Int.toNat_of_nonneg d0] at z
          exact z
        exact .inl ⟨_, _, _, _, rfl, rfl, Kept.upd.seq nap hS, hget, q _ i' r' t' (List.getElem_mem hd) ok'⟩
    · refine ⟨_, rfl, _, rfl, _, rfl, .inr ⟨z, rfl, Nat.le_trans h1 (by decide), p, l, cells, i, r, t, _, rfl, hh, by omega, ?_, fun d i' r' t' d0 d1 ok' => ?_⟩⟩
      · have e : ((z.length : Int)).natAbs = z.length := by omega
        rw [e]
        exact Nat.lt_of_le_of_lt h1 (Nat.lt_of_lt_of_le (m := 2 ^ 20) (by decide) (Nat.pow_le_pow_right (by decide) (by decide)))
      · have hl : z.cps.toList.length = z.length := Array.length_toList
        have hd : d.toNat < z.cps.toList.length := by omega
        have hget : atI z.cps.toList d = some (z.cps.toList[d.toNat]) := by
          have y := atI_nat (xs := z.cps.toList) (j := d.toNat) (v := z.cps.toList[d.toNat]) (List.getElem?_eq_getElem hd)
          rw [Int.toNat_of_nonneg d0] at y
          exact y
        exact .inr (.inr ⟨z, d, _, rfl, rfl, Nat.le_trans h1 (by decide), hget, q _ i' r' t' (List.getElem_mem hd) ok'⟩)
def layS (x : Str) : Prop := (PyData.str x).canLay0 = true
theorem lay_app {x : Str} {c : Nat} (h : layS x) (hc : c < 0x110000) : layS (x ++ ⟨#[c]⟩) := by
  have h1 : x.cps.all (fun c => decide (c < 0x110000)) = true := h
  show (x.cps ++ #[c]).all (fun c => decide (c < 0x110000)) = true
  rw [← Array.all_toList] at h1 ⊢
  rw [Array.toList_append, List.all_append, h1, Bool.true_and]
  show (List.all [c] _) = true
  rw [List.all_cons, decide_eq_true hc]
  rfl
theorem len_app {x : Str} {c : Nat} : (x ++ (⟨#[c]⟩ : Str)).length = x.length + 1 := by
  show (x.cps ++ #[c]).size = x.cps.size + 1
  rw [Array.size_append]
  rfl
theorem small2 {m : Int} (h : m.natAbs < 2 ^ 200) : m.natAbs < 2 ^ 8000 := Nat.lt_of_lt_of_le h (Nat.pow_le_pow_right (by decide) (by decide))
end
end K27

/-! things as data; the hand; written things -/
namespace K27
open PySem PySem.Spec PyProof.Rows L2
mutual
/-- d stands at v, all its objects are in S -/
inductive Dt (S : Addr → Prop) (H : Hp) : V → PyData → Prop
  | non : Dt S H .non .none
  | bl (b : Bool) : Dt S H (.bl b) (.bool b)
  | int (i : Int) : Dt S H (.int i) (.int i)
  | str (x : Str) (hx : x.length ≤ 1000) (hs : (PyData.str x).canLay0 = true) : Dt S H (.str x) (.str x)
  | lst {a : Addr} {xs : List V} {ds : List PyData} : S a → H a = some (.lst xs) → DtAll S H xs ds → Dt S H (.ref a) (.list ds)
  | tup {a : Addr} {xs : List V} {ds : List PyData} : S a → H a = some (.tup xs) → DtAll S H xs ds → Dt S H (.ref a) (.tuple ds)
inductive DtAll (S : Addr → Prop) (H : Hp) : List V → List PyData → Prop
  | nil : DtAll S H [] []
  | cons {v : V} {vs : List V} {d : PyData} {ds : List PyData} : Dt S H v d → DtAll S H vs ds → DtAll S H (v :: vs) (d :: ds)
end
section
variable {S S' : Addr → Prop} {H H' : Hp} {K : PySem.W.Frag}
mutual
theorem Dt.dp {v : V} {d : PyData} (h : Dt S H v d) : Dp K H v d := by
  cases h with
  | non => exact .non
  | bl b => exact .bl b
  | int i => exact .int i
  | str x _ _ => exact .str x
  | lst _ e r => exact .lst (SqL.of e) r.dp
  | tup _ e r => exact .tup (SqT.of e) r.dp
theorem DtAll.dp {vs : List V} {ds : List PyData} (h : DtAll S H vs ds) : DpAll K H vs ds := by
  cases h with
  | nil => exact .nil
  | cons a b => exact .cons a.dp b.dp
end
mutual
/-- carried to another heap -/
theorem Dt.to {v : V} {d : PyData} (h : Dt S H v d) (hS : ∀ a, S a → S' a) (k : ∀ a o, S a → H a = some o → H' a = some o) : Dt S' H' v d := by
  cases h with
  | non => exact .non
  | bl b => exact .bl b
  | int i => exact .int i
  | str x h1 h2 => exact .str x h1 h2
  | lst s e r => exact .lst (hS _ s) (k _ _ s e) (r.to hS k)
  | tup s e r => exact .tup (hS _ s) (k _ _ s e) (r.to hS k)
theorem DtAll.to {vs : List V} {ds : List PyData} (h : DtAll S H vs ds) (hS : ∀ a, S a → S' a) (k : ∀ a o, S a → H a = some o → H' a = some o) : DtAll S' H' vs ds := by
  cases h with
  | nil => exact .nil
  | cons a b => exact .cons (a.to hS k) (b.to hS k)
end
theorem Dt.same {v : V} {d : PyData} (h : Dt S H v d) (s : Same H H') : Dt S H' v d := h.to (fun _ z => z) fun a o _ e => s _ _ e
theorem DtAll.same {vs : List V} {ds : List PyData} (h : DtAll S H vs ds) (s : Same H H') : DtAll S H' vs ds := h.to (fun _ z => z) fun a o _ e => s _ _ e
abbrev Any : Addr → Prop := fun _ => True
theorem Dt.any {v : V} {d : PyData} (h : Dt S H v d) : Dt Any H v d := h.to (fun _ _ => trivial) fun _ _ _ e => e
theorem DtAll.any {vs : List V} {ds : List PyData} (h : DtAll S H vs ds) : DtAll Any H vs ds := h.to (fun _ _ => trivial) fun _ _ _ e => e
/-- another place than p, changed -/
theorem Dt.kept {v : V} {d : PyData} {p : Addr} (h : Dt S H v d) (np : ¬ S p) (k : Kept p H H') : Dt S H' v d := h.to (fun _ z => z) fun a o s e => k _ _ (fun z => np (z ▸ s)) e
theorem DtAll.kept {vs : List V} {ds : List PyData} {p : Addr} (h : DtAll S H vs ds) (np : ¬ S p) (k : Kept p H H') : DtAll S H' vs ds := h.to (fun _ z => z) fun a o s e => k _ _ (fun z => np (z ▸ s)) e
theorem DtAll.len {vs : List V} {ds : List PyData} (h : DtAll S H vs ds) : vs.length = ds.length := by
  induction ds generalizing vs with
  | nil => cases h; rfl
  | cons d ds ih => cases h with | cons a b => exact congrArg Nat.succ (ih b)
theorem DtAll.get {vs : List V} {ds : List PyData} (h : DtAll S H vs ds) {i : Nat} {v : V} (e : vs[i]? = some v) : ∃ d, ds[i]? = some d ∧ Dt S H v d := by
  induction ds generalizing vs i with
  | nil => cases h; cases e
  | cons d ds ih =>
    cases h with
    | cons a b =>
      cases i with
      | zero => cases e; exact ⟨d, rfl, a⟩
      | succ i => exact ih b e
theorem DtAll.app {vs us : List V} {ds es : List PyData} (h : DtAll S H vs ds) (g : DtAll S H us es) : DtAll S H (vs ++ us) (ds ++ es) := by
  induction ds generalizing vs with
  | nil => cases h; exact g
  | cons d ds ih => cases h with | cons a b => exact .cons a (ih b)
theorem DtAll.take {vs : List V} {ds : List PyData} (h : DtAll S H vs ds) (n : Nat) : DtAll S H (vs.take n) (ds.take n) := by
  induction ds generalizing vs n with
  | nil => cases h; cases n <;> exact .nil
  | cons d ds ih =>
    cases h with
    | cons a b =>
      cases n with
      | zero => exact .nil
      | succ n => exact .cons a (ih b n)
theorem DtAll.drop {vs : List V} {ds : List PyData} (h : DtAll S H vs ds) (n : Nat) : DtAll S H (vs.drop n) (ds.drop n) := by
  induction ds generalizing vs n with
  | nil => cases h; cases n <;> exact .nil
  | cons d ds ih =>
    cases h with
    | cons a b =>
      cases n with
      | zero => exact .cons a b
      | succ n => exact ih b n
def tyD : PyData → String
  | .none => "NoneType"
  | .bool _ => "bool"
  | .int _ => "int"
  | .str _ => "str"
  | .list _ => "list"
  | .tuple _ => "tuple"
  | .dict _ => "dict"
theorem Dt.odd {v : V} {d : PyData} (h : Dt S H v d) : Odd H v (tyD d) := by
  cases h with
  | non => exact .non
  | bl b => exact .bl b
  | int i => exact .int i
  | str x h1 h2 => exact .str x h1 h2
  | lst _ e r => exact .lst e
  | tup _ e r => exact .tup e
end
section
variable {S : Addr → Prop} {H : Hp}
mutual
theorem Dt.lay {v : V} {d : PyData} (h : Dt S H v d) : d.canLay0 = true := by
  cases h with
  | non => rfl
  | bl b => rfl
  | int i => rfl
  | str x h1 h2 => exact h2
  | lst s e r => exact r.lay
  | tup s e r => exact r.lay
theorem DtAll.lay {vs : List V} {ds : List PyData} (h : DtAll S H vs ds) : PyData.canLayAll0 ds = true := by
  cases h with
  | nil => rfl
  | cons a b => exact Bool.and_eq_true_iff.mpr ⟨a.lay, b.lay⟩
end
end
theorem shaped_of {d : PyData} (h : d.canLay0 = true) (k : d.depth ≤ 64) : SeqAt.shaped d = true := Bool.and_eq_true_iff.mpr ⟨h, decide_eq_true k⟩
/-- the hand stands at p -/
def Hand (p l : Addr) (H : Hp) : Prop := ∃ (cells : List Int) (i r t : Int), HandAt H p l cells i r t
theorem Hand.same {p l : Addr} {H H' : Hp} (h : Hand p l H) (s : Same H H') : Hand p l H' := by
  obtain ⟨cells, i, r, t, h⟩ := h
  exact ⟨cells, i, r, t, hand_same h s⟩
theorem Hand.at_ {p l : Addr} {H : Hp} (h : Hand p l H) : ∃ xs, H p = some (.lst xs) := by
  obtain ⟨cells, i, r, t, h⟩ := h
  exact ⟨_, h.1⟩
theorem Hand.nn {p l : Addr} {H : Hp} (h : Hand p l H) {a : Addr} (n : H a = none) : a ≠ p := fun z => by
  obtain ⟨xs, e⟩ := h.at_
  rw [z, e] at n
  cases n
theorem Hand.app {p l a : Addr} {H : Hp} {o : HO} (h : Hand p l H) (n1 : a ≠ p) (n2 : a ≠ l) : Hand p l (upd H a o) := by
  obtain ⟨cells, i, r, t, h⟩ := h
  exact ⟨cells, i, r, t, (upd_ne (Ne.symm n1)).trans h.1, (upd_ne (Ne.symm n2)).trans h.2.1, h.2.2⟩
theorem Hand.nl {p l : Addr} {H : Hp} (h : Hand p l H) {a : Addr} (n : H a = none) : a ≠ l := fun z => by
  obtain ⟨cells, i, r, t, h⟩ := h
  rw [z, h.2.1] at n
  cases n
theorem Hand.back {p l : Addr} {H H' : Hp} (h : Hand p l H') (k : Kept p H H') {a : Addr} (n : H' a = none) : H a = none := by
  cases e : H a with
  | none => rfl
  | some o =>
    have z := k _ _ (h.nn n) e
    rw [n] at z
    cases z
abbrev New (H : Hp) : Addr → Prop := fun a => H a = none
theorem Dt.newer {H H1 H' : Hp} {v : V} {d : PyData} {p l : Addr} (h : Dt (New H1) H' v d) (hp : Hand p l H1) (k : Kept p H H1) : Dt (New H) H' v d := h.to (fun a n => hp.back k n) fun _ _ _ e => e
theorem Dt.new_kept {H H1 H' : Hp} {v : V} {d : PyData} {p l : Addr} (h : Dt (New H) H1 v d) (hp : Hand p l H) (k : Kept p H1 H') : Dt (New H) H' v d := h.kept (fun n => (hp.nn n) rfl) k
theorem DtAll.newer {H H1 H' : Hp} {v : List V} {d : List PyData} {p l : Addr} (h : DtAll (New H1) H' v d) (hp : Hand p l H1) (k : Kept p H H1) : DtAll (New H) H' v d := h.to (fun a n => hp.back k n) fun _ _ _ e => e
theorem DtAll.new_kept {H H1 H' : Hp} {v : List V} {d : List PyData} {p l : Addr} (h : DtAll (New H) H1 v d) (hp : Hand p l H) (k : Kept p H1 H') : DtAll (New H) H' v d := h.kept (fun n => (hp.nn n) rfl) k
def spDr : Sp := fun vs H Q _ => ∃ (p l : Addr) (m : Int), vs = [.ref p, .int m] ∧ Hand p l H ∧ 0 < m ∧ m.natAbs < 2 ^ 200 ∧ ∀ (d : Int) (H' : Hp), 0 ≤ d → d < m → Kept p H H' → Hand p l H' → Q (.int d) H'
def spPk : Sp := fun vs H Q _ => ∃ (p l a : Addr) (xs : List V), vs = [.ref p, .ref a] ∧ Hand p l H ∧ H a = some (.lst xs) ∧ a ≠ p ∧ 0 < xs.length ∧ xs.length ≤ 1000 ∧ ∀ (v : V) (H' : Hp), v ∈ xs → Kept p H H' → Hand p l H' → Q v H'
section
variable {P : Program} {w : World} {K : PySem.W.Frag} {mg : Str → Option Value} {base : Heap}
theorem Df.draw {f : Addr} {fd : FuncData} (d : Df P w K mg base "_law_draw" 2 ["_law_hand_here", "_law_many"] spDraw f fd) : Df P w K mg base "_law_draw" 2 ["_law_hand_here", "_law_many"] spDr f fd :=
  ⟨d.gl, d.ok.imp fun vs H Q E ⟨p, l, m, e, ⟨cells, i, r, t, h⟩, h0, h1, q⟩ => ⟨p, l, cells, i, r, t, m, e, h, h0, small2 h1, fun d i' r' t' d0 d1 ok => q _ _ d0 d1 Kept.upd ⟨cells, i', r', t', hand_upd h ok⟩⟩, d.bi, d.kp⟩
theorem Df.pick {f : Addr} {fd : FuncData} (d : Df P w K mg base "_law_pick" 3 ["_law_hand_here", "_law_things"] (spPick K) f fd) : Df P w K mg base "_law_pick" 3 ["_law_hand_here", "_law_things"] spPk f fd :=
  ⟨d.gl, d.ok.imp fun vs H Q E ⟨p, l, a, xs, e, ⟨cells, i, r, t, h⟩, ha, nap, h0, h1, q⟩ => ⟨p, l, cells, i, r, t, h, .inl ⟨a, xs, e, SqL.of ha, nap, h0, h1, fun v i' r' t' hv ok => q _ _ hv Kept.upd ⟨cells, i', r', t', hand_upd h ok⟩⟩⟩, d.bi, d.kp⟩
end
/-! ### written things -/
def DtE (t : TE) (d : PyData) : Prop := ∀ (σ : L2.St) (H : Hp) (Q : VK), (∀ v H', Same H H' → Dt (New H) H' v d → Q v H') → t σ H Q
def DtA (t : TA) (ds : List PyData) : Prop := ∀ (σ : L2.St) (H : Hp) (Q : List V → Hp → Prop), (∀ vs H', Same H H' → DtAll (New H) H' vs ds → Q vs H') → t σ H Q
theorem deN : DtE (tC .non) .none := fun σ H Q q => q _ _ (Same.refl _) .non
theorem deB {b : Bool} : DtE (tC (.bl b)) (.bool b) := fun σ H Q q => q _ _ (Same.refl _) (.bl b)
theorem deI {i : Int} : DtE (tC (.int i)) (.int i) := fun σ H Q q => q _ _ (Same.refl _) (.int i)
def okS (x : Str) : Bool := decide (x.length ≤ 1000) && (PyData.str x).canLay0
theorem okS_dt {S : Addr → Prop} {H : Hp} {x : Str} (h : okS x = true) : Dt S H (.str x) (.str x) := by
  obtain ⟨a, b⟩ := Bool.and_eq_true_iff.mp h
  exact .str x (of_decide_eq_true a) b
theorem deS {x : Str} (h : okS x = true) : DtE (tC (.str x)) (.str x) := fun σ H Q q => q _ _ (Same.refl _) (okS_dt h)
theorem deU {i : Int} : DtE (tUn (rU fun i => .int (-i)) (tC (.int i))) (.int (-i)) := fun σ H Q q => ⟨i, rfl, q _ _ (Same.refl _) (.int _)⟩
theorem deP {i j : Int} (h : 0 ≤ j ∧ j ≤ 1000000 ∧ i.natAbs < 2 ^ 64) : DtE (tOp (rI CPow fun i j => .int (i ^ j.toNat)) (tC (.int i)) (tC (.int j))) (.int (i ^ j.toNat)) := fun σ H Q q => ⟨_, _, rfl, rfl, h, q _ _ (Same.refl _) (.int _)⟩
theorem dePA {i j k : Int} (h : 0 ≤ j ∧ j ≤ 1000000 ∧ i.natAbs < 2 ^ 64) : DtE (tOp (rI0 fun i j => .int (i + j)) (tOp (rI CPow fun i j => .int (i ^ j.toNat)) (tC (.int i)) (tC (.int j))) (tC (.int k))) (.int (i ^ j.toNat + k)) := fun σ H Q q => ⟨_, _, rfl, rfl, h, _, _, rfl, rfl, q _ _ (Same.refl _) (.int _)⟩
theorem daN : DtA tNil [] := fun σ H Q q => q [] H (Same.refl _) .nil
theorem Dt.from {H H1 H2 : Hp} {v : V} {d : PyData} (h : Dt (New H1) H2 v d) (s : Same H H1) : Dt (New H) H2 v d := h.to (fun a n => none_of s n) fun _ _ _ e => e
theorem DtAll.from {H H1 H2 : Hp} {v : List V} {d : List PyData} (h : DtAll (New H1) H2 v d) (s : Same H H1) : DtAll (New H) H2 v d := h.to (fun a n => none_of s n) fun _ _ _ e => e
theorem daK {t : TE} {d : PyData} {ta : TA} {ds : List PyData} (h : DtE t d) (r : DtA ta ds) : DtA (tCons t ta) (d :: ds) := fun σ H Q q => h σ H _ fun v H1 s1 h1 => r σ H1 _ fun vs H2 s2 h2 => q _ _ (s1.trans s2) (.cons (h1.same s2) (h2.from s1))
theorem deL {t : TA} {ds : List PyData} (h : DtA t ds) (hl : ds.length ≤ 1000) : DtE (tLst t) (.list ds) := fun σ H Q q => h σ H _ fun vs H1 s1 h1 => ⟨by rw [h1.len]; exact Nat.le_trans hl (by decide), fun p np => q _ _ (s1.trans (same_upd np)) (.lst (none_of s1 np) upd_same (h1.same (same_upd np)))⟩
theorem deT {t : TA} {ds : List PyData} (h : DtA t ds) (hl : ds.length ≤ 1000) : DtE (tTup t) (.tuple ds) := fun σ H Q q => h σ H _ fun vs H1 s1 h1 => ⟨by rw [h1.len]; exact Nat.le_trans hl (by decide), fun p np => q _ _ (s1.trans (same_upd np)) (.tup (none_of s1 np) upd_same (h1.same (same_upd np)))⟩
theorem DtAll.mem {S : Addr → Prop} {H : Hp} {vs : List V} {ds : List PyData} (h : DtAll S H vs ds) {v : V} (hv : v ∈ vs) : ∃ d ∈ ds, Dt S H v d := by
  obtain ⟨i, hi, e⟩ := List.mem_iff_getElem.mp hv
  obtain ⟨d, ed, hd⟩ := h.get (i := i) (v := v) (by rw [List.getElem?_eq_getElem hi, e])
  exact ⟨d, List.mem_of_getElem? ed, hd⟩
/-- one of a written list is picked -/
theorem pick_menu {j : Nat} {p l : Addr} {tl : TE} {ds : List PyData} {σ : L2.St} {H : Hp} {Q : VK} (e : σ[j]? = some (some (.ref p))) (hp : Hand p l H) (hl : DtE tl (.list ds)) (h0 : 0 < ds.length) (h1 : ds.length ≤ 1000)
    (q : ∀ v d H', d ∈ ds → Dt (New H) H' v d → Kept p H H' → Hand p l H' → Q v H') : tCall spPk [] E0 (tCons (tVar j) (tCons tl tNil)) σ H Q := by
  refine ⟨_, e, hl σ H _ fun v H1 s1 hd => ?_⟩
  cases hd with
  | @lst a xs _ na ea hx =>
    have el := hx.len
    refine ⟨p, l, a, xs, rfl, hp.same s1, ea, hp.nn na, by omega, by omega, fun v H2 hv k h2 => ?_⟩
    obtain ⟨d, hd, hvd⟩ := hx.mem hv
    exact q v d H2 hd (hvd.new_kept hp k) ((Kept.same s1).trans k) h2
end K27

set_option maxHeartbeats 1000000
/-! d.get(None), d with ints or with pairs of ints for keys -/
namespace K27
open PySem PySem.Spec PyProof.Rows L2
section
variable {prog : Program} {w : World} {A : Around} {E : Value → Shared → Prop} {s : Shared}
/-- a stored key that is quiet and not None -/
def NotNone (prog : Program) (w : World) (A : Around) (s : Shared) (v : Value) : Prop :=
  carriedByValue v = false ∧ (∀ (E : Value → Shared → Prop) (Q : Bool → Shared → Prop), Q true s → wpAny (model prog w) A (eqIsQuiet 8 v) Q E s) ∧ SeqAt.EqAt A s v .none false
theorem tells_none {stored : List Value} {Q : Bool → Shared → Prop} (hk : ∀ v ∈ stored, NotNone prog w A s v) (h : Q false s) : wpAny (model prog w) A (tableMayTell .none stored) Q E s := by
  unfold tableMayTell
  split
  · exact wpAny_pure h
  · refine wpAny_bind ?_
    show wpAny _ _ (pure true) _ _ _
    refine wpAny_pure ?_
    simp only [Bool.not_true, Bool.false_eq_true, if_false]
    refine wpAny_bind (wpAny_forIn_list _ (fun rest r s' => s' = s ∧ r = (none, ()) ∧ ∀ v ∈ rest, v ∈ stored) _ ?_ ?_ _ _ ⟨rfl, rfl, fun v hv => hv⟩)
    · rintro x rest r s' ⟨rfl, rfl, hr⟩
      refine wpAny_bind ((hk x (hr x List.mem_cons_self)).2.1 _ _ ?_)
      simp only [Bool.not_true, Bool.false_eq_true, if_false]
      exact wpAny_pure ⟨rfl, rfl, fun v hv => hr v (List.mem_cons_of_mem _ hv)⟩
    · rintro r s' ⟨rfl, rfl, _⟩
      exact wpAny_pure h
theorem find_none {d : Addr} {o : Obj} {es : Array DictEntry} {ep : Nat} {hs : Int} {Q : Option Nat → Shared → Prop} (ho : s.heap.get? d = some o) (hd : o.data = .dict es ep) (hk : ∀ e ∈ es, NotNone prog w A s e.key) (h : Q none s) :
    wpAny (model prog w) A (dictFind d .none hs) Q E s := by
  have hst : ∀ v ∈ (placesWithHash es.size (fun i => es[i]?.map (·.hash)) hs).filterMap (fun i => es[i]?.map (·.key)), NotNone prog w A s v := by
    intro v hv
    obtain ⟨i, _, hi⟩ := List.mem_filterMap.mp hv
    cases hei : es[i]? with
    | none => rw [hei] at hi; cases hi
    | some e =>
      rw [hei] at hi
      obtain rfl : e.key = v := by simpa using hi
      exact hk e (Array.mem_of_getElem? hei)
  have hpl : ∀ i ∈ placesWithHash es.size (fun i => es[i]?.map (·.hash)) hs, ∃ e, es[i]? = some e ∧ e.hash = hs := by
    intro i hi
    have z : ((es[i]?.map (·.hash)) == some hs) = true := by
      unfold placesWithHash at hi
      exact (List.mem_filter.mp hi).2
    cases hei : es[i]? with
    | none => rw [hei] at z; cases z
    | some e =>
      rw [hei] at z
      exact ⟨e, rfl, by simpa using z⟩
  unfold dictFind
  try with_reducible refine wpAny_holding ?_
  refine wpAny_bind (wpAny_dictEntries ho hd ?_)
  dsimp only
  generalize placesWithHash es.size (fun i => es[i]?.map (·.hash)) hs = places at hst hpl ⊢
  by_cases hall : ((Value.none :: places.filterMap (fun i => es[i]?.map (·.key))).all carriedByValue) = true
  · rw [if_pos hall]
    have emp : places = [] := by
      cases hp : places with
      | nil => rfl
      | cons i rest =>
        exfalso
        obtain ⟨e, he, _⟩ := hpl i (by rw [hp]; exact List.mem_cons_self)
        have hm : e.key ∈ places.filterMap (fun i => es[i]?.map (·.key)) := List.mem_filterMap.mpr ⟨i, by rw [hp]; exact List.mem_cons_self, by rw [he]; rfl⟩
        have c := List.all_eq_true.mp hall e.key (List.mem_cons_of_mem _ hm)
        rw [(hst _ hm).1] at c
        cases c
    rw [emp]
    unfold dictWalkPlain
    exact wpAny_bind (wpAny_pure (wpAny_bind (wpAny_pure (wpAny_pure h))))
  · rw [if_neg hall]
    by_cases hone : (places.filterMap (fun i => es[i]?.map (·.key)) == [Value.none]) = true <;>
    (first | rw [if_pos hone] | rw [if_neg hone]) <;> (first | refine wpAny_bind (wpAny_pure ?_) | refine wpAny_bind (tells_none hst ?_)) <;> (
      rw [if_neg (by simp)]
      refine wpAny_bind (wpAny_forIn_list _ (fun rest b s' => s' = s ∧ b = (none, none) ∧ ∀ i ∈ rest, i ∈ places) _ ?_ ?_ _ _ ⟨rfl, rfl, fun i hi => hi⟩)
      · rintro i rest b s' ⟨rfl, rfl, hr⟩
        obtain ⟨e, he, eh⟩ := hpl i (hr i List.mem_cons_self)
        have hn := hk e (Array.mem_of_getElem? he)
        rw [he]
        dsimp only
        rw [if_pos (by rw [eh]; simp)]
        refine wpAny_bind (wpAny_dictEpoch ho hd (wpAny_bind (hn.2.2 _ _ _ _ (wpAny_bind (wpAny_dictEpoch ho hd ?_)))))
        show wpAny _ _ (if (ep != ep) = true then _ else _) _ E _
        rw [if_neg (by simp)]
        simp only [Bool.false_eq_true, if_false, Bool.false_and]
        exact wpAny_bind (wpAny_rule (wpAny_pure ⟨rfl, rfl, fun j hj => hr j (List.mem_cons_of_mem _ hj)⟩))
      · rintro b s' ⟨rfl, rfl, _⟩
        exact wpAny_pure h)
/-- what is told of None -/
theorem meets_getNone {d : Addr} (hd : (d == sysModules) = false) :
    MeetsIn prog w (Builtin.«dict.get» ⟨[.ref d, .none], []⟩) (fun A R s => (∃ o es ep, s.heap.get? d = some o ∧ o.data = .dict es ep ∧ ∀ e ∈ es, ∀ s', s'.heap = s.heap → NotNone prog w A.in1 s' e.key) ∧ ∀ t, R (.ok (.ret .none)) { s with toks := t }) :=
  .of_wp fun A R s ⟨⟨o, es, ep, ho, hdt, hk⟩, h⟩ => by
    show wpAny _ _ (dictGet d .none >>= _) _ _ s
    unfold dictGet
    try with_reducible refine wpAny_bind (wpAny_holding ?_)
    refine wpAny_bind (PySem.W.pyHash_slot (T := "NoneType") rfl PySem.F.slot_NoneType_hash PySem.F.entry_NoneType_hash (PySem.F.args_NoneType_hash_1 _) (beq_builtin_none _) (.inl rfl) (wpAny_bind (wpAny_pure (wpAny_bind (wpAny_mkInt (wpAny_pure ⟨_, _, rfl, ?_⟩))))))
    refine wpAny_bind (find_none (s := { s with toks := s.toks + 1 }) ho hdt (fun e he => hk e he _ rfl) (wpAny_pure ?_))
    dsimp only
    show wpAny _ _ (Builtin.Dict.missed d .none >>= _) _ _ _
    exact wpAny_bind (wpAny_missed_other hd (wpAny_pure ⟨.none, rfl, h _⟩))
end
section
variable {X : Cx} {pins : List (Addr × Obj)} {σ : L2.St} {H : Hp} {s : Shared} {a : Addr} {A : Around} {E : Value → Shared → Prop}
/-- the keys of d, as pairs of whole numbers -/
def Pairs (kvs : List (List Key × V)) : Prop := ∀ kv ∈ kvs, ∃ x y : Int, kv.1 = [Sum.inl x, Sum.inl y]
theorem paired_mem {α β : Type} {R : α → β → Prop} : ∀ {l : List α} {m : List β}, Paired R l m → ∀ y ∈ m, ∃ x ∈ l, R x y
  | _, _, .nil, y, h => by cases h
  | _, _, .cons r t, y, h => by
    rcases List.mem_cons.mp h with rfl | h
    · exact ⟨_, List.mem_cons_self, r⟩
    · obtain ⟨x, hx, rx⟩ := paired_mem t y h
      exact ⟨x, List.mem_cons_of_mem _ hx, rx⟩
theorem getNone_run {Q : Value → Shared → Prop} (hu : A.units + 64 < cLine) (I : Inv X pins σ H s) (g : (∃ kvs, Rd H a (.dK kvs)) ∨ ∃ kvs, Rd H a (.dT kvs) ∧ Pairs kvs) (h : ∀ s', Inv X pins σ H s' → Q .none s') :
    wpAny (model X.prog X.w) A (call (.builtin "dict.get") [.ref a, .none]) Q E s := by
  rcases g with ⟨kvs, e⟩ | ⟨kvs, e, hp⟩
  · obtain ⟨_, hd, vs, _, dd⟩ := dk_rd I.hok e
    obtain ⟨f, hm, hf⟩ := none_map dd
    have kn : (noneKind X.prog X.w).is none .none = true := rfl
    refine call_meetsIn PySem.F.slot_dict_get dd.typeIs PySem.F.entry_dict_get (PySem.F.args_dict_get_2 _ _) (meets_dict_get (noneKind X.prog X.w) a kn hd) ⟨f, hm, ?_⟩
    rw [hf]
    exact h _ (I.tok _)
  · obtain ⟨_, hd, xs, rel, dd⟩ := dt_rd I.hok e
    have ty := dd.typeIs
    obtain ⟨o, es, ep, ho, _, hdt, he, his, _⟩ := dd
    refine call_meetsIn PySem.F.slot_dict_get ty PySem.F.entry_dict_get (PySem.F.args_dict_get_2 _ _) (meets_getNone hd) ⟨⟨o, es, ep, ho, hdt, fun en hen s' hs' => ?_⟩, fun t => h _ (I.tok _)⟩
    have hm : en ∈ xs.map (entryOfKey (tupleKind (mixKind X.prog X.w))) := he ▸ Array.mem_toList_iff.mpr hen
    obtain ⟨x, hx, rfl⟩ := List.mem_map.mp hm
    obtain ⟨kv, hkv, r1, r2, _⟩ := paired_mem rel x hx
    obtain ⟨i, j, ek⟩ := hp kv hkv
    have ht : H x.2.1 = some (.tup [.int i, .int j]) := by
      have z := r2
      first | (rw [ek] at z; exact z) | (rw [← r1, ek] at z; exact z)
    have d : Dp X.K H (.ref x.2.1) (.tuple [.int i, .int j]) := .tup (SqT.of ht) (.cons (.int i) (.cons (.int j) .nil))
    obtain ⟨as, rd⟩ := Dp.reads I _ _ (.ref x.2.1) d rfl
    obtain ⟨bs, rn⟩ := Dp.reads I .none .non .none .non rfl
    have key := his x hx
    refine ⟨rfl, fun E' Q' q => ?_, ?_⟩
    · refine (tupleKind (mixKind X.prog X.w)).quiet (k := x.1) ?_ q
      rw [hs']
      exact key
    · have z := SeqAt.eqAt_reads (.tuple [.int i, .int j]) .none A.in1 s' (.ref x.2.1) .none as bs (by rw [hs']; exact rd) (by rw [hs']; exact rn) rfl rfl (by
        show A.in1.units + min _ _ < cLine
        have e1 : A.in1.units = A.units + 1 := rfl
        have e2 : min (PyData.tuple [.int i, .int j]).depth PyData.none.depth ≤ (PyData.tuple [.int i, .int j]).depth := Nat.min_le_left _ _
        have e3 : (PyData.tuple [.int i, .int j]).depth = 1 := rfl
        omega)
      exact z
/-- d.get(x), x among the keys or None -/
def tGetN (td ty : TE) : TE := fun σ H Q => td σ H fun x H1 => ∃ a, x = .ref a ∧ IsD H1 a ∧ ty σ H1 fun y H2 =>
  (∃ o, DGet H2 a y o ∧ Q (o.getD .non) H2) ∨ (y = .non ∧ ((∃ kvs, Rd H2 a (.dK kvs)) ∨ ∃ kvs, Rd H2 a (.dT kvs) ∧ Pairs kvs) ∧ Q .non H2)
theorem pe_getN {o e : Expr} {apos cpos : Pos} {td ty : TE} (hu : X.A.units + 64 < cLine) (ho : PE X o td) (he : PE X e ty) (m : M1 X o "get" apos e cpos) : PE X (.Call (.Attribute o "get" apos) [e] [] cpos) (tGetN td ty) := by
  constructor
  intro pins s σ H Q I h
  refine wpAny_Call_method m.base m.few m.line PySem.F.plainAttrs_dict PySem.F.slot_dict_get PySem.F.type_dict_get (thn (ho.run pins s σ H _ I h) ?_)
  rintro u s1 ⟨x, H1, I1, rx, a, rfl, d, q1⟩
  cases rx
  obtain ⟨t1, t2, _⟩ := isD_at I1 d
  refine ⟨t1, t2, ?_⟩
  rw [m.trees]
  refine Calls.callWith_builtin rfl (Calls.evalArgs_plain (Calls.spliced_cons (thn (he.run pins s1 σ H1 _ I1 q1) ?_)))
  rintro iv s2 ⟨y, H2, I2, ry, ⟨ov, g, q2⟩ | ⟨rfl, g, q2⟩⟩
  · refine Calls.spliced_nil ?_
    exact d_get1 (by omega) I2 g ry fun w' s3 I3 rw' => ⟨_, H2, I3, rw', q2⟩
  · refine Calls.spliced_nil ?_
    cases ry
    exact getNone_run hu I2 g fun s3 I3 => ⟨V.non, H2, I3, rfl, q2⟩
end
end K27

/-! entries as values; a pattern, as it stands; numbers in a dict -/
namespace K27
open PySem PySem.Spec PyProof.Rows L2
def optV : Option Nat → V
  | none => .non
  | some n => .int (n : Int)
abbrev vals (p : List (Option Nat)) : List V := p.map optV
theorem optV_inj {a b : Option Nat} (h : optV a = optV b) : a = b := by
  cases a with
  | none => cases b with
    | none => rfl
    | some n => cases h
  | some m => cases b with
    | none => cases h
    | some n =>
      have := V.int.inj h
      rw [show m = n by omega]
theorem vals_inj {p q : List (Option Nat)} (h : vals p = vals q) : p = q := (List.map_inj_right fun _ _ z => optV_inj z).mp h
theorem vals_get {p : List (Option Nat)} {i : Nat} : (vals p)[i]? = (p[i]?).map optV := List.getElem?_map ..
theorem vals_app (p q : List (Option Nat)) : vals (p ++ q) = vals p ++ vals q := List.map_append
theorem fl_opt (o : Option Nat) : Fl (optV o) := by
  cases o with
  | none => exact .non
  | some n => exact .int _
theorem fl_vals {p : List (Option Nat)} : ∀ v ∈ vals p, Fl v := fun v hv => by
  obtain ⟨o, _, rfl⟩ := List.mem_map.mp hv
  exact fl_opt o
def datO : Option Nat → PyData
  | none => .none
  | some n => .int (n : Int)
theorem dt_opt {S : Addr → Prop} {H : Hp} (o : Option Nat) : Dt S H (optV o) (datO o) := by
  cases o with
  | none => exact .non
  | some n => exact .int _
theorem dt_vals {S : Addr → Prop} {H : Hp} : ∀ p : List (Option Nat), DtAll S H (vals p) (p.map datO)
  | [] => .nil
  | o :: p => .cons (dt_opt o) (dt_vals p)
theorem stepE_some {c k : Nat} : stepE c (optV (some k)) = if c < k then none else if k = c then some (c + 1) else some c := by
  show (if (k : Int) < 0 then none else if (c : Int) < (k : Int) then none else if (k : Int) = (c : Int) then some (c + 1) else some c) = _
  rw [if_neg (by omega)]
  by_cases h : c < k
  · rw [if_pos (by omega), if_pos h]
  · rw [if_neg (by omega), if_neg h]
    by_cases h2 : k = c
    · rw [if_pos (by omega), if_pos h2]
    · rw [if_neg (by omega), if_neg h2]
/-- what is counted is numbered -/
theorem cnt_numA : ∀ {p : List (Option Nat)} {c c' : Nat}, cnt c (vals p) = some c' → numA (List.range c) p = p
  | [], _, _, _ => rfl
  | none :: p, c, c', h => congrArg (List.cons none) (cnt_numA (p := p) h)
  | some k :: p, c, c', h => by
    have h : (match stepE c (optV (some k)) with | some d => cnt d (vals p) | none => none) = some c' := h
    rw [stepE_some] at h
    by_cases h1 : c < k
    · rw [if_pos h1] at h; cases h
    rw [if_neg h1] at h
    unfold numA
    by_cases h2 : k = c
    · rw [if_pos h2] at h
      subst h2
      have z := cnt_numA h
      rw [List.range_succ] at z
      rw [if_neg (by rw [List.mem_range]; omega), List.length_range, z]
    · rw [if_neg h2] at h
      have hk : k ∈ List.range c := List.mem_range.mpr (by omega)
      have e : (List.range c).idxOf k = k := by
        have z := idx_of hk
        obtain ⟨hl, e⟩ := List.getElem?_eq_some_iff.mp z
        rw [List.getElem_range] at e
        exact e
      rw [if_pos hk, e, cnt_numA h]
theorem pt_of_cnt {p : List (Option Nat)} {c : Nat} (h : cnt 0 (vals p) = some c) : Pt p := cnt_numA (c := 0) h
/-- numbers are counted: how many there are -/
theorem cnt_of_numA {α : Type} [DecidableEq α] : ∀ (l : List (Option α)) (met : List α), met.Nodup → ∃ c', cnt met.length (vals (numA met l)) = some c' ∧ met.length ≤ c' ∧ ∀ k, (k < met.length ∨ ∃ i : Nat, (numA met l)[i]? = some (some k)) ↔ k < c'
  | [], met, _ => ⟨met.length, rfl, Nat.le_refl _, fun k => ⟨fun h => h.elim id fun ⟨i, e⟩ => (by cases e), .inl⟩⟩
  | none :: r, met, nd => by
    obtain ⟨c', h1, h2, h3⟩ := cnt_of_numA r met nd
    refine ⟨c', h1, h2, fun k => (h3 k).symm.trans (or_congr Iff.rfl ?_) |>.symm⟩
    exact ⟨fun ⟨i, e⟩ => ⟨i + 1, e⟩, fun ⟨i, e⟩ => by
      cases i with
      | zero => cases e
      | succ i => exact ⟨i, e⟩⟩
  | some x :: r, met, nd => by
    unfold numA
    by_cases hx : x ∈ met
    · rw [if_pos hx]
      obtain ⟨c', h1, h2, h3⟩ := cnt_of_numA r met nd
      have il := List.idxOf_lt_length_of_mem hx
      refine ⟨c', ?_, h2, fun k => ?_⟩
      · show (match stepE met.length (optV (some (met.idxOf x))) with | some d => cnt d (vals (numA met r)) | none => none) = some c'
        rw [stepE_some, if_neg (by omega), if_neg (by omega)]
        exact h1
      · rw [← h3 k]
        constructor
        · rintro (h | ⟨i, e⟩)
          · exact .inl h
          · cases i with
            | zero => cases e; exact .inl il
            | succ i => exact .inr ⟨i, e⟩
        · rintro (h | ⟨i, e⟩)
          · exact .inl h
          · exact .inr ⟨i + 1, e⟩
    · rw [if_neg hx]
      have nd2 : (met ++ [x]).Nodup := by
        rw [List.nodup_append]
        refine ⟨nd, by simp, fun a ha b hb => ?_⟩
        rw [List.mem_singleton.mp hb]
        exact fun z => hx (z ▸ ha)
      obtain ⟨c', h1, h2, h3⟩ := cnt_of_numA r (met ++ [x]) nd2
      have el : (met ++ [x]).length = met.length + 1 := by simp
      rw [el] at h1 h2 h3
      refine ⟨c', ?_, by omega, fun k => ?_⟩
      · show (match stepE met.length (optV (some met.length)) with | some d => cnt d (vals (numA (met ++ [x]) r)) | none => none) = some c'
        rw [stepE_some, if_neg (Nat.lt_irrefl _), if_pos rfl]
        exact h1
      · rw [← h3 k]
        constructor
        · rintro (h | ⟨i, e⟩)
          · exact .inl (by omega)
          · cases i with
            | zero => cases e; exact .inl (by omega)
            | succ i => exact .inr ⟨i, e⟩
        · rintro (h | ⟨i, e⟩)
          · rcases Nat.lt_succ_iff_lt_or_eq.mp h with h | rfl
            · exact .inl h
            · exact .inr ⟨0, rfl⟩
          · exact .inr ⟨i + 1, e⟩
theorem cnt_num {α : Type} [DecidableEq α] (l : List (Option α)) : ∃ c, cnt 0 (vals (num l)) = some c := by
  obtain ⟨c, h, _⟩ := cnt_of_numA l [] List.nodup_nil
  exact ⟨c, h⟩
theorem Pt.cnt {p : List (Option Nat)} (h : Pt p) : ∃ c, K27.cnt 0 (vals p) = some c := by
  obtain ⟨c, e⟩ := cnt_num p
  rw [h] at e
  exact ⟨c, e⟩
theorem Pt.classes {p : List (Option Nat)} {c : Nat} (h : Pt p) (e : K27.cnt 0 (vals p) = some c) : ∀ k, (∃ i : Nat, p[i]? = some (some k)) ↔ k < c := by
  obtain ⟨c', h1, _, h3⟩ := cnt_of_numA p [] List.nodup_nil
  have e2 : numA [] p = p := h
  rw [e2] at h1 h3
  have h1 : K27.cnt 0 (vals p) = some c' := h1
  rw [e] at h1
  cases h1
  intro k
  rw [← h3 k]
  exact ⟨.inr, fun z => z.elim (fun y => absurd y (Nat.not_lt_zero _)) id⟩
/-- a pattern of these entries stands at x -/
def PatAt (CP : Addr) (H : Hp) (x : Addr) (p : List (Option Nat)) : Prop := ∃ (dx t : Addr) (c : Nat), H x = some (.ins CP dx (patO t c)) ∧ H t = some (.tup (vals p)) ∧ p.length ≤ 40 ∧ cnt 0 (vals p) = some c
theorem PatAt.same {CP : Addr} {H H' : Hp} {x : Addr} {p : List (Option Nat)} (h : PatAt CP H x p) (s : ∀ b o, H b = some o → (∀ ps, o ≠ .tbl ps) → H' b = some o) : PatAt CP H' x p := by
  obtain ⟨dx, t, c, h1, h2, h3⟩ := h
  exact ⟨dx, t, c, s _ _ h1 (fun ps z => by cases z), s _ _ h2 (fun ps z => by cases z), h3⟩
theorem PatAt.sm {CP : Addr} {H H' : Hp} {x : Addr} {p : List (Option Nat)} (h : PatAt CP H x p) (s : Same H H') : PatAt CP H' x p := h.same fun b o e _ => s b o e
theorem PatAt.pt {CP : Addr} {H : Hp} {x : Addr} {p : List (Option Nat)} (h : PatAt CP H x p) : Pt p := by
  obtain ⟨_, _, _, _, _, _, e⟩ := h
  exact pt_of_cnt e
theorem PatAt.len {CP : Addr} {H : Hp} {x : Addr} {p : List (Option Nat)} (h : PatAt CP H x p) : p.length ≤ 40 := by
  obtain ⟨_, _, _, _, _, e, _⟩ := h
  exact e
/-! ### met things and their numbers, in a dict -/
section
variable {α κ : Type} [DecidableEq α] [DecidableEq κ]
def encM (f : α → κ) : Nat → List α → List (κ × V)
  | _, [] => []
  | n, x :: r => (f x, .int (n : Int)) :: encM f (n + 1) r
theorem encM_len (f : α → κ) : ∀ (n : Nat) (l : List α), (encM f n l).length = l.length
  | _, [] => rfl
  | n, x :: r => congrArg Nat.succ (encM_len f (n + 1) r)
theorem encM_app (f : α → κ) (x : α) : ∀ (n : Nat) (l : List α), encM f n (l ++ [x]) = encM f n l ++ [(f x, V.int ((n + l.length : Nat) : Int))]
  | n, [] => rfl
  | n, y :: r => by
    show (f y, V.int (n : Int)) :: encM f (n + 1) (r ++ [x]) = _
    rw [encM_app f x (n + 1) r]
    show _ = (f y, V.int (n : Int)) :: (encM f (n + 1) r ++ [(f x, V.int ((n + (r.length + 1) : Nat) : Int))])
    rw [show n + 1 + r.length = n + (r.length + 1) by omega]
theorem valV_encM {f : α → κ} (inj : ∀ a b, f a = f b → a = b) (x : α) : ∀ (n : Nat) (l : List α), valV (encM f n l) (f x) = if x ∈ l then some (V.int ((n + l.idxOf x : Nat) : Int)) else none
  | n, [] => rfl
  | n, y :: r => by
    show valV ((f y, V.int (n : Int)) :: encM f (n + 1) r) (f x) = _
    by_cases h : y = x
    · subst h
      rw [valV_pos rfl, if_pos List.mem_cons_self, List.idxOf_cons_self]
      rfl
    · rw [valV_neg (fun z => h (inj _ _ z)), valV_encM inj x (n + 1) r]
      by_cases h2 : x ∈ r
      · have e : (y :: r).idxOf x = r.idxOf x + 1 := by
          rw [List.idxOf_cons, beq_false_of_ne h]
          rfl
        rw [if_pos h2, if_pos (List.mem_cons_of_mem _ h2), e]
        rw [show n + 1 + r.idxOf x = n + (r.idxOf x + 1) by omega]
      · rw [if_neg h2, if_neg (by rw [List.mem_cons]; exact fun z => z.elim (fun e => h e.symm) h2)]
theorem putK_encM {f : α → κ} (inj : ∀ a b, f a = f b → a = b) {x : α} {l : List α} (h : ¬ x ∈ l) : putK (encM f 0 l) (f x) (V.int (l.length : Int)) = encM f 0 (l ++ [x]) := by
  rw [putK_new _ (by rw [valV_encM inj, if_neg h]), encM_app, Nat.zero_add]
end
/-- one more is numbered -/
def metN {α : Type} [DecidableEq α] (met : List α) : Option α → List α
  | none => met
  | some x => if x ∈ met then met else met ++ [x]
def oneN {α : Type} [DecidableEq α] (met : List α) : Option α → Option Nat
  | none => none
  | some x => if x ∈ met then some (met.idxOf x) else some met.length
theorem numA_cons {α : Type} [DecidableEq α] (met : List α) (o : Option α) (r : List (Option α)) : numA met (o :: r) = oneN met o :: numA (metN met o) r := by
  cases o with
  | none => rfl
  | some x =>
    by_cases h : x ∈ met
    · have e1 : oneN met (some x) = some (met.idxOf x) := if_pos h
      have e2 : metN met (some x) = met := if_pos h
      rw [e1, e2]
      show (if x ∈ met then some (met.idxOf x) :: numA met r else some met.length :: numA (met ++ [x]) r) = _
      rw [if_pos h]
    · have e1 : oneN met (some x) = some met.length := if_neg h
      have e2 : metN met (some x) = met ++ [x] := if_neg h
      rw [e1, e2]
      show (if x ∈ met then some (met.idxOf x) :: numA met r else some met.length :: numA (met ++ [x]) r) = _
      rw [if_neg h]
theorem metN_len {α : Type} [DecidableEq α] (met : List α) (o : Option α) : (metN met o).length ≤ met.length + 1 := by
  cases o with
  | none => exact Nat.le_succ _
  | some x =>
    show (if x ∈ met then met else met ++ [x]).length ≤ _
    split
    · exact Nat.le_succ _
    · rw [List.length_append]
      exact Nat.le_refl _
theorem get_met {α κ : Type} [DecidableEq α] [DecidableEq κ] {f : α → κ} (inj : ∀ a b, f a = f b → a = b) (met : List α) (x : α) : valV (encM f 0 (metN met (some x))) (f x) = some (optV (oneN met (some x))) := by
  rw [valV_encM inj]
  by_cases h : x ∈ met
  · have e1 : oneN met (some x) = some (met.idxOf x) := if_pos h
    have e2 : metN met (some x) = met := if_pos h
    rw [e1, e2, if_pos h, Nat.zero_add]
    rfl
  · have e1 : oneN met (some x) = some met.length := if_neg h
    have e2 : metN met (some x) = met ++ [x] := if_neg h
    rw [e1, e2, if_pos (List.mem_append.mpr (.inr List.mem_cons_self)), List.idxOf_append, if_neg h, List.idxOf_cons_self]
    show some (V.int ((0 + (0 + met.length) : Nat) : Int)) = some (V.int (met.length : Int))
    rw [Nat.zero_add, Nat.zero_add]
theorem drop_cons' {α : Type} {xs : List α} {i : Nat} {v : α} (h : xs[i]? = some v) : xs.drop i = v :: xs.drop (i + 1) := by
  obtain ⟨hi, e⟩ := List.getElem?_eq_some_iff.mp h
  rw [List.drop_eq_getElem_cons hi, e]
theorem take_snoc' {α : Type} {xs : List α} {i : Nat} {v : α} (h : xs[i]? = some v) : xs.take (i + 1) = xs.take i ++ [v] := by
  rw [List.take_add_one, h]
  rfl
/-- one turn -/
theorem num_turn {α : Type} [DecidableEq α] {l : List (Option α)} {met : List α} {i : Nat} {o : Option α} (e : numA met (l.drop i) = (num l).drop i) (h : l[i]? = some o) : (num l)[i]? = some (oneN met o) ∧ numA (metN met o) (l.drop (i + 1)) = (num l).drop (i + 1) := by
  rw [drop_cons' h, numA_cons] at e
  have e1 := congrArg (fun z => z[0]?) e
  have e2 := congrArg (fun z => z.drop 1) e
  refine ⟨?_, ?_⟩
  · have z : ((num l).drop i)[0]? = (num l)[i]? := by simp
    rw [← z]
    exact e1.symm
  · have z : ((num l).drop i).drop 1 = (num l).drop (i + 1) := by rw [List.drop_drop]
    rw [← z]
    exact e2
end K27

/-! whole numbers, names -/
namespace K27
open PySem PySem.Spec PyProof.Rows L2
def wholeV (v : V) (lo hi : Int) : Bool := match v with
  | .int i => decide (lo ≤ i) && decide (i ≤ hi)
  | _ => false
def spWhole : Sp := fun vs H Q _ => ∃ (v : V) (t : String) (lo hi : Int), vs = [v, .int lo, .int hi] ∧ Odd H v t ∧ Q (.bl (wholeV v lo hi)) H
section
variable {P : Program} {w : World} {K : PySem.W.Frag} {mg : Str → Option Value} {base : Heap}
theorem scWhole : FnScope ["thing", "low", "high"] ["thing", "low", "high"] (defScope sPIsWhole) := ⟨rfl, rfl, rfl, by decide +kernel, rfl, by decide +kernel, by decide +kernel⟩
theorem ok_whole {f : Addr} {fd : FuncData} (F : FnP K "is_whole" sPIsWhole f fd) (zi : mg "int" = none) (zb : mg "bool" = none) (zs : mg "isinstance" = none) : FnOk P w K mg base CX0 1 f fd ["thing", "low", "high"] spWhole := by
  refine F.ok scWhole (fun vs H Q E h => ?_) (fun cdv A outer s H vs Q E hr h => ?_)
  · obtain ⟨v, t, lo, hi, rfl, _⟩ := h
    rfl
  · obtain ⟨v, t, lo, hi, rfl, o, q⟩ := h
    refine ⟨_, PSs.nox (pss_one (ps_ret (pe_and (pe_callB call_isi (by rfl) zs (by decide +kernel) (pa_cons (pv 0) (pa_cons (pe_bltn (by rfl) zi (by decide +kernel) (v := .ty "int") rfl) pa_nil)))
      (pe_and (pe_not (pe_callB call_isi (by rfl) zs (by decide +kernel) (pa_cons (pv 0) (pa_cons (pe_bltn (by rfl) zb (by decide +kernel) (v := .ty "bool") rfl) pa_nil)))) (pe_one (pe_chain op_le op_le (pv 1) (pv 0) (pv 2))))))), ?_⟩
    have ty := o.ty (K := K)
    cases o with
    | int i =>
      refine ⟨_, rfl, _, _, _, _, true, rfl, .ty _, ty, kit_ty (by decide +kernel), _, rfl, iteT ⟨_, rfl, _, _, _, _, false, rfl, .ty _, ty, kit_ty (by decide +kernel), _, rfl, _, rfl, iteT ⟨_, rfl, _, rfl, _, _, rfl, rfl, _, rfl, ?_⟩⟩⟩
      have e : wholeV (.int i) lo hi = (decide (lo ≤ i) && decide (i ≤ hi)) := rfl
      rw [e] at q
      refine ite2 (fun h => ?_) (fun h => ?_)
      · rw [h, Bool.true_and] at q
        exact ⟨_, rfl, _, _, rfl, rfl, q⟩
      · rw [Bool.eq_false_iff.mpr h, Bool.false_and] at q
        exact q
    | bl b => exact ⟨_, rfl, _, _, _, _, true, rfl, .ty _, ty, kit_ty (by decide +kernel), _, rfl, iteT ⟨_, rfl, _, _, _, _, true, rfl, .ty _, ty, kit_ty (by decide +kernel), _, rfl, _, rfl, iteF q⟩⟩
    | _ => exact ⟨_, rfl, _, _, _, _, false, rfl, .ty _, ty, kit_ty (by decide +kernel), _, rfl, iteF q⟩
/-! ### names, kinds, sequences -/
def spName : Sp := fun vs H Q _ => ∃ (v : V) (t : String), vs = [v] ∧ Odd H v t ∧ Q (.bl (wholeV v 0 (10 ^ 30))) H
theorem scName : FnScope ["thing"] ["thing"] (defScope sPIsName) := ⟨rfl, rfl, rfl, by decide +kernel, rfl, by decide +kernel, by decide +kernel⟩
theorem ok_name {f fW : Addr} {fd fdW : FuncData} (F : FnP K "is_name" sPIsName f fd) (GW : FnOk P w K mg base CX0 1 fW fdW ["thing", "low", "high"] spWhole) (bW : Binds K fdW ["thing", "low", "high"] []) (kW : PySem.W.keepIn K (.ref fW) = true) (gW : mg "is_whole" = some (.ref fW))
    (gN : ∃ t, mg "MOST_NAME" = some (.int (10 ^ 30) t)) : FnOk P w K mg base CX0 2 f fd ["thing"] spName := by
  obtain ⟨tk, gN⟩ := gN
  refine F.ok scName (fun vs H Q E h => ?_) (fun cdv A outer s H vs Q E hr h => ?_)
  · obtain ⟨v, t, rfl, _⟩ := h
    rfl
  · obtain ⟨v, t, rfl, o, q⟩ := h
    refine ⟨_, PSs.nox (pss_one (ps_ret (pe_call GW hr (by rfl) gW kW bW .nil pass0 (pa_cons (pv 0) (pa_cons pe_int (pa_cons (pe_glob (by rfl) gN (v := .int (10 ^ 30)) ⟨_, rfl⟩) pa_nil)))))), ?_⟩
    exact ⟨_, rfl, v, t, 0, _, rfl, o, q⟩
end
end K27

/-! rows of names, checked -/
namespace K27
open PySem PySem.Spec PyProof.Rows L2
abbrev sNmErr : Stmt := inClass (top 4) 0
abbrev sNoErr : Stmt := inClass (top 6) 0
/-- what is handed as names -/
inductive Ns (H : Hp) : V → List V → Bool → Prop where
  | seq {a : Addr} {xs : List V} (h : Sq H a xs) (hl : xs.length ≤ 1000) (od : ∀ x ∈ xs, ∃ t, Odd H x t) : Ns H (.ref a) xs true
  | bad {v : V} {t : String} (o : Odd H v t) (ns : seqT t = false) : Ns H v [] false
theorem Ns.same {H H' : Hp} {v : V} {xs : List V} {b : Bool} (n : Ns H v xs b) (s : Same H H') : Ns H' v xs b := by
  cases n with
  | seq h hl od => exact .seq (h.same s) hl fun x hx => let ⟨t, o⟩ := od x hx; ⟨t, o.same s⟩
  | bad o ns => exact .bad (o.same s) ns
abbrev nameV (v : V) : Bool := wholeV v 0 (10 ^ 30)
def badAt (i : Nat) : List V → Option (Nat × Str)
  | [] => none
  | x :: xs => if x = .non ∨ nameV x = true then badAt (i + 1) xs else some (i, "name")
def nf (xs : List V) (b : Bool) : Option (Nat × Str) := if b = true ∧ xs.length ≤ 40 then badAt 0 xs else some (0, "names")
def spCN (CN : Addr) : Sp := fun vs H Q E => ∃ (v : V) (xs : List V) (b : Bool), vs = [v] ∧ Ns H v xs b ∧ (nf xs b = none → ∀ H', Same H H' → Q .non H') ∧
  ∀ i z, nf xs b = some (i, z) → ∀ (H' : Hp) (d : Addr), H d = none → H' d = some (.xd (patF (i : Nat) z)) → Same H H' → E (.ref CN) (some d) H'
section
variable {P : Program} {w : World} {K : PySem.W.Frag} {mg : Str → Option Value} {base : Heap}
theorem ok_nmErr {f C : Addr} {fd : FuncData} (F : FunD K "__init__" "BadNames.__init__" (defArgs sNmErr) (defBody sNmErr) (defScope sNmErr) [] [] f fd) (T : OexC K C) (n0 : NoF K C "index") (n1 : NoF K C "what") :
    FnOk P w K mg base CX0 1 f fd ["self", "index", "what"] (spPatErr C) := by
  have sc : FnScope ["self", "index", "what"] ["self", "index", "what"] (defScope sNmErr) := ⟨rfl, rfl, rfl, by decide +kernel, rfl, by decide +kernel, by decide +kernel⟩
  refine F.ok sc (fun vs H Q E h => ?_) (fun cdv A outer s H vs Q E hr h => ?_)
  · obtain ⟨a, i, x, rfl, _⟩ := h
    rfl
  · obtain ⟨a, i, x, rfl, ea, q⟩ := h
    refine ⟨_, PSs.nox (pss_cons (ps_ost (pv 0) (pv 1)) (pss_one (ps_ost (pv 0) (pv 2)))), ?_⟩
    refine ⟨_, rfl, _, rfl, a, C, rfl, T, n0, .inl ⟨ea, fun d nd ne => ?_⟩⟩
    refine ⟨_, rfl, _, rfl, a, C, rfl, T, n1, .inr ⟨d, _, upd_same, Eq.trans (upd_ne ne) upd_same, (by show 1 ≤ 900; decide), ?_⟩⟩
    exact q _ d nd (Eq.trans (upd_ne (Ne.symm ne)) upd_same) upd_same (keep_dict nd (keep_new nd))
/-- the error is laid -/
theorem fail_nm {CN : Addr} {H H0 : Hp} {i : Nat} {z : Str} {E : XK} (q0 : ∀ (H' : Hp) (d : Addr), H d = none → H' d = some (.xd (patF (i : Nat) z)) → Same H H' → E (.ref CN) (some d) H') (s0 : Same H H0) :
    ∀ av, H0 av = none → spPatErr CN [.ref av, .int (i : Int), .str z] (upd H0 av (exo av CN none)) (fun v H3 => v = .non ∧ ∃ dd fs, H3 av = some (exo av CN (some dd)) ∧ H3 dd = some (exd dd fs) ∧ H0 dd = none ∧ E (.ref CN) (some dd) (upd (del H3 av) dd (.xd fs))) E0 := fun av nav =>
      ⟨av, i, z, rfl, upd_same, fun H3 dd nd3 ha3 hd3 kp => ⟨rfl, dd, _, ha3, hd3, none_of (same_upd nav) nd3, q0 _ dd (none_of s0 (none_of (same_upd nav) nd3)) upd_same fun y' o' e' => by
        have e2 := s0 _ _ e'
        rw [upd_ne (ne_of_none e2 (none_of (same_upd nav) nd3)), del_ne (ne_of_none e2 nav)]
        exact kp _ _ (ne_of_none e2 nav) (same_upd nav _ _ e2)⟩⟩
theorem ok_cn {f fS fN fX CN : Addr} {fd fdS fdN fdX : FuncData} (F : FnP K "check_names" sPCheckNames f fd) (z_len : mg "len" = none) (z_enumerate : mg "enumerate" = none) (g_MOST_PLACES : ∃ t, mg "MOST_PLACES" = some (.int 40 t)) (dS : Df P w K mg base "is_sequence" 1 ["thing"] spSeq fS fdS)
    (dNm : Df P w K mg base "is_name" 2 ["thing"] spName fN fdN) (X : ErrC P w K mg base "BadNames" ["self", "index", "what"] spPatErr CN fX fdX) : FnOk P w K mg base (L2.CX P w) 3 f fd ["names"] (spCN CN) := by
  obtain ⟨tk, g_MOST_PLACES⟩ := g_MOST_PLACES
  have sc : FnScope ["names", "index", "name"] ["names"] (defScope sPCheckNames) := ⟨rfl, rfl, rfl, by decide +kernel, rfl, by decide +kernel, by decide +kernel⟩
  refine F.ok sc (fun vs H Q E h => ?_) (fun cdv A outer s H vs Q E hr2 h => ?_)
  · obtain ⟨v, xs, b, rfl, _⟩ := h
    rfl
  · obtain ⟨v, xs, b, rfl, nm, q1, q0⟩ := h
    have hr1 := hr2.mono (show 1 ≤ 2 by decide)
    refine ⟨_, (pss_cons (ps_if (PW.pt (pw_or (pt_not (pt_val (pe_call dS.ok hr1 (by rfl) dS.gl dS.kp dS.bi .nil pass0 (pa_cons (pv 0) pa_nil)))) (pw_or1 (pt_cmpR op_gt (pe_callB call_len_seq (by rfl) z_len boot_len (pa_cons (pv 0) pa_nil)) (pe_glob (by rfl) g_MOST_PLACES (v := .int 40) ⟨_, rfl⟩) (nomark _)))))
      (pss_one (ps_raise rfl (takes_of rfl rfl rfl rfl) (pmk_oex X.cl X.ini X.ty X.ok hr2 X.bi .nil pass0 (by rfl) X.gl (pa_cons pe_int (pa_cons pe_str pa_nil)))))
      pss_nil)
    (pss_one (ps_for PassesOwn.leaving rfl (pi_or (pi_enum (by rfl) z_enumerate (pa_cons (pv 0) pa_nil)) (pi_enumT (by rfl) z_enumerate (pa_cons (pv 0) pa_nil) rfl)) (pg_tup (by rfl) (pgs_cons (pg_name (i := 1) sc.nd rfl (.inl rfl)) (pgs_cons (pg_name (i := 2) sc.nd rfl (.inl rfl)) pgs_nil)))
      (pss_one (ps_if (PW.pt (pw_and (pt_cmpR op_notN (pv 2) pe_non (nomark _)) (pw_and1 (pt_not (pt_val (pe_call dNm.ok hr2 (by rfl) dNm.gl dNm.kp dNm.bi .nil pass0 (pa_cons (pv 2) pa_nil)))))))
        (pss_one (ps_raise rfl (takes_of rfl rfl rfl rfl) (pmk_oex X.cl X.ini X.ty X.ok hr2 X.bi .nil pass0 (by rfl) X.gl (pa_cons (pv 1) (pa_cons pe_str pa_nil)))))
        pss_nil))))), ?_⟩
    cases nm with
    | bad o ns =>
      refine ⟨_, rfl, _, _, rfl, o, fun u nu => ?_⟩
      rw [ns]
      exact ⟨_, rfl, iteT (iteT ⟨(by show 2 ≤ 1000; decide), fun av nav => fail_nm (i := 0) (q0 0 _ rfl) (same_upd nu) av nav⟩)⟩
    | @seq a xs h hl od =>
      obtain ⟨t, o, hs⟩ := h.odd
      refine ⟨_, rfl, _, _, rfl, o, fun u nu => ?_⟩
      rw [hs]
      refine ⟨_, rfl, iteF ?_⟩
      have su := same_upd (o := .tup [.ty "list", .ty "tuple"]) nu
      have h1 := h.same su
      generalize upd H u (.tup [.ty "list", .ty "tuple"]) = H0 at su h1 ⊢
      refine ⟨_, rfl, _, _, rfl, h1.or, _, _, rfl, rfl, _, rfl, ?_⟩
      by_cases h40 : xs.length ≤ 40
      · rw [decide_eq_false (show ¬ (40 : Int) < (xs.length : Int) by omega)]
        refine iteF ?_
        dsimp only [tNext]
        unfold nf at q1 q0
        rw [if_pos ⟨rfl, h40⟩] at q1 q0
        refine enum_any (fun Q q => ⟨_, rfl, q⟩) h1 fun it G wk keep => for_it wk (fun i σ H' => ∃ (x1 x2 : Option V), σ = [some (.ref a), x1, x2] ∧ badAt i (xs.drop i) = badAt 0 xs ∧ Same H0 H')
          ⟨none, none, rfl, by rw [List.drop_zero], Same.refl _⟩ (fun i σ H' _ ⟨_, _, _, _, s⟩ => keep _ (Same.kp s)) ?_ ?_
        · rintro i x σ H1 H2 hi ⟨x1, x2, rfl, hc, sm⟩ ⟨T, u', v, rfl, nT, rfl, eu, ev⟩
          obtain rfl : u' = .int (i : Int) := (Option.some.inj eu).symm
          obtain ⟨tv, ov⟩ := od v (List.mem_of_getElem? ev)
          have ev : xs[i]? = some v := ev
          rw [drop_cons' ev] at hc
          have hc : (if v = .non ∨ nameV v = true then badAt (i + 1) (xs.drop (i + 1)) else some (i, "name")) = badAt 0 xs := hc
          have sT := sm.trans (same_upd (o := .tup [.int (i : Int), v]) nT)
          have sH := su.trans sT
          refine ⟨T, _, rfl, .inl (.inl upd_same), rfl, _, _, rfl, _, _, rfl, rfl, ?_⟩
          generalize upd H1 T (.tup [.int (i : Int), v]) = H3 at sT sH ⊢
          refine ⟨_, rfl, rfl, _, rfl, ?_⟩
          by_cases hv : v = .non
          · rw [decide_eq_true hv]
            rw [if_pos (.inl hv)] at hc
            exact iteF (iteF ⟨_, _, rfl, hc, sT⟩)
          · rw [decide_eq_false hv]
            refine iteT ⟨_, rfl, v, tv, rfl, ov.same sH, ?_⟩
            cases hn : wholeV v 0 (10 ^ 30) with
            | true =>
              rw [if_pos (.inr hn)] at hc
              exact ⟨_, rfl, iteF ⟨_, _, rfl, hc, sT⟩⟩
            | false =>
              rw [if_neg (fun z => z.elim hv fun y => by rw [show nameV v = false from hn] at y; cases y)] at hc
              exact ⟨_, rfl, iteT ⟨_, rfl, (by show 2 ≤ 1000; decide), fun av nav => fail_nm (q0 i _ hc.symm) sH av nav⟩⟩
        · rintro σ H1 ⟨x1, x2, rfl, hc, sm⟩
          rw [List.drop_of_length_le (Nat.le_refl _)] at hc
          exact q1 hc.symm H1 (su.trans sm)
      · rw [decide_eq_true (show (40 : Int) < (xs.length : Int) by omega)]
        unfold nf at q0
        rw [if_neg (fun z => h40 z.2)] at q0
        exact iteT ⟨(by show 2 ≤ 1000; decide), fun av nav => fail_nm (i := 0) (q0 0 _ rfl) su av nav⟩
end
end K27

/-! rows of unlike names, checked -/
namespace K27
open PySem PySem.Spec PyProof.Rows L2
theorem tNext_of {D : Ends} {σ : L2.St} {H : Hp} (h : D.nx σ H) : tNext D σ H := h
def badU (pre : List V) : List V → Option (Nat × Str)
  | [] => none
  | x :: xs => if nameV x = true then (if inV x pre = true then some (pre.length, "double") else badU (pre ++ [x]) xs) else some (pre.length, "name")
def uf (xs : List V) : Option (Nat × Str) := if xs.length ≤ 40 then badU [] xs else some (0, "names")
def spCU (CN : Addr) : Sp := fun vs H Q E => ∃ (a : Addr) (xs : List V), vs = [.ref a] ∧ H a = some (.lst xs) ∧ xs.length ≤ 1000 ∧ (∀ x ∈ xs, ∃ t, Odd H x t) ∧ (uf xs = none → ∀ H', Same H H' → Q .non H') ∧
  ∀ i z, uf xs = some (i, z) → ∀ (H' : Hp) (d : Addr), H d = none → H' d = some (.xd (patF (i : Nat) z)) → Same H H' → E (.ref CN) (some d) H'
theorem name_flat {v : V} (h : nameV v = true) : flatV v = true := by
  cases v with
  | int i => rfl
  | _ => cases h
theorem cut_to (vs : List V) (k : Nat) (h : k ≤ vs.length) : cutV vs none (some (k : Int)) = vs.take k := by
  show (vs.drop 0).take (HT.sIx vs.length vs.length (some (k : Int)) - 0) = _
  rw [List.drop_zero, HT.sIx_nat, Nat.min_eq_left h]
  rfl
theorem cut_from (vs : List V) (k : Nat) (h : k ≤ vs.length) : cutV vs (some (k : Int)) none = vs.drop k := by
  show (vs.drop (HT.sIx vs.length 0 (some (k : Int)))).take (vs.length - HT.sIx vs.length 0 (some (k : Int))) = _
  rw [HT.sIx_nat, Nat.min_eq_left h]
  exact List.take_of_length_le (by rw [List.length_drop]; exact Nat.le_refl _)
section
variable {P : Program} {w : World} {K : PySem.W.Frag} {mg : Str → Option Value} {base : Heap}
theorem ok_cu {f fS fN fX CN : Addr} {fd fdS fdN fdX : FuncData} (F : FnP K "check_unlike_names" sPCheckUnlikeNames f fd) (z_len : mg "len" = none) (z_enumerate : mg "enumerate" = none) (g_MOST_PLACES : ∃ t, mg "MOST_PLACES" = some (.int 40 t)) (dS : Df P w K mg base "is_sequence" 1 ["thing"] spSeq fS fdS)
    (dNm : Df P w K mg base "is_name" 2 ["thing"] spName fN fdN) (X : ErrC P w K mg base "BadNames" ["self", "index", "what"] spPatErr CN fX fdX) : FnOk P w K mg base (L2.CX P w) 3 f fd ["names"] (spCU CN) := by
  obtain ⟨tk, g_MOST_PLACES⟩ := g_MOST_PLACES
  have sc : FnScope ["names", "index", "name"] ["names"] (defScope sPCheckUnlikeNames) := ⟨rfl, rfl, rfl, by decide +kernel, rfl, by decide +kernel, by decide +kernel⟩
  refine F.ok sc (fun vs H Q E h => ?_) (fun cdv A outer s H vs Q E hr2 h => ?_)
  · obtain ⟨a, xs, rfl, _⟩ := h
    rfl
  · obtain ⟨a, xs, rfl, h, hl, od, q1, q0⟩ := h
    have hr1 := hr2.mono (show 1 ≤ 2 by decide)
    refine ⟨_, (pss_cons (ps_if (PW.pt (pw_or (pt_not (pt_val (pe_call dS.ok hr1 (by rfl) dS.gl dS.kp dS.bi .nil pass0 (pa_cons (pv 0) pa_nil)))) (pw_or1 (pt_cmpR op_gt (pe_callB call_len_seq (by rfl) z_len boot_len (pa_cons (pv 0) pa_nil)) (pe_glob (by rfl) g_MOST_PLACES (v := .int 40) ⟨_, rfl⟩) (nomark _)))))
      (pss_one (ps_raise rfl (takes_of rfl rfl rfl rfl) (pmk_oex X.cl X.ini X.ty X.ok hr2 X.bi .nil pass0 (by rfl) X.gl (pa_cons pe_int (pa_cons pe_str pa_nil)))))
      pss_nil)
    (pss_one (ps_for PassesOwn.leaving rfl (pi_enum (by rfl) z_enumerate (pa_cons (pv 0) pa_nil)) (pg_tup (by rfl) (pgs_cons (pg_name (i := 1) sc.nd rfl (.inl rfl)) (pgs_cons (pg_name (i := 2) sc.nd rfl (.inl rfl)) pgs_nil)))
      (pss_cons (ps_if (pt_not (pt_val (pe_call dNm.ok hr2 (by rfl) dNm.gl dNm.kp dNm.bi .nil pass0 (pa_cons (pv 2) pa_nil))))
        (pss_one (ps_raise rfl (takes_of rfl rfl rfl rfl) (pmk_oex X.cl X.ini X.ty X.ok hr2 X.bi .nil pass0 (by rfl) X.gl (pa_cons (pv 1) (pa_cons pe_str pa_nil)))))
        pss_nil)
      (pss_one (ps_if (pt_cmpR op_in_seq (pv 2) (pe_slice sl_list (pv 0) po_none (po_some (pv 1))) (by rfl))
        (pss_one (ps_raise rfl (takes_of rfl rfl rfl rfl) (pmk_oex X.cl X.ini X.ty X.ok hr2 X.bi .nil pass0 (by rfl) X.gl (pa_cons (pv 1) (pa_cons pe_str pa_nil)))))
        pss_nil)))))), ?_⟩
    refine ⟨_, rfl, _, _, rfl, .lst h, fun u nu => ?_⟩
    refine ⟨_, rfl, iteF ?_⟩
    have su := same_upd (o := .tup [.ty "list", .ty "tuple"]) nu
    have h1 := su _ _ h
    generalize upd H u (.tup [.ty "list", .ty "tuple"]) = H0 at su h1 ⊢
    refine ⟨_, rfl, _, _, rfl, .inl (SqL.of h1), _, _, rfl, rfl, _, rfl, ?_⟩
    by_cases h40 : xs.length ≤ 40
    · rw [decide_eq_false (show ¬ (40 : Int) < (xs.length : Int) by omega)]
      refine iteF ?_
      dsimp only [tNext]
      unfold uf at q1 q0
      rw [if_pos h40] at q1 q0
      refine ⟨_, rfl, a, _, rfl, SqL.of h1, ?_⟩
      refine for_it walk_enum (fun i σ H' => ∃ (x1 x2 : Option V), σ = [some (.ref a), x1, x2] ∧ badU (xs.take i) (xs.drop i) = badU [] xs ∧ (∀ x ∈ xs.take i, nameV x = true) ∧ Same H0 H')
        ⟨none, none, rfl, by rw [List.drop_zero]; rfl, (fun x hx => by cases hx), Same.refl _⟩ (fun i σ H' _ ⟨_, _, _, _, _, s⟩ => SqL.of (s _ _ h1)) ?_ ?_
      · rintro i x σ H1 H2 hi ⟨x1, x2, rfl, hc, hall, sm⟩ ⟨T, u', v, rfl, nT, rfl, eu, ev⟩
        obtain rfl : u' = .int (i : Int) := (Option.some.inj eu).symm
        obtain ⟨tv, ov⟩ := od v (List.mem_of_getElem? ev)
        have ev : xs[i]? = some v := ev
        have il := (List.getElem?_eq_some_iff.mp ev).1
        have tl : (xs.take i).length = i := by rw [List.length_take]; omega
        rw [drop_cons' ev] at hc
        have hc : (if nameV v = true then (if inV v (xs.take i) = true then some ((xs.take i).length, ("double" : Str)) else badU (xs.take i ++ [v]) (xs.drop (i + 1))) else some ((xs.take i).length, ("name" : Str))) = badU [] xs := hc
        rw [tl] at hc
        have sT := sm.trans (same_upd (o := .tup [.int (i : Int), v]) nT)
        have sH := su.trans sT
        refine ⟨T, _, rfl, .inl (.inl upd_same), rfl, _, _, rfl, _, _, rfl, rfl, ?_⟩
        generalize upd H1 T (.tup [.int (i : Int), v]) = H3 at sT sH ⊢
        refine ⟨_, rfl, v, tv, rfl, ov.same sH, ?_⟩
        cases hn : wholeV v 0 (10 ^ 30) with
        | false =>
          rw [if_neg (fun z => by rw [show nameV v = false from hn] at z; cases z)] at hc
          exact ⟨_, rfl, iteT ⟨_, rfl, (by show 2 ≤ 1000; decide), fun av nav => fail_nm (q0 i _ hc.symm) sH av nav⟩⟩
        | true =>
          rw [if_pos hn] at hc
          refine ⟨_, rfl, iteF (tNext_of ?_)⟩
          refine ⟨_, rfl, _, rfl, _, rfl, _, rfl, a, _, rfl, SqL.of (sT _ _ h1), fun p np => ?_⟩
          rw [cut_to _ _ (Nat.le_of_lt il)]
          have sp := same_upd (o := .lst (xs.take i)) np
          refine ⟨p, _, rfl, .inl (SqL.of upd_same), name_flat hn, by rw [List.all_eq_true]; exact fun y hy => name_flat (hall y hy), _, rfl, ?_⟩
          show if inV v (xs.take i) = true then _ else _
          cases hin : inV v (xs.take i) with
          | true =>
            rw [if_pos hin] at hc
            exact iteT ⟨_, rfl, (by show 2 ≤ 1000; decide), fun av nav => fail_nm (q0 i _ hc.symm) (sH.trans sp) av nav⟩
          | false =>
            rw [if_neg (by rw [hin]; exact Bool.false_ne_true), ← take_snoc' ev] at hc
            refine iteF ⟨_, _, rfl, hc, fun y hy => ?_, sT.trans sp⟩
            rw [take_snoc' ev] at hy
            rcases List.mem_append.mp hy with hy | hy
            · exact hall y hy
            · rw [List.mem_singleton.mp hy]
              exact hn
      · rintro σ H1 ⟨x1, x2, rfl, hc, _, sm⟩
        rw [List.drop_of_length_le (Nat.le_refl _)] at hc
        exact q1 hc.symm H1 (su.trans sm)
    · rw [decide_eq_true (show (40 : Int) < (xs.length : Int) by omega)]
      unfold uf at q0
      rw [if_neg h40] at q0
      exact iteT ⟨(by show 2 ≤ 1000; decide), fun av nav => fail_nm (i := 0) (q0 0 _ rfl) su av nav⟩
end
end K27

/-! promises that hold where no text of a list is under way; repr of a list, of a tuple -/
namespace GrdX
open PySem PySem.Spec PyProof.Rows L2
/-- no repr of a container is under way -/
def Bare (A : Around) : Prop := A.guards = some []
structure FnG (P : Program) (w : World) (K : PySem.W.Frag) (mg : Str → Option Value) (base : Heap) (CX : CXT) (k : Nat) (f : Addr) (fd : FuncData) (ps : List Str) (sp : Sp) : Prop where
  len : ∀ vs H Q E, sp vs H Q E → vs.length = ps.length
  run : ∀ (A : Around) (outer : List Env) (s : Shared) (H : Hp) (args : Args) (us : List Value) (vs : List V) (Q : VK) (E : XK), Room k A → Bare A → Env0 P w K mg base A outer s H → BindsTo s fd args (ps.zip us) → Vals vs us → sp vs H Q E →
    codeAny (model P w) A (.call (.ref f) args) (CR CX outer P w H s Q E) s
section
variable {P : Program} {w : World} {K : PySem.W.Frag} {mg : Str → Option Value} {base : Heap} {CX : CXT} {k : Nat} {f : Addr} {fd : FuncData} {ps : List Str} {sp : Sp}
theorem FnG.of (F : FnOk P w K mg base CX k f fd ps sp) : FnG P w K mg base CX k f fd ps sp := ⟨F.len, fun A outer s H args us vs Q E hr _ => F.run A outer s H args us vs Q E hr⟩
theorem okG {x qual : Str} {params : Arguments} {body : List Stmt} {scope : Scope} {dvs : List V} {kws : List (Str × V)} {N : List Str} (F : FunD K x qual params body scope dvs kws f fd) (S : FnScope N ps scope) (len : ∀ vs H Q E, sp vs H Q E → vs.length = ps.length)
    (hbody : ∀ (cdv : Value) (A : Around) (outer : List Env) (s : Shared) (H : Hp) (vs : List V) (Q : VK) (E : XK), Room k (A.deeper (envOfC qual scope s.heap.objs.size f cdv)) → Bare (A.deeper (envOfC qual scope s.heap.objs.size f cdv)) → sp vs H Q E →
      ∃ t, PSs (cxOf CX P w K mg base N qual scope f cdv A outer s H E) body t ∧ t { nx := fun _ H' => Q .non H', rt := Q } (L2.start N vs) H) : FnG P w K mg base CX (k + 1) f fd ps sp := by
  obtain ⟨oc, od, dV, kV, doc, pm, an, cdv, ct, osl, rfl, lk, hcd, _, _⟩ := F.ex
  refine ⟨len, fun A outer s H args us vs Q E hr hg e0 hb r hsp => ?_⟩
  -- the body's reading at this call, then as for any promise
  obtain ⟨t, ht, hq⟩ := hbody cdv A outer s H vs Q E (hr.deeper _) hg hsp
  have hl := len _ _ _ _ hsp
  have KX : K.In s.heap := e0.mod.kin.keeps fun b o e => (e0.bs b o e).1
  have lim : s.heap.NoLimit := e0.mod.nolimit.keeps fun b o e => (e0.bs b o e).1
  refine codeAny_call_function hr.depth (KX _ _ lk) rfl S.co S.gen rfl (PySem.W.codeRec_of KX hcd) (hb _ _ _ _ ?_)
  refine wpAny_newFunctionEnv_cells S.kind (fun ⟨n, v⟩ hy => ?_) fun env he s1 x => ?_
  · rcases S.par n (List.of_mem_zip hy).1 with q | q
    · exact .inl q
    · exact .inr ⟨q, PySem.W.cellsFrom_some _ _ _ (.inl q)⟩
  subst he
  refine ⟨lim.keeps x.toInCall.keep, codeAny_func ?_⟩
  refine wpAny_mono (ht.run [] s1 (L2.start N vs) H _ (inv_start S hr.hd e0 hl r x) hq) (fun fl s' hs => ?_) fun e s' hs => hs
  cases fl with
  | ret u => obtain ⟨v, σ', H', J, rv, q⟩ := hs; exact ⟨v, H', J.os, J.bare, J.base, J.hok, rv, q⟩
  | next => obtain ⟨σ', H', J, q⟩ := hs; exact ⟨.non, H', J.os, J.bare, J.base, J.hok, rfl, q⟩
  | brk => obtain ⟨_, _, _, q⟩ := hs; exact False.elim q
  | cont => obtain ⟨_, _, _, q⟩ := hs; exact False.elim q
end
section
variable {X : Cx} {CX : CXT} {k : Nat} {f : Addr} {fd : FuncData} {ps : List Str} {sp : Sp} {E : XK} {x : Str} {p pos : Pos} {e : Expr} {es : List Expr} {t : TA}
theorem pe_callG (F : FnG X.prog X.w X.K X.mg X.base CX k f fd ps sp) (hr : Room k X.A) (hG : Bare X.A) (hg : Gl X x) (hm : X.mg x = some (.ref f)) (hk : PySem.W.keepIn X.K (.ref f) = true) (hb : Binds X.K fd ps []) (hx : Passes CX X E)
    (ha : PA X (e :: es) t) (hdb : (x == ("__debug__" : Str)) = false := by decide) (he : starEach (e :: es) X.env = (false, eval e X.env) :: starEach es X.env := by rfl) (hpl : (backTo pos (starEach es X.env)).any (·.1) = false := by rfl) :
    PE X (.Call (.Name x p) (e :: es) [] pos) (tCall sp [] E t) := by
  refine ⟨fun pins s σ H Q I h => ?_⟩
  refine wpAny_Call_Name_kw (ld_glob I hg hm ?_ hdb)
  refine PySem.W.callWith_K (h₀ := X.base) I.ok.mod.kin hk (thn (ha.run pos pins s σ H _ I h) fun us s1 ⟨vs, H1, I1, r, q⟩ => ⟨I1.kIn, ?_⟩) he hpl
  have r2 : Vals (vs ++ []) (us ++ []) := r.append .nil
  have hl : (us ++ []).length = ps.length := by rw [← r2.length]; exact F.len _ _ _ _ q
  refine wpAny_call (codeAny_mono (F.run X.A X.stack s1 H1 ⟨us, []⟩ (us ++ []) (vs ++ []) Q E hr hG I1.env0 (hb s1 us I1.kIn hl) r2 q) fun r s' hq => ?_)
  cases r with
  | error e => exact hx pins σ H1 s1 e s' I1 hq
  | ok fl =>
    cases fl with
    | ret u => exact I1.after hq
    | next => exact False.elim hq
    | brk => exact False.elim hq
    | cont => exact False.elim hq
/-- repr(x), x a list or a tuple of data: nothing tracked changes -/
def rReprD (K : PySem.W.Frag) : List V → Hp → VK → Prop := fun xs H Q => ∃ (a : Addr) (d : PyData), xs = [.ref a] ∧ Dp K H (.ref a) d ∧ d.showable = true ∧ d.hasDict = false ∧ d.shown.length ≤ sizeLine ∧ d.depth ≤ 64 ∧ Q (.str d.shown) H
theorem call_reprD (hr : Room k X.A) (hG : Bare X.A) : CallR X (.builtin "repr") (rReprD X.K) := by
  intro pins s σ H xs us Q I r ⟨a, d, rx, hd, h1, h2, h3, h4, q⟩
  subst rx
  cases r with
  | cons r1 r2 =>
    cases r2
    obtain rfl := r1
    obtain ⟨as, R⟩ := Dp.reads I d _ _ hd rfl
    have hu := hr.un
    exact repr_of_reads' R h1 (fun z => by rw [h2] at z; cases z) hG (by omega) (fun b o e => e) (fun h' u tk hk => ⟨.str d.shown, H, I.kept hk, ⟨u, rfl⟩, q⟩) h3
end
end GrdX

set_option maxHeartbeats 2000000
/-! the end of a row whose law has a promise that holds where no text of a list is under way -/
namespace GrdX
open PySem PySem.Spec PyProof.Rows L2 LamX
/-- what is tracked when the law is called: the tables; the script, unless the frame knows it -/
def firstH (K : PySem.W.Frag) (T : List Addr) (a : Addr) (u : HO) : Hp := fun b =>
  if b ∈ T then some (.tbl #[]) else if b = a ∧ K.lookup a = none then some u else none
section
variable {K : PySem.W.Frag} {T : List Addr} {a b : Addr} {u w : HO}
theorem firstH_tab (h : b ∈ T) : firstH K T a u b = some (.tbl #[]) := if_pos h
theorem firstH_self (h : a ∉ T) (hK : K.lookup a = none) : firstH K T a u a = some u := (if_neg h).trans (if_pos ⟨rfl, hK⟩)
theorem firstH_none (h : b ∉ T) (h2 : b = a → K.lookup a ≠ none) : firstH K T a u b = none := (if_neg h).trans (if_neg fun z => h2 z.1 z.2)
theorem firstH_is (h : firstH K T a u b = some w) : (b ∈ T ∧ w = .tbl #[]) ∨ (b = a ∧ K.lookup a = none ∧ w = u) := by
  by_cases hb : b ∈ T
  · rw [firstH_tab hb] at h
    exact .inl ⟨hb, (Option.some.inj h).symm⟩
  · by_cases h2 : b = a ∧ K.lookup a = none
    · have z := ((if_neg hb).trans (if_pos h2)).symm.trans h
      exact .inr ⟨h2.1, h2.2, (Option.some.inj z).symm⟩
    · have z := ((if_neg hb).trans (if_neg h2)).symm.trans h
      cases z
end
section
variable {P : Program} {w : World} {K : PySem.W.Frag} {mg mb : Str → Option Value} {CX : CXT} {k : Nat} {fa a : Addr} {cs : List (Addr × Addr)} {fd : FuncData} {x : Str} {sp : Sp} {s : Shared} {vs : List Value} {ns : List Int}
/-- an object that is no list and no table is not tracked at first -/
theorem plain_first {h : Heap} {b : Addr} {o : Obj} {u : HO} (hT : ∀ p ∈ cs, h.get? p.2 = some { cls := .none, data := .fields #[] }) (ha : h.get? a = some { cls := .type "list", data := .seq vs.toArray }) (e : h.get? b = some o)
    (n1 : o.data ≠ .fields #[]) (n2 : o.data ≠ .seq vs.toArray) : firstH K (cs.map (·.2)) a u b = none := by
  refine firstH_none (fun z => ?_) fun z => ?_
  · obtain ⟨p, hp, rfl⟩ := List.mem_map.mp z
    rw [hT p hp] at e
    exact n1 (congrArg Obj.data (Option.some.inj e)).symm
  · subst z
    rw [ha] at e
    exact (n2 (congrArg Obj.data (Option.some.inj e)).symm).elim
theorem law_callG (KX : K.In s.heap) (hns : s.heap.Ns mainGlobals mg) (hb : s.heap.Ns builtinsNs mb) (hbb : ∀ x : Str, x ≠ "__name__" → mb x = bootBuiltins x) (hlim : s.heap.NoLimit) (hg : s.gens = #[])
    (hT : ∀ p ∈ cs, s.heap.get? p.2 = some { cls := .none, data := .fields #[] }) (nT : ∀ p ∈ cs, K.lookup p.2 = none) (C : ∀ p ∈ cs, PySem.W.CodeHd s.heap p.1 p.2)
    (hbm : ∃ (bm : Addr) (ob : Obj), mg "__builtins__" = some (.ref bm) ∧ bm ≠ builtinsNs ∧ s.heap.get? bm = some ob ∧ ob.cls = .type "module" ∧ ob.dict = some builtinsNs ∧ ob.data = .plain)
    (ha : s.heap.get? a = some { cls := .type "list", data := .seq vs.toArray }) (hi : IntsAre vs ns) (hl : ns.length ≤ sizeLine) (hr : Room k callerA)
    (F : ∀ base : Heap, K.In base → base.Ns mainGlobals mg → (∀ p ∈ cs, TabB base mg p.1 p.2) → FnG P w K mg base CX k fa fd [x] sp) (hbind : ∀ (s : Shared) (u : Value), BindsTo s fd ⟨[u], []⟩ [(x, u)])
    (hsp : ∀ H : Hp, (∀ p ∈ cs, H p.2 = some (.tbl #[])) → SqL K H a (ns.map V.int) → sp [.ref a] H (fun v _ => v = .bl true) fun _ _ _ => False)
    (hCX : ∀ H e s', CX [] H s (fun _ _ _ => False) e s' → False) :
    codeAny (model P w) callerA (.call (.ref fa) ⟨[.ref a], []⟩) (fun r s' => r = .ok (.ret (.bool true)) ∧ OldK s.heap s'.heap ∧ s'.os = s.os ∧ AllBare s'.gens) s := by
  let o0 : Obj := { cls := .type "list", data := .seq vs.toArray }
  let T := cs.map (·.2)
  let H : Hp := firstH K T a (.frz o0 (.lst (ns.map V.int)))
  have inT : ∀ {p : Addr × Addr}, p ∈ cs → p.2 ∈ T := fun hp => List.mem_map.mpr ⟨_, hp, rfl⟩
  have ofT : ∀ {b : Addr}, b ∈ T → ∃ p ∈ cs, p.2 = b := fun z => List.mem_map.mp z
  have aT : a ∉ T := fun z => by
    obtain ⟨p, hp, e⟩ := ofT z
    have q := hT p hp
    rw [e, ha] at q
    cases congrArg Obj.data (Option.some.inj q)
  have pl : ∀ {b : Addr} {o : Obj}, s.heap.get? b = some o → o.data ≠ .fields #[] → o.data ≠ .seq vs.toArray → H b = none := fun e n1 n2 => plain_first hT ha e n1 n2
  have sizes : vs.toArray.size ≤ sizeLine := by
    rw [List.size_toArray, hi.length]
    exact hl
  have HT : ∀ p ∈ cs, H p.2 = some (.tbl #[]) := fun p hp => firstH_tab (inT hp)
  have HS : SqL K H a (ns.map V.int) := by
    cases hk : K.lookup a with
    | none => exact .inl (.inr ⟨o0, firstH_self aT hk⟩)
    | some o =>
      obtain rfl : o0 = o := Option.some.inj (ha.symm.trans (KX a o hk))
      exact .inr ⟨o0, vs.toArray, _, hk, rfl, rfl, rfl, sizes, by simpa using vals_ints hi⟩
  have HK : HOk P w H s.heap := fun b u z => by
    rcases firstH_is z with ⟨hb, rfl⟩ | ⟨rfl, _, rfl⟩
    · obtain ⟨p, hp, rfl⟩ := ofT hb
      exact hT p hp
    · exact ⟨ha, by rw [List.length_map]; exact hl, vs, _, vals_ints hi, ha⟩
  have up : ∀ {b : Addr} {m : Str → Option Value}, s.heap.Ns b m → (hidT s.heap H).Ns b m := fun ⟨o, es, ep, e, d, r⟩ =>
    ⟨o, es, ep, hidT_get e (pl e (fun z => nomatch d.symm.trans z) fun z => nomatch d.symm.trans z), d, r⟩
  have KB : K.In (hidT s.heap H) := fun b o e => by
    refine hidT_get (KX b o e) (firstH_none (fun z => ?_) fun z => ?_)
    · obtain ⟨p, hp, rfl⟩ := ofT z
      rw [nT p hp] at e
      cases e
    · rw [← z, e]
      exact fun q => nomatch q
  obtain ⟨mc, l1, l2⟩ := hlim
  have M : L2.Mod K mg (hidT s.heap H) := ⟨KB, up hns, ⟨mb, up hb, hbb⟩, ⟨mc, up l1, l2⟩⟩
  have TB : ∀ p ∈ cs, TabB (hidT s.heap H) mg p.1 p.2 := fun p hp => by
    have gp : ∀ {b : Addr} {o : Obj}, s.heap.get? b = some o → o.data ≠ .fields #[] → b ≠ p.2 := fun e n z => by
      rw [z, hT p hp] at e
      exact n (congrArg Obj.data (Option.some.inj e)).symm
    have gm : ∀ {b : Addr} {m : Str → Option Value}, s.heap.Ns b m → b ≠ p.2 := fun ⟨o, es, ep, e, d, _⟩ => gp e fun z => nomatch d.symm.trans z
    obtain ⟨o, us, file, tf, flags, tg, inF, text, tt, e1, r1, r2, r3, r⟩ := C p hp
    obtain ⟨bm, ob, b1, b2, b3, b4, b5, b6⟩ := hbm
    have nf : o.data ≠ .fields #[] := fun z => by
      rw [r2] at z
      cases z
      simp at r3
    have np : ob.data ≠ .fields #[] := fun z => nomatch b6.symm.trans z
    refine ⟨⟨o, us, file, tf, flags, tg, inF, text, tt, hidT_get e1 (pl e1 nf fun z => nomatch r2.symm.trans z), r1, r2, r3, r⟩, ⟨bm, ob, b1, b2, fun z => ?_, gp b3 np, hidT_get b3 (pl b3 np fun z => nomatch b6.symm.trans z), b4, b5, b6⟩, gm hns⟩
    obtain ⟨o', es, ep, e, d, _⟩ := hns
    rw [← z, b3] at e
    cases e
    exact nomatch b6.symm.trans d
  have E0 : Env0 P w K mg (hidT s.heap H) callerA [] s H := ⟨rfl, M, fun b o e => of_hidT e, Nat.le_of_eq (hidT_size _ _), trivial, nofun, HK, .of_eq hg⟩
  refine codeAny_mono ((F _ KB (up hns) TB).run callerA [] s H ⟨[.ref a], []⟩ [.ref a] [.ref a] _ _ hr rfl E0 (hbind s (.ref a)) (.cons rfl .nil) (hsp H HT HS)) fun r s' h => ?_
  match r, h with
  | .error e, h => exact (hCX H e s' h).elim
  | .ok .next, h => exact False.elim h
  | .ok .brk, h => exact False.elim h
  | .ok .cont, h => exact False.elim h
  | .ok (.ret u), ⟨v, H', os, bare, un, hok, rv, q⟩ =>
    obtain rfl : v = .bl true := q
    obtain rfl : u = .bool true := rv
    have tab : ∀ p ∈ cs, ∃ more : Array Value, s'.heap.get? p.2 = some { cls := .none, data := .fields more } := fun p hp => by
      obtain ⟨more, z⟩ := un.tbls p.2 #[] (HT p hp)
      exact ⟨_, hok p.2 _ z⟩
    have old : ∀ b o, b ∉ T → s.heap.get? b = some o → s'.heap.get? b = some o := fun b o nb e => by
      cases z : H b with
      | none => exact un.keep b o e z (by intro y; cases y) (by simp)
      | some u =>
        rcases firstH_is z with ⟨hb, _⟩ | ⟨rfl, _, rfl⟩
        · exact absurd hb nb
        · rw [← e, ha]
          exact (hok b _ (un.frzs b _ _ z)).1
    refine ⟨rfl, ⟨fun b o e => ?_, fun b o e => ?_⟩, os, bare⟩
    · by_cases nb : b ∈ T
      · obtain ⟨p, hp, rfl⟩ := ofT nb
        obtain ⟨more, hm⟩ := tab p hp
        have e' := hT p hp
        rw [e'] at e
        cases e
        exact .inr (.inl ⟨((C p hp).tab e').isCodeTable, rfl, #[], more, rfl, by rw [Array.empty_append]; exact hm⟩)
      · exact .inl (old b o nb e)
    · by_cases nb : b ∈ T
      · obtain ⟨p, hp, rfl⟩ := ofT nb
        obtain ⟨more, hm⟩ := tab p hp
        exact ⟨_, hm⟩
      · exact ⟨o, old b o nb e⟩
end
/-- what is known of the law's promise at the head's heap -/
def LawG (l : PySem.W.OpenLaw) (w : World) (K : PySem.W.Frag) (CX : CXT) (k n : Nat) (x : Str) (mg : Str → Option Value) (fa : Addr) (h : Heap) (cs : List (Addr × Addr)) : Prop :=
  ∃ (fd : FuncData) (sp : Sp), (∀ p ∈ cs, h.get? p.2 = some { cls := .none, data := .fields #[] } ∧ K.lookup p.2 = none ∧ PySem.W.CodeHd h p.1 p.2) ∧ (∀ (s : Shared) (u : Value), BindsTo s fd ⟨[u], []⟩ [(x, u)]) ∧
    (∀ (H : Hp) (a : Addr) (ns : List Int), ns.length ≤ n → (∀ z ∈ ns, Builtin.Int.intBits z ≤ 1048576) → (∀ p ∈ cs, H p.2 = some (.tbl #[])) → SqL K H a (ns.map V.int) → sp [.ref a] H (fun v _ => v = .bl true) fun _ _ _ => False) ∧
    ∀ base : Heap, K.In base → base.Ns mainGlobals mg → (∀ p ∈ cs, TabB base mg p.1 p.2) → FnG l.prog w K mg base CX k fa fd [x] sp
theorem walk_ofG {l : PySem.W.OpenLaw} {n k : Nat} {q : Program} {loose : List Str} {XP : (Str → Option Value) → Heap → Prop} {YP : World → Heap → Prop} {d : DefRec} {CX : World → CXT} {x : Str}
    (hn : l.most = some n) (hn2 : n ≤ sizeLine) (hdf : d.params.defaults = []) (hr : Room k callerA)
    (F : ∀ (w : World) (mg : Str → Option Value) (fa : Addr) (h : Heap), YP w h → h.Ns mainGlobals mg → mg d.name = some (.ref fa) → ∃ (K : PySem.W.Frag) (cs : List (Addr × Addr)), K.In h ∧ LawG l w K (CX w) k n x mg fa h cs)
    (hCX : ∀ (w : World) (H : Hp) (s : Shared) (e : Value) (s' : Shared), CX w [] H s (fun _ _ _ => False) e s' → False) :
    PySem.W.WalkO q loose XP YP l.row.toRowW d [] (fun f vs => PySem.call f vs) := by
  refine Att.attach_callB hn hdf fun w s₀ s₁ mg mb fa o pm cd doc a vs ns G Y ho hd hcd hmg hobj hints hlen hbits hg => ?_
  obtain ⟨K, cs, KX, fd, sp, hT, hb, hsp, hF⟩ := F w mg fa _ Y G.T.g hmg
  exact law_callG KX G.T.g G.T.b G.T.builtins G.T.nolimit hg (fun p hp => (hT p hp).1) (fun p hp => (hT p hp).2.1) (fun p hp => (hT p hp).2.2) G.T.bmain hobj hints (Nat.le_trans hlen hn2) hr hF hb (fun H => hsp H a ns hlen hbits) fun H e s' => hCX w H s₁ e s'
end GrdX

/-! zip and enumerate(zip(..)) over lists and tuples mixed -/
namespace EzX
open PySem PySem.Spec PyProof.Rows
open AutoSeq1 (wpAny_loadPart')
open Sem (wp)
/-- a zip, its own tuple free or handed out -/
def ZS (h : Heap) (z TI TO : Addr) : Prop := ∃ (f0 : Value) (f : Bool), (f0 = .none ∨ ∃ T : Nat, f0 = rawInt (T : Int)) ∧ h.get? z = some { cls := .type "zip", dict := none, data := .fields #[f0, .bool f, .bool false, .ref TI, .ref TO], slots := #[] }
theorem ZS.of {h : Heap} {z TI TO : Addr} (x : IsZip h z TI TO .none) : ZS h z TI TO := ⟨_, _, .inl rfl, x⟩
theorem ZS.held {h : Heap} {z TI TO : Addr} {T : Nat} (x : IsZip h z TI TO (rawInt T)) : ZS h z TI TO := ⟨_, _, .inr ⟨T, rfl⟩, x⟩
theorem ZS.keep {h h' : Heap} {z TI TO : Addr} (x : ZS h z TI TO) (k : ∀ o, h.get? z = some o → h'.get? z = some o) : ZS h' z TI TO := let ⟨f0, f, c, e⟩ := x; ⟨f0, f, c, k _ e⟩
section
variable {prog : Program} {w : World} {A : Around} {E : Value → Shared → Prop} {s : Shared}
theorem wpAny_alive {a : Addr} {Q : Option Obj → Shared → Prop} (h : Q (s.heap.get? a) s) : wpAny (model prog w) A (loadIfAlive a) Q E s := fun Γ p hΓ => by
  unfold loadIfAlive
  rw [Sem.wp_loadIfAlive]
  exact wpAny_pure (M := model prog w) (A := A) (E := E) h Γ p hΓ
theorem wpAny_free_zip {z TI TO : Addr} {Q : Bool → Shared → Prop} (hz : ZS s.heap z TI TO) (h1 : Q true s) (h0 : ∀ h', ZS h' z TI TO → Heap.SameBut z s.heap h' → Q false { s with heap := h' }) :
    wpAny (model prog w) A (Builtin.SmallTypes.ownedTupleIsFree (.ref z)) Q E s := by
  obtain ⟨f0, f, hf, hz⟩ := hz
  unfold Builtin.SmallTypes.ownedTupleIsFree
  refine wpAny_bind (wpAny_field hz rfl (x := f0) rfl ?_)
  rcases hf with rfl | ⟨T, rfl⟩
  · exact wpAny_pure h1
  · show wpAny _ _ (loadIfAlive ((T : Int).toNat) >>= _) _ _ _
    rw [Int.toNat_natCast]
    refine wpAny_bind (wpAny_alive ?_)
    cases s.heap.get? T with
    | none =>
      simp only [Option.isNone_none, if_true]
      exact wpAny_pure h1
    | some o =>
      simp only [Option.isNone_some, Bool.false_eq_true, if_false]
      refine wpAny_bind (wpAny_field hz rfl (x := .bool f) rfl ?_)
      cases f with
      | true =>
        rw [if_neg (show ¬ ((Value.bool true != Value.bool true) = true) from Bool.false_ne_true)]
        exact wpAny_pure (h0 s.heap ⟨_, _, .inr ⟨T, rfl⟩, hz⟩ (Heap.SameBut.refl _ _))
      | false =>
        rw [if_pos (show (Value.bool false != Value.bool true) = true from rfl)]
        exact wpAny_bind (wpAny_setField_rec hz (by simp) fun h₁ hz₁ hs₁ => wpAny_pure (h0 h₁ ⟨_, _, .inr ⟨T, rfl⟩, hz₁⟩ hs₁))
variable {z TI TO i1 i2 : Addr} {fp1 fp2 : List Addr} {n1 n2 i : Nat} {P1 P2 : Nat → Value → Prop} {St1 St2 : Nat → Heap → Prop} {a1 a2 : Value}
theorem zipS_item {Q : Value → Shared → Prop} (S : ZipSep2 z TI TO i1 i2 fp1 fp2) (D1 : Draws prog w A i1 fp1 n1 P1 St1) (D2 : Draws prog w A i2 fp2 n2 P2 St2)
    (hz : ZS s.heap z TI TO) (hTI : IsTupOf2 s.heap TI (.ref i1) (.ref i2)) (hTO : IsTupOf2 s.heap TO a1 a2) (st1 : St1 i s.heap) (st2 : St2 i s.heap) (hlt1 : i < n1) (hlt2 : i < n2)
    (hQ : ∀ x1 x2 h' tk, P1 i x1 → P2 i x2 → ZS h' z TI TO → (∃ b1 b2, IsTupOf2 h' TO b1 b2) → St1 (i + 1) h' → St2 (i + 1) h' → IsTupOf2 h' s.heap.objs.size x1 x2 → h'.objs.size = s.heap.objs.size + 1 →
      (∀ c o, c ≠ z → c ≠ TO → c ≠ i1 → c ≠ i2 → s.heap.get? c = some o → h'.get? c = some o) → Q (.ref s.heap.objs.size) { s with heap := h', toks := tk }) :
    wpAny (model prog w) A (Builtin.«zip.__next__» ⟨[.ref z], []⟩) (fun fin s' => ∃ v, fin = .done (.ret v) ∧ Q v s') E s := by
  obtain ⟨hp, g, d, tk0, os⟩ := s
  obtain ⟨f0, f, hf, hz0⟩ := id hz
  show wpAny _ _ (field (.ref z) 2 >>= _) _ _ _
  refine wpAny_bind (wpAny_field hz0 rfl (x := .bool false) rfl ?_)
  show wpAny _ _ (field (.ref z) 3 >>= _) _ _ _
  refine wpAny_bind (wpAny_field hz0 rfl (x := .ref TI) rfl ?_)
  refine wpAny_bind (wpAny_seqItems hTI rfl ?_)
  show wpAny _ _ (Builtin.SmallTypes.ownedTupleIsFree (.ref z) >>= _) _ _ _
  refine wpAny_bind (wpAny_free_zip hz ?_ fun k0 hz1 hs1 => ?_)
  · -- its own tuple again
    simp only [if_true]
    refine wpAny_bind (wpAny_rule ?_)
    refine wpAny_bind (wpAny_field hz0 rfl (x := .ref TO) rfl ?_)
    refine wpAny_bind (wpAny_setField_rec hz0 (by simp) fun g0 gz gs => ?_)
    replace gz : g0.get? z = some { cls := .type "zip", dict := none, data := .fields #[.ellipsis, .bool f, .bool false, .ref TI, .ref TO], slots := #[] } := gz
    replace gs : Heap.SameBut z hp g0 := gs
    refine wpAny_bind ?_
    simp only [List.zipIdx_cons, List.zipIdx_nil, List.forIn_cons, List.forIn_nil]
    refine wpAny_bind (wpAny_bind (wpAny_onRaise ?_))
    show wpAny _ _ (Builtin.SmallTypes.nextOf (.ref i1) >>= _) _ _ ⟨g0, g, d, tk0, os⟩
    refine wpAny_bind (D1.item i _ _ _ hlt1 (D1.over st1 gs S.zf1) fun x1 p1 tk1 hx1 sn1 hp1 => wpAny_pure ?_)
    replace hp1 : Heap.SameBut i1 g0 p1 := hp1
    have o1 : IsTupOf2 p1 TO a1 a2 := hp1.extBut _ _ S.Ti1 (gs.extBut _ _ S.TOz hTO)
    refine wpAny_bind (wpAny_seqItems (s := ⟨p1, g, d, tk1, os⟩) o1 rfl ?_)
    refine wpAny_bind (updateSeq_IsTupOf2 (s := ⟨p1, g, d, tk1, os⟩) o1 fun g1 t1 s1 => ?_)
    replace t1 : IsTupOf2 g1 TO x1 a2 := t1
    replace s1 : Heap.SameBut TO p1 g1 := s1
    refine wpAny_bind (wpAny_letGo (wpAny_pure ?_))
    refine wpAny_bind (wpAny_bind (wpAny_onRaise ?_))
    show wpAny _ _ (Builtin.SmallTypes.nextOf (.ref i2) >>= _) _ _ ⟨g1, g, d, tk1, os⟩
    refine wpAny_bind (D2.item i _ _ _ hlt2 (D2.over (D2.over (D2.over st2 gs S.zf2) hp1 S.sep1_2) s1 S.Tf2) fun x2 p2 tk2 hx2 sn2 hp2 => wpAny_pure ?_)
    replace hp2 : Heap.SameBut i2 g1 p2 := hp2
    have o2 : IsTupOf2 p2 TO x1 a2 := hp2.extBut _ _ S.Ti2 t1
    refine wpAny_bind (wpAny_seqItems (s := ⟨p2, g, d, tk2, os⟩) o2 rfl ?_)
    refine wpAny_bind (updateSeq_IsTupOf2 (s := ⟨p2, g, d, tk2, os⟩) o2 fun g2 t2 s2 => ?_)
    replace t2 : IsTupOf2 g2 TO x1 x2 := t2
    replace s2 : Heap.SameBut TO p2 g2 := s2
    refine wpAny_bind (wpAny_letGo (wpAny_pure (wpAny_pure ?_)))
    refine wpAny_bind (wpAny_seqItems (s := ⟨g2, g, d, tk2, os⟩) t2 rfl ?_)
    refine wpAny_bind (wpAny_newTuple ?_)
    have sz : g2.objs.size = hp.objs.size := by rw [s2.1, hp2.1, s1.1, hp1.1, gs.1]
    have old : ∀ c o, c ≠ TO → c ≠ i1 → c ≠ i2 → g0.get? c = some o → g2.get? c = some o := fun c o cT c1 c2 e => s2.extBut _ _ cT (hp2.extBut _ _ c2 (s1.extBut _ _ cT (hp1.extBut _ _ c1 e)))
    have zz := old _ _ S.TOz.symm S.zi1 S.zi2 gz
    have zl : z < g2.objs.size := Heap.lt_size zz
    have j1 : St1 (i + 1) g2 := D1.over (D1.over (D1.over sn1 s1 S.Tf1) hp2 S.sep2_1) s2 S.Tf1
    have j2 : St2 (i + 1) g2 := D2.over sn2 s2 S.Tf2
    show wpAny _ _ (Builtin.SmallTypes.ownedTupleHandOut (.ref z) (.ref g2.objs.size) >>= _) _ _ ⟨g2.push { cls := .type "tuple", data := .seq #[x1, x2] }, g, d, tk2, os⟩
    refine wpAny_bind ?_
    unfold Builtin.SmallTypes.ownedTupleHandOut
    have z6 := Heap.get?_push_of_some { cls := .type "tuple", data := .seq #[x1, x2] } zz
    refine wpAny_bind (wpAny_setField_rec z6 (by simp) fun h7 z7 s7 => ?_)
    refine wpAny_setField_rec z7 (by simp) fun h8 z8 s8 => ?_
    replace z8 : IsZip h8 z TI TO (rawInt g2.objs.size) := z8
    replace s7 : Heap.SameBut z (g2.push { cls := .type "tuple", data := .seq #[x1, x2] }) h7 := s7
    replace s8 : Heap.SameBut z h7 h8 := s8
    have up : ∀ c o, c ≠ z → g2.get? c = some o → h8.get? c = some o := fun c o c1 e => s8.extBut _ _ c1 (s7.extBut _ _ c1 (Heap.get?_push_of_some _ e))
    have t8 : IsTupOf2 h8 g2.objs.size x1 x2 := s8.extBut _ _ (Nat.ne_of_gt zl) (s7.extBut _ _ (Nat.ne_of_gt zl) (Heap.get?_push_size _ rfl))
    have n8 : h8.objs.size = g2.objs.size + 1 := by rw [s8.1, s7.1, Heap.size_push]
    rw [sz] at z8 t8 n8
    refine wpAny_pure ⟨_, rfl, ?_⟩
    show Q (.ref g2.objs.size) ⟨h8, g, d, tk2, os⟩
    rw [sz]
    exact hQ x1 x2 h8 tk2 hx1 hx2 (.held z8) ⟨_, _, up _ _ S.TOz t2⟩ (D1.frame _ _ _ j1 fun b hb o e => up b o (fun q => S.zf1 (q ▸ hb)) e) (D2.frame _ _ _ j2 fun b hb o e => up b o (fun q => S.zf2 (q ▸ hb)) e) t8 n8
      fun c o cz cT c1 c2 e => up c o cz (old c o cT c1 c2 (gs.extBut _ _ cz e))
  · -- a new one
    simp only [Bool.false_eq_true, if_false]
    replace hs1 : Heap.SameBut z hp k0 := hs1
    refine wpAny_bind ?_
    rw [← Array.forIn_toList]
    simp only [List.forIn_cons, List.forIn_nil]
    refine wpAny_bind (wpAny_bind (wpAny_holding ?_))
    show wpAny _ _ (Builtin.SmallTypes.nextOf (.ref i1) >>= _) _ _ ⟨k0, g, d, tk0, os⟩
    refine wpAny_bind (D1.item i _ _ _ hlt1 (D1.over st1 hs1 S.zf1) fun x1 p1 tk1 hx1 sn1 hp1 => wpAny_pure ?_)
    replace hp1 : Heap.SameBut i1 k0 p1 := hp1
    refine wpAny_pure ?_
    refine wpAny_bind (wpAny_bind (wpAny_holding ?_))
    show wpAny _ _ (Builtin.SmallTypes.nextOf (.ref i2) >>= _) _ _ ⟨p1, g, d, tk1, os⟩
    refine wpAny_bind (D2.item i _ _ _ hlt2 (D2.over (D2.over st2 hs1 S.zf2) hp1 S.sep1_2) fun x2 p2 tk2 hx2 sn2 hp2 => wpAny_pure ?_)
    replace hp2 : Heap.SameBut i2 p1 p2 := hp2
    refine wpAny_pure (wpAny_pure ?_)
    show wpAny _ _ (newTuple [x1, x2] >>= _) _ _ ⟨p2, g, d, tk2, os⟩
    refine wpAny_bind (wpAny_newTuple ?_)
    have sz : p2.objs.size = hp.objs.size := by rw [hp2.1, hp1.1, hs1.1]
    have old : ∀ c o, c ≠ i1 → c ≠ i2 → k0.get? c = some o → p2.get? c = some o := fun c o c1 c2 e => hp2.extBut _ _ c2 (hp1.extBut _ _ c1 e)
    refine wpAny_pure ⟨_, rfl, ?_⟩
    show Q (.ref p2.objs.size) _
    have t8 : IsTupOf2 (p2.push { cls := .type "tuple", data := .seq #[x1, x2] }) p2.objs.size x1 x2 := Heap.get?_push_size _ rfl
    have n8 : (p2.push { cls := .type "tuple", data := .seq #[x1, x2] }).objs.size = p2.objs.size + 1 := Heap.size_push ..
    rw [sz] at t8 n8 ⊢
    exact hQ x1 x2 _ tk2 hx1 hx2 ((hz1.keep fun o e => old _ _ S.zi1 S.zi2 e).keep fun o e => Heap.get?_push_of_some _ e) ⟨_, _, Heap.get?_push_of_some _ (old _ _ S.Ti1 S.Ti2 (hs1.extBut _ _ S.TOz hTO))⟩
      (D1.frame _ _ _ (D1.over sn1 hp2 S.sep2_1) fun b hb o e => Heap.get?_push_of_some _ e) (D2.frame _ _ _ sn2 fun b hb o e => Heap.get?_push_of_some _ e) t8 n8
      fun c o cz cT c1 c2 e => Heap.get?_push_of_some _ (old _ _ c1 c2 (hs1.extBut _ _ cz e))
theorem zipS_end {Q : Fin → Shared → Prop} (S : ZipSep2 z TI TO i1 i2 fp1 fp2) (D1 : Draws prog w A i1 fp1 n1 P1 St1) (D2 : Draws prog w A i2 fp2 n2 P2 St2)
    (hz : ZS s.heap z TI TO) (hTI : IsTupOf2 s.heap TI (.ref i1) (.ref i2)) (hTO : IsTupOf2 s.heap TO a1 a2) (st1 : St1 i s.heap) (st2 : St2 i s.heap) (hle1 : i ≤ n1) (hle2 : i ≤ n2) (hend : i = n1 ∨ i = n2)
    (hE : ∀ h' tk e, (∀ c o, c ≠ z → c ≠ TO → c ≠ i1 → c ≠ i2 → s.heap.get? c = some o → h'.get? c = some o) → (∃ o, h'.get? e = some o ∧ o.cls = .type "StopIteration") → E (.ref e) { s with heap := h', toks := tk }) :
    wpAny (model prog w) A (Builtin.«zip.__next__» ⟨[.ref z], []⟩) Q E s := by
  obtain ⟨hp, g, d, tk0, os⟩ := s
  obtain ⟨f0, f, hf, hz0⟩ := id hz
  show wpAny _ _ (field (.ref z) 2 >>= _) _ _ _
  refine wpAny_bind (wpAny_field hz0 rfl (x := .bool false) rfl ?_)
  show wpAny _ _ (field (.ref z) 3 >>= _) _ _ _
  refine wpAny_bind (wpAny_field hz0 rfl (x := .ref TI) rfl ?_)
  refine wpAny_bind (wpAny_seqItems hTI rfl ?_)
  show wpAny _ _ (Builtin.SmallTypes.ownedTupleIsFree (.ref z) >>= _) _ _ _
  refine wpAny_bind (wpAny_free_zip hz ?_ fun k0 hz1 hs1 => ?_)
  · simp only [if_true]
    refine wpAny_bind (wpAny_rule ?_)
    refine wpAny_bind (wpAny_field hz0 rfl (x := .ref TO) rfl ?_)
    refine wpAny_bind (wpAny_setField_rec hz0 (by simp) fun g0 gz gs => ?_)
    replace gz : g0.get? z = some { cls := .type "zip", dict := none, data := .fields #[.ellipsis, .bool f, .bool false, .ref TI, .ref TO], slots := #[] } := gz
    replace gs : Heap.SameBut z hp g0 := gs
    refine wpAny_bind ?_
    simp only [List.zipIdx_cons, List.zipIdx_nil, List.forIn_cons, List.forIn_nil]
    refine wpAny_bind (wpAny_bind (wpAny_onRaise ?_))
    show wpAny _ _ (Builtin.SmallTypes.nextOf (.ref i1) >>= _) _ _ ⟨g0, g, d, tk0, os⟩
    by_cases hlt1 : i < n1
    · refine wpAny_bind (D1.item i _ _ _ hlt1 (D1.over st1 gs S.zf1) fun x1 p1 tk1 hx1 sn1 hp1 => wpAny_pure ?_)
      replace hp1 : Heap.SameBut i1 g0 p1 := hp1
      have o1 : IsTupOf2 p1 TO a1 a2 := hp1.extBut _ _ S.Ti1 (gs.extBut _ _ S.TOz hTO)
      refine wpAny_bind (wpAny_seqItems (s := ⟨p1, g, d, tk1, os⟩) o1 rfl ?_)
      refine wpAny_bind (updateSeq_IsTupOf2 (s := ⟨p1, g, d, tk1, os⟩) o1 fun g1 t1 s1 => ?_)
      replace s1 : Heap.SameBut TO p1 g1 := s1
      refine wpAny_bind (wpAny_letGo (wpAny_pure ?_))
      have hi2 : i = n2 := by omega
      refine wpAny_bind (wpAny_bind (wpAny_onRaise ?_))
      show wpAny _ _ (Builtin.SmallTypes.nextOf (.ref i2) >>= _) _ _ ⟨g1, g, d, tk1, os⟩
      refine wpAny_bind (D2.done ⟨g1, g, d, tk1, os⟩ _ _ (by rw [← hi2]; exact D2.over (D2.over (D2.over st2 gs S.zf2) hp1 S.sep1_2) s1 S.Tf2) fun q e hq ⟨oe, he, ce⟩ => ?_)
      replace hq : Heap.ExtBut i2 g1 q := hq
      replace he : q.get? e = some oe := he
      have zq := hq _ _ S.zi2 (s1.extBut _ _ S.TOz.symm (hp1.extBut _ _ S.zi1 gz))
      have ez : e ≠ z := fun x => by subst x; rw [zq] at he; cases he; simp at ce
      refine wpAny_setField_rec (s := ⟨q, g, d, tk1, os⟩) zq (by simp) fun q' _ hq' => ?_
      replace hq' : Heap.SameBut z q q' := hq'
      exact hE q' tk1 e (fun c o cz cT c1 c2 x => hq'.extBut _ _ cz (hq _ _ c2 (s1.extBut _ _ cT (hp1.extBut _ _ c1 (gs.extBut _ _ cz x))))) ⟨oe, hq'.extBut _ _ ez he, ce⟩
    · have hi1 : i = n1 := by omega
      refine wpAny_bind (D1.done ⟨g0, g, d, tk0, os⟩ _ _ (by rw [← hi1]; exact D1.over st1 gs S.zf1) fun q e hq ⟨oe, he, ce⟩ => ?_)
      replace hq : Heap.ExtBut i1 g0 q := hq
      replace he : q.get? e = some oe := he
      have zq := hq _ _ S.zi1 gz
      have ez : e ≠ z := fun x => by subst x; rw [zq] at he; cases he; simp at ce
      refine wpAny_setField_rec (s := ⟨q, g, d, tk0, os⟩) zq (by simp) fun q' _ hq' => ?_
      replace hq' : Heap.SameBut z q q' := hq'
      exact hE q' tk0 e (fun c o cz cT c1 c2 x => hq'.extBut _ _ cz (hq _ _ c1 (gs.extBut _ _ cz x))) ⟨oe, hq'.extBut _ _ ez he, ce⟩
  · simp only [Bool.false_eq_true, if_false]
    replace hs1 : Heap.SameBut z hp k0 := hs1
    refine wpAny_bind ?_
    rw [← Array.forIn_toList]
    simp only [List.forIn_cons, List.forIn_nil]
    refine wpAny_bind (wpAny_bind (wpAny_holding ?_))
    show wpAny _ _ (Builtin.SmallTypes.nextOf (.ref i1) >>= _) _ _ ⟨k0, g, d, tk0, os⟩
    by_cases hlt1 : i < n1
    · refine wpAny_bind (D1.item i _ _ _ hlt1 (D1.over st1 hs1 S.zf1) fun x1 p1 tk1 hx1 sn1 hp1 => wpAny_pure ?_)
      replace hp1 : Heap.SameBut i1 k0 p1 := hp1
      have hi2 : i = n2 := by omega
      refine wpAny_pure ?_
      refine wpAny_bind (wpAny_bind (wpAny_holding ?_))
      show wpAny _ _ (Builtin.SmallTypes.nextOf (.ref i2) >>= _) _ _ ⟨p1, g, d, tk1, os⟩
      refine wpAny_bind (D2.done ⟨p1, g, d, tk1, os⟩ _ _ (by rw [← hi2]; exact D2.over (D2.over st2 hs1 S.zf2) hp1 S.sep1_2) fun q e hq he => ?_)
      replace hq : Heap.ExtBut i2 p1 q := hq
      exact hE q tk1 e (fun c o cz cT c1 c2 x => hq _ _ c2 (hp1.extBut _ _ c1 (hs1.extBut _ _ cz x))) he
    · have hi1 : i = n1 := by omega
      refine wpAny_bind (D1.done ⟨k0, g, d, tk0, os⟩ _ _ (by rw [← hi1]; exact D1.over st1 hs1 S.zf1) fun q e hq he => ?_)
      replace hq : Heap.ExtBut i1 k0 q := hq
      exact hE q tk0 e (fun c o cz cT c1 c2 x => hq _ _ c1 (hs1.extBut _ _ cz x)) he
end
end EzX

/-! enumerate(zip(..)): one turn -/
namespace EzX
open PySem PySem.Spec PyProof.Rows
open AutoSeq1 (wpAny_loadPart')
section
variable {prog : Program} {w : World} {A : Around} {E : Value → Shared → Prop} {s : Shared}
variable {e z TI TO i1 i2 : Addr} {fp1 fp2 : List Addr} {n1 n2 i : Nat} {P1 P2 : Nat → Value → Prop} {St1 St2 : Nat → Heap → Prop} {a1 a2 old : Value}
theorem ZS.typeIs {s : Shared} (x : ZS s.heap z TI TO) : s.TypeIs (.ref z) "zip" := let ⟨_, _, _, e⟩ := x; ⟨_, e, rfl⟩
theorem nextOf_zip_item {Q : Value → Shared → Prop} (S : ZipSep2 z TI TO i1 i2 fp1 fp2) (D1 : Draws prog w A.in1 i1 fp1 n1 P1 St1) (D2 : Draws prog w A.in1 i2 fp2 n2 P2 St2)
    (hz : ZS s.heap z TI TO) (hTI : IsTupOf2 s.heap TI (.ref i1) (.ref i2)) (hTO : IsTupOf2 s.heap TO a1 a2) (st1 : St1 i s.heap) (st2 : St2 i s.heap) (hlt1 : i < n1) (hlt2 : i < n2)
    (hQ : ∀ x1 x2 h' tk, P1 i x1 → P2 i x2 → ZS h' z TI TO → (∃ b1 b2, IsTupOf2 h' TO b1 b2) → St1 (i + 1) h' → St2 (i + 1) h' → IsTupOf2 h' s.heap.objs.size x1 x2 → h'.objs.size = s.heap.objs.size + 1 →
      (∀ c o, c ≠ z → c ≠ TO → c ≠ i1 → c ≠ i2 → s.heap.get? c = some o → h'.get? c = some o) → Q (.ref s.heap.objs.size) { s with heap := h', toks := tk }) :
    wpAny (model prog w) A (Builtin.SmallTypes.nextOf (.ref z)) Q E s := by
  unfold Builtin.SmallTypes.nextOf
  exact wpAny_bind (wpAny_callSpecial?_slot (name := Str.ofString "__next__") hz.typeIs F.slot_zip_next
    (wpAny_call_entry F.slot_zip_next hz.typeIs F.entry_zip_next (zipS_item S D1 D2 hz hTI hTO st1 st2 hlt1 hlt2 fun x1 x2 h' tk y1 y2 b1 b2 b3 b4 b5 b6 b7 => wpAny_pure (hQ x1 x2 h' tk y1 y2 b1 b2 b3 b4 b5 b6 b7)) (F.args_zip_next_1 _)))
theorem nextOf_zip_end {Q : Value → Shared → Prop} (S : ZipSep2 z TI TO i1 i2 fp1 fp2) (D1 : Draws prog w A.in1 i1 fp1 n1 P1 St1) (D2 : Draws prog w A.in1 i2 fp2 n2 P2 St2)
    (hz : ZS s.heap z TI TO) (hTI : IsTupOf2 s.heap TI (.ref i1) (.ref i2)) (hTO : IsTupOf2 s.heap TO a1 a2) (st1 : St1 i s.heap) (st2 : St2 i s.heap) (hle1 : i ≤ n1) (hle2 : i ≤ n2) (hend : i = n1 ∨ i = n2)
    (hE : ∀ h' tk e, (∀ c o, c ≠ z → c ≠ TO → c ≠ i1 → c ≠ i2 → s.heap.get? c = some o → h'.get? c = some o) → (∃ o, h'.get? e = some o ∧ o.cls = .type "StopIteration") → E (.ref e) { s with heap := h', toks := tk }) :
    wpAny (model prog w) A (Builtin.SmallTypes.nextOf (.ref z)) Q E s := by
  unfold Builtin.SmallTypes.nextOf
  exact wpAny_bind (wpAny_callSpecial?_slot (name := Str.ofString "__next__") hz.typeIs F.slot_zip_next
    (wpAny_call_entry F.slot_zip_next hz.typeIs F.entry_zip_next (zipS_end S D1 D2 hz hTI hTO st1 st2 hle1 hle2 hend hE) (F.args_zip_next_1 _)))
theorem next_enumZ_item {Q : Option Value → Shared → Prop} (S : ZipSep2 z TI TO i1 i2 fp1 fp2) (D1 : Draws prog w A.in1.in1 i1 fp1 n1 P1 St1) (D2 : Draws prog w A.in1.in1 i2 fp2 n2 P2 St2) (he : IsEnum s.heap e z i old)
    (hz : ZS s.heap z TI TO) (hTI : IsTupOf2 s.heap TI (.ref i1) (.ref i2)) (hTO : IsTupOf2 s.heap TO a1 a2) (st1 : St1 i s.heap) (st2 : St2 i s.heap) (hlt1 : i < n1) (hlt2 : i < n2) (ez : e ≠ z) (eT : e ≠ TO) (eI : e ≠ TI) (e1 : e ∉ fp1) (e2 : e ∉ fp2)
    (hQ : ∀ x1 x2 h' tk, P1 i x1 → P2 i x2 → IsEnumOut h' e z ((i : Int) + 1) (.ref s.heap.objs.size) (s.heap.objs.size + 1) → ZS h' z TI TO → (∃ b1 b2, IsTupOf2 h' TO b1 b2) → St1 (i + 1) h' → St2 (i + 1) h' →
      IsTupOf2 h' s.heap.objs.size x1 x2 → IsTupOf2 h' (s.heap.objs.size + 1) (.int i tk) (.ref s.heap.objs.size) →
      (∀ c o, c ≠ e → c ≠ z → c ≠ TO → c ≠ i1 → c ≠ i2 → s.heap.get? c = some o → h'.get? c = some o) → Q (some (.ref (s.heap.objs.size + 1))) { s with heap := h', toks := tk + 1 }) :
    wpAny (model prog w) A (pyNext (.ref e)) Q E s := by
  have hT : s.TypeIs (.ref e) "enumerate" := ⟨_, he, rfl⟩
  unfold pyNext
  refine wpAny_bind (wpAny_attempt (wpAny_callSpecial?_slot (name := Str.ofString "__next__") hT F.slot_enumerate_next
    (wpAny_call_entry F.slot_enumerate_next hT F.entry_enumerate_next ?_ (F.args_enumerate_next_1 _))))
  obtain ⟨hp, g, d, tk₀, os⟩ := s
  show wpAny _ _ (field (.ref e) 2 >>= _) _ _ _
  refine wpAny_bind (wpAny_field he rfl (x := .ref z) rfl ?_)
  refine wpAny_bind (nextOf_zip_item S D1 D2 hz hTI hTO st1 st2 hlt1 hlt2 fun x1 x2 h₁ tk hx1 hx2 z1 TO1 s11 s21 t1 sz1 k1 => ?_)
  replace k1 : ∀ c o, c ≠ z → c ≠ TO → c ≠ i1 → c ≠ i2 → hp.get? c = some o → h₁.get? c = some o := k1
  have ei1 : e ≠ i1 := fun q => e1 (q ▸ S.mem1)
  have ei2 : e ≠ i2 := fun q => e2 (q ▸ S.mem2)
  have E1 : IsEnum h₁ e z i old := k1 e _ ez eT ei1 ei2 he
  replace sz1 : h₁.objs.size = hp.objs.size + 1 := sz1
  replace t1 : IsTupOf2 h₁ hp.objs.size x1 x2 := t1
  have el : e < hp.objs.size := Heap.lt_size he
  show wpAny _ _ (field (.ref e) 3 >>= _) _ _ ⟨h₁, g, d, tk, os⟩
  refine wpAny_bind (wpAny_field E1 rfl (x := rawInt i) rfl ?_)
  show wpAny _ _ (field (.ref e) 4 >>= _) _ _ ⟨h₁, g, d, tk, os⟩
  refine wpAny_bind (wpAny_field E1 rfl (x := .none) rfl ?_)
  show wpAny _ _ (mkInt i >>= _) _ _ ⟨h₁, g, d, tk, os⟩
  refine wpAny_bind (wpAny_mkInt ?_)
  show wpAny _ _ (setField (.ref e) 3 (rawInt ((i : Int) + 1)) >>= _) _ _ ⟨h₁, g, d, tk + 1, os⟩
  refine wpAny_bind (wpAny_setField_rec E1 (by simp) fun h₂ E2 s2 => ?_)
  replace s2 : Heap.SameBut e h₁ h₂ := s2
  replace E2 : IsEnum h₂ e z ((i : Int) + 1) old := E2
  show wpAny _ _ (setField (.ref e) 4 .none >>= _) _ _ ⟨h₂, g, d, tk + 1, os⟩
  refine wpAny_bind (wpAny_setField_rec E2 (by simp) fun h₃ E3 s3 => ?_)
  replace s3 : Heap.SameBut e h₂ h₃ := s3
  replace E3 : IsEnum h₃ e z ((i : Int) + 1) old := E3
  show wpAny _ _ (newTuple [.int i tk, .ref hp.objs.size] >>= _) _ _ ⟨h₃, g, d, tk + 1, os⟩
  refine wpAny_bind (wpAny_newTuple ?_)
  have E4 : IsEnum (h₃.push { cls := .type "tuple", data := .seq #[.int i tk, .ref hp.objs.size] }) e z ((i : Int) + 1) old := Heap.get?_push_of_some _ E3
  have sz3 : h₃.objs.size = hp.objs.size + 1 := by rw [s3.1, s2.1, sz1]
  have t4 : IsTupOf2 (h₃.push { cls := .type "tuple", data := .seq #[.int i tk, .ref hp.objs.size] }) (hp.objs.size + 1) (.int i tk) (.ref hp.objs.size) := by
    rw [← sz3]
    exact Heap.get?_push_size _ rfl
  have k4 : ∀ c o, c ≠ e → h₁.get? c = some o → (h₃.push { cls := .type "tuple", data := .seq #[.int i tk, .ref hp.objs.size] }).get? c = some o := fun c o ce q => Heap.get?_push_of_some _ (s3.extBut _ _ ce (s2.extBut _ _ ce q))
  show wpAny _ _ (Builtin.SmallTypes.ownedTupleIsFree (.ref e) >>= _) _ _ ⟨h₃.push { cls := .type "tuple", data := .seq #[.int i tk, .ref hp.objs.size] }, g, d, tk + 1, os⟩
  rw [sz3]
  generalize h₃.push { cls := .type "tuple", data := .seq #[.int i tk, .ref hp.objs.size] } = h₄ at E4 t4 k4 ⊢
  refine wpAny_bind ?_
  unfold Builtin.SmallTypes.ownedTupleIsFree
  refine wpAny_bind (wpAny_field E4 rfl (x := .none) rfl (wpAny_pure ?_))
  simp only [if_true]
  refine wpAny_bind (wpAny_rule ?_)
  refine wpAny_bind (wpAny_field E4 rfl (x := old) rfl ?_)
  refine wpAny_bind (wpAny_setField_rec E4 (by simp) fun h₅ E5 s5 => ?_)
  replace s5 : Heap.SameBut e h₄ h₅ := s5
  replace E5 : IsEnum h₅ e z ((i : Int) + 1) (.ref hp.objs.size) := E5
  show wpAny _ _ (Builtin.SmallTypes.ownedTupleHandOut (.ref e) (.ref (hp.objs.size + 1)) >>= _) _ _ ⟨h₅, g, d, tk + 1, os⟩
  refine wpAny_bind ?_
  unfold Builtin.SmallTypes.ownedTupleHandOut
  refine wpAny_bind (wpAny_setField_rec E5 (by simp) fun h₆ E6 s6 => ?_)
  replace s6 : Heap.SameBut e h₅ h₆ := s6
  refine wpAny_setField_rec E6 (by simp) fun h₇ E7 s7 => ?_
  replace s7 : Heap.SameBut e h₆ h₇ := s7
  replace E7 : IsEnumOut h₇ e z ((i : Int) + 1) (.ref hp.objs.size) (hp.objs.size + 1) := E7
  have k7 : ∀ c o, c ≠ e → h₄.get? c = some o → h₇.get? c = some o := fun c o ce q => s7.extBut _ _ ce (s6.extBut _ _ ce (s5.extBut _ _ ce q))
  have k : ∀ c o, c ≠ e → h₁.get? c = some o → h₇.get? c = some o := fun c o ce q => k7 c o ce (k4 c o ce q)
  obtain ⟨b1, b2, TO1⟩ := TO1
  refine wpAny_bind (wpAny_letGo (wpAny_pure ⟨_, rfl, wpAny_pure (hQ x1 x2 h₇ tk hx1 hx2 E7 (z1.keep fun o q => k _ _ ez.symm q) ⟨b1, b2, k _ _ eT.symm TO1⟩
    (D1.frame _ _ _ s11 fun b hb o q => k b o (fun y => e1 (y ▸ hb)) q) (D2.frame _ _ _ s21 fun b hb o q => k b o (fun y => e2 (y ▸ hb)) q)
    (k _ _ (Nat.ne_of_gt el) t1) (k7 _ _ (Nat.ne_of_gt (Nat.lt_succ_of_lt el)) t4) fun c o c0 c1 c2 c3 c4 q => k c o c0 (k1 c o c1 c2 c3 c4 q))⟩))
theorem next_enumZ_end {Q : Option Value → Shared → Prop} (S : ZipSep2 z TI TO i1 i2 fp1 fp2) (D1 : Draws prog w A.in1.in1 i1 fp1 n1 P1 St1) (D2 : Draws prog w A.in1.in1 i2 fp2 n2 P2 St2) {k : Int} (he : IsEnum s.heap e z k old)
    (hz : ZS s.heap z TI TO) (hTI : IsTupOf2 s.heap TI (.ref i1) (.ref i2)) (hTO : IsTupOf2 s.heap TO a1 a2) (st1 : St1 i s.heap) (st2 : St2 i s.heap) (hle1 : i ≤ n1) (hle2 : i ≤ n2) (hend : i = n1 ∨ i = n2)
    (hQ : ∀ h' tk, (∀ c o, c ≠ z → c ≠ TO → c ≠ i1 → c ≠ i2 → s.heap.get? c = some o → h'.get? c = some o) → Q none { s with heap := h', toks := tk }) :
    wpAny (model prog w) A (pyNext (.ref e)) Q E s := by
  have hT : s.TypeIs (.ref e) "enumerate" := ⟨_, he, rfl⟩
  unfold pyNext
  refine wpAny_bind (wpAny_attempt (wpAny_callSpecial?_slot (name := Str.ofString "__next__") hT F.slot_enumerate_next
    (wpAny_call_entry F.slot_enumerate_next hT F.entry_enumerate_next ?_ (F.args_enumerate_next_1 _))))
  show wpAny _ _ (field (.ref e) 2 >>= _) _ _ _
  refine wpAny_bind (wpAny_field he rfl (x := .ref z) rfl ?_)
  refine wpAny_bind (nextOf_zip_end S D1 D2 hz hTI hTO st1 st2 hle1 hle2 hend fun h' tk x hk ⟨o, ho, hc⟩ => ?_)
  refine wpAny_bind (wpAny_isInstance (T := "StopIteration") (b := true) ⟨o, ho, hc⟩ isSubtype_stop ?_)
  exact wpAny_pure (hQ _ _ hk)
/-! ### they begin -/
theorem enum_new_zip (l TI TO : Addr) : Meets (Builtin.«enumerate.__new__» ⟨[.type "enumerate", .ref l], []⟩) (fun _ R s => IsZip s.heap l TI TO .none ∧
      R (.ok (.ret (.ref s.heap.objs.size))) { s with heap := s.heap.push { cls := .type "enumerate", data := .fields #[.none, .bool false, .ref l, rawInt 0, .none, .none] } }) :=
  .of_wp fun prog w A R s h => by
    obtain ⟨hp, g, d, tk, os⟩ := s
    obtain ⟨hl, h⟩ := h
    have subE := sub_enumerate
    wp_walk using wpAny_pyIter_zip hl
    refine wpAny_stack_any fun st => wpAny_pure ?_
    split
    · rename_i c _ _ _ _ _
      cases (c == Value.type "enumerate")
      · wp_walk using wpAny_pyIter_zip hl
        exact ⟨_, rfl, h⟩
      · wp_walk using wpAny_pyIter_zip hl
        exact ⟨_, rfl, h⟩
    · wp_walk using wpAny_pyIter_zip hl
      exact ⟨_, rfl, h⟩
theorem call_enum_zip {l : Addr} {Q : Value → Shared → Prop} (hL : IsZip s.heap l TI TO .none)
    (h : ∀ h', IsEnum h' s.heap.objs.size l 0 .none → (∀ b o, s.heap.get? b = some o → h'.get? b = some o) → Q (.ref s.heap.objs.size) { s with heap := h' }) :
    wpAny (model prog w) A (call (.type "enumerate") [.ref l]) Q E s := by
  refine callType_new F.called_enumerate (by decide) (F.typeCall_enumerate_1 _) (F.newCall_enumerate_1 _) (fun obj => F.args_object_init_2 obj _) F.entry_enumerate_new (enum_new_zip l TI TO) ⟨hL, ?_⟩
  have he : IsEnum (s.heap.push { cls := .type "enumerate", data := .fields #[.none, .bool false, .ref l, rawInt 0, .none, .none] }) s.heap.objs.size l 0 .none := Heap.get?_push_size _ rfl
  exact ⟨⟨_, he, rfl⟩, h _ he fun b o x => Heap.get?_push_of_some _ x⟩
end
end EzX

/-! for i, (x, y) in enumerate(zip(one, other)) -/
namespace EzX
open PySem PySem.Spec PyProof.Rows L2 RZ
/-- a list (false) or a tuple (true) -/
def sqK (K : PySem.W.Frag) (t : Bool) (H : Hp) (a : Addr) (xs : List V) : Prop := if t = true then SqT K H a xs else SqL K H a xs
def itK (t : Bool) (h : Heap) (it a : Addr) (i : Nat) : Prop := if t = true then h.IsTupleIter it a i else h.IsListIter it a i
def atK (t : Bool) (h : Heap) (a : Addr) (items : Array Value) : Prop := if t = true then h.IsTuple a items else h.IsList a items
def itO (t : Bool) (a : Addr) : Obj := if t = true then { cls := .type "tuple_iterator", data := .fields #[.ref a, .int 0 0] } else { cls := .type "list_iterator", data := .fields #[.ref a, .int 0 0] }
theorem drawsK {prog : Program} {w : World} {A : Around} (hh : A.handled = none) (t : Bool) (it a : Addr) (hne : a ≠ it) (items : Array Value) :
    Draws prog w A it [it, a] items.size (fun i v => items[i]? = some v) (fun i h => itK t h it a i ∧ atK t h a items) := by
  cases t with
  | true => exact Draws.tuple hh it a hne items
  | false => exact Draws.list hh it a hne items
theorem beginsK (t : Bool) (a : Addr) (items : Array Value) : Begins (.ref a) (itO t a) fun h => atK t h a items := by
  cases t with
  | true => exact begins_tuple a items
  | false => exact begins_list a items
theorem itK_0 {t : Bool} {h : Heap} {it a : Addr} (e : h.get? it = some (itO t a)) : itK t h it a 0 := by
  cases t with
  | true => exact ⟨_, e, rfl, rfl⟩
  | false => exact ⟨_, e, rfl, rfl⟩
theorem itK_obj {t : Bool} {h : Heap} {it a : Addr} {i : Nat} (x : itK t h it a i) : ∃ o, h.get? it = some o ∧ ∀ v, o.data ≠ .cell v := by
  cases t with
  | true => obtain ⟨o, e, _, d⟩ := x; exact ⟨o, e, fun v q => nomatch d.symm.trans q⟩
  | false => obtain ⟨o, e, _, d⟩ := x; exact ⟨o, e, fun v q => nomatch d.symm.trans q⟩
theorem itK_at {t : Bool} {h h' : Heap} {it a : Addr} {i : Nat} (x : itK t h it a i) (k : ∀ o, h.get? it = some o → h'.get? it = some o) : itK t h' it a i := by
  cases t with
  | true => exact (show h.IsTupleIter it a i from x).at k
  | false => exact (show h.IsListIter it a i from x).at k
theorem sqK_at {X : Cx} {pins : List (Addr × Obj)} {σ : L2.St} {H : Hp} {s : Shared} {t : Bool} {a : Addr} {xs : List V} (I : Inv X pins σ H s) (h : sqK X.K t H a xs) : ∃ its : List Value, Vals xs its ∧ atK t s.heap a its.toArray ∧ a < s.heap.objs.size := by
  cases t with
  | true =>
    obtain ⟨its, r, p, _⟩ := I.tuple h
    obtain ⟨o, e, q⟩ := p
    exact ⟨its, r, ⟨o, e, q⟩, Heap.lt_size e⟩
  | false =>
    obtain ⟨its, r, p, _⟩ := I.list h
    exact ⟨its, r, p.isList, p.lt⟩
theorem sqK_inj {X : Cx} {pins : List (Addr × Obj)} {σ : L2.St} {H : Hp} {s : Shared} {t : Bool} {a : Addr} {xs ys : List V} (I : Inv X pins σ H s) (h : sqK X.K t H a xs) (h' : sqK X.K t H a ys) : xs = ys := by
  cases t with
  | true => exact I.tuple_inj h h'
  | false => exact I.list_inj h h'
/-- their items in new pairs, those in new pairs with their numbers -/
def ItEz (K : PySem.W.Frag) (t1 t2 : Bool) (a b : Addr) : It :=
  ⟨fun i H => ∃ (xs ys : List V) (x y : V), sqK K t1 H a xs ∧ sqK K t2 H b ys ∧ xs[i]? = some x ∧ ys[i]? = some y,
    fun i H v H' => ∃ T1 T x y, v = .ref T ∧ H T1 = none ∧ H T = none ∧ T ≠ T1 ∧ H' = upd (upd H T1 (.tup [x, y])) T (.tup [.int (i : Nat), .ref T1]) ∧ (∀ xs, sqK K t1 H a xs → xs[i]? = some x) ∧ ∀ ys, sqK K t2 H b ys → ys[i]? = some y,
    fun i H => ∃ xs ys : List V, sqK K t1 H a xs ∧ sqK K t2 H b ys ∧ i ≤ xs.length ∧ i ≤ ys.length ∧ (i = xs.length ∨ i = ys.length)⟩
theorem turn_ez {P : Program} {w : World} {K : PySem.W.Frag} {elts : List Expr} {kk : Nat} {tpos : Pos} {t1 t2 : Bool} {a b e z TI TO i1 i2 : Addr} (S : ZipSep2 z TI TO i1 i2 [i1, a] [i2, b]) (na : a ≠ i1) (nb : b ≠ i2)
    (ez : e ≠ z) (eI : e ≠ TI) (eT : e ≠ TO) (e1 : e ∉ [i1, a]) (e2 : e ∉ [i2, b]) :
    Turn P w K (.Tuple elts kk tpos) (ItEz K t1 t2 a b) [e, z, TI, TO, i1, i2] e
      (fun i h => (∃ old, IsEnum h e z ((i : Nat) : Int) old) ∧ ZS h z TI TO ∧ IsTupOf2 h TI (.ref i1) (.ref i2) ∧ (∃ x y, IsTupOf2 h TO x y) ∧ itK t1 h i1 a i ∧ itK t2 h i2 b i) where
  mem := by simp
  obj := fun i h st c hc => by
    obtain ⟨⟨old, he⟩, ⟨f0, f, _, hz⟩, hTI, ⟨x, y, hTO⟩, h1, h2⟩ := st
    have e' : c = e ∨ c = z ∨ c = TI ∨ c = TO ∨ c = i1 ∨ c = i2 := by simpa using hc
    rcases e' with q | q | q | q | q | q
    · rw [q]; exact ⟨_, he, fun v q => nomatch q⟩
    · rw [q]; exact ⟨_, hz, fun v q => nomatch q⟩
    · rw [q]; exact ⟨_, hTI, fun v q => nomatch q⟩
    · rw [q]; exact ⟨_, hTO, fun v q => nomatch q⟩
    · rw [q]; exact itK_obj h1
    · rw [q]; exact itK_obj h2
  keep := fun i h h' st k => by
    obtain ⟨⟨old, he⟩, hz, hTI, ⟨x, y, hTO⟩, h1, h2⟩ := st
    exact ⟨⟨old, k e (by simp) _ he⟩, hz.keep fun o q => k z (by simp) o q, k TI (by simp) _ hTI, ⟨x, y, k TO (by simp) _ hTO⟩, itK_at h1 fun o q => k i1 (by simp) o q, itK_at h2 fun o q => k i2 (by simp) o q⟩
  item := by
    intro X hP hw hK hc i pins s σ H E I hf st hg
    subst hP hw hK
    obtain ⟨⟨old, he⟩, hz, hTI, ⟨x0, y0, hTO⟩, h1, h2⟩ := st
    obtain ⟨xs, ys, x, y, hqx, hqy, hx, hy⟩ := hg
    obtain ⟨its, rv, p, _⟩ := sqK_at I hqx
    obtain ⟨its2, rv2, p2, _⟩ := sqK_at I hqy
    obtain ⟨u, hu, ru⟩ := rv.get hx
    obtain ⟨u2, hu2, ru2⟩ := rv2.get hy
    have l1 : i < its.toArray.size := by simpa using (List.getElem?_eq_some_iff.mp hu).1
    have l2 : i < its2.toArray.size := by simpa using (List.getElem?_eq_some_iff.mp hu2).1
    have hh : X.A.in1.in1.handled = none := I.ok.hd hc
    refine next_enumZ_item S (drawsK hh t1 i1 a na its.toArray) (drawsK hh t2 i2 b nb its2.toArray) he hz hTI hTO ⟨h1, p⟩ ⟨h2, p2⟩ l1 l2 ez eT eI e1 e2 fun x1 x2 h' tk g1 g2 hE' hz' hTO' s1' s2' tp1 tp2 k => ?_
    obtain rfl : x1 = u := by
      have q : its.toArray[i]? = some u := by simpa using hu
      exact Option.some.inj (g1.symm.trans q)
    obtain rfl : x2 = u2 := by
      have q : its2.toArray[i]? = some u2 := by simpa using hu2
      exact Option.some.inj (g2.symm.trans q)
    refine ⟨_, rfl, wpAny_letOwnedTupleGo_enum (s := { s with heap := h', toks := tk + 1 }) hE' fun h'' he'' sb => ?_⟩
    replace sb : Heap.SameBut e h' h'' := sb
    have el : e < s.heap.objs.size := Heap.lt_size he
    have tp1' : IsTupOf2 h'' s.heap.objs.size x1 x2 := sb.extBut _ _ (Nat.ne_of_gt el) tp1
    have tp2' : IsTupOf2 h'' (s.heap.objs.size + 1) (.int i tk) (.ref s.heap.objs.size) := sb.extBut _ _ (Nat.ne_of_gt (Nat.lt_succ_of_lt el)) tp2
    have old' : ∀ c o, c ∉ [e, z, TI, TO, i1, i2] → s.heap.get? c = some o → h''.get? c = some o := fun c o hc q => sb.extBut _ _ (fun q' => hc (by simp [q'])) (k c o (fun q' => hc (by simp [q'])) (fun q' => hc (by simp [q'])) (fun q' => hc (by simp [q'])) (fun q' => hc (by simp [q'])) (fun q' => hc (by simp [q'])) q)
    -- first the pair
    have tA : (s.heap.push { cls := .type "tuple", data := .seq #[x1, x2] }).get? s.heap.objs.size = some { cls := .type "tuple", data := .seq #[x1, x2] } := Heap.get?_push_size _ rfl
    have IA : Inv X pins σ (upd H s.heap.objs.size (.tup [x, y])) { s with heap := s.heap.push { cls := .type "tuple", data := .seq #[x1, x2] }, toks := s.toks } :=
      I.laid (fun b u q => Heap.get?_push_of_some _ q) (Nat.le_refl _) ⟨by show 2 ≤ sizeLine; decide, [x1, x2], .cons ru (.cons ru2 .nil), ⟨_, tA, rfl, _, rfl⟩⟩
    have fA : ∀ c ∈ [e, z, TI, TO, i1, i2], c < s.heap.objs.size := fun c hcm => by
      have e' : c = e ∨ c = z ∨ c = TI ∨ c = TO ∨ c = i1 ∨ c = i2 := by simpa using hcm
      obtain ⟨f0, f, _, hz0⟩ := hz
      obtain ⟨_, q1, _⟩ := itK_obj h1
      obtain ⟨_, q2, _⟩ := itK_obj h2
      rcases e' with q | q | q | q | q | q
      · rw [q]; exact el
      · rw [q]; exact Heap.lt_size hz0
      · rw [q]; exact Heap.lt_size hTI
      · rw [q]; exact Heap.lt_size hTO
      · rw [q]; exact Heap.lt_size q1
      · rw [q]; exact Heap.lt_size q2
    have hfA : ∀ c ∈ [e, z, TI, TO, i1, i2], FpOk X pins (upd H s.heap.objs.size (.tup [x, y])) c := fun c hcm => by
      obtain ⟨f1, f2⟩ := hf c hcm
      exact ⟨by rw [upd_ne (Nat.ne_of_lt (fA c hcm))]; exact f1, f2⟩
    have szA : (s.heap.push { cls := .type "tuple", data := .seq #[x1, x2] }).objs.size = s.heap.objs.size + 1 := Heap.size_push ..
    have I1 : Inv X pins σ (upd (upd H s.heap.objs.size (.tup [x, y])) (s.heap.objs.size + 1) (.tup [.int (i : Nat), .ref s.heap.objs.size])) { s with heap := h'', toks := tk + 1 } :=
      IA.turnedNew (t' := tk + 1) (ch := [e, z, TI, TO, i1, i2]) (fun c o hcm q => by
        rcases Heap.get?_push_cases q with ⟨rfl, rfl⟩ | q
        · exact tp1'
        · exact old' c o hcm q) hfA (Nat.le_of_eq szA) ⟨by show 2 ≤ sizeLine; decide, [.int i tk, .ref s.heap.objs.size], .cons ⟨_, rfl⟩ (.cons rfl .nil), ⟨_, tp2', rfl, _, rfl⟩⟩
    refine ⟨.ref (s.heap.objs.size + 1), _, I1, rfl, ⟨s.heap.objs.size, s.heap.objs.size + 1, x, y, rfl, I.hok.fresh (Nat.le_refl _), I.hok.fresh (Nat.le_succ _), Nat.succ_ne_self _, rfl, fun l hl => by rw [sqK_inj I hl hqx]; exact hx, fun l hl => by rw [sqK_inj I hl hqy]; exact hy⟩,
      ⟨⟨.ref s.heap.objs.size, ?_⟩, hz'.keep fun o q => sb.extBut _ _ ez.symm q, ?_, ?_, itK_at s1'.1 fun o q => sb.extBut _ _ (fun y => e1 (y ▸ S.mem1)) q, itK_at s2'.1 fun o q => sb.extBut _ _ (fun y => e2 (y ▸ S.mem2)) q⟩, fun c hcm => ?_⟩
    · have q : ((i + 1 : Nat) : Int) = (i : Int) + 1 := by omega
      rw [q]
      exact he''
    · exact sb.extBut _ _ eI.symm (k _ _ eI.symm S.TIz S.TITO S.TIi1 S.TIi2 hTI)
    · obtain ⟨b1, b2, q⟩ := hTO'
      exact ⟨b1, b2, sb.extBut _ _ eT.symm q⟩
    · rw [upd_ne (Nat.ne_of_lt (Nat.lt_succ_of_lt (fA c hcm)))]
      exact (hfA c hcm).1
  done := by
    intro X hP hw hK hc i pins s σ H E I hf st hg
    subst hP hw hK
    obtain ⟨⟨old, he⟩, hz, hTI, ⟨x0, y0, hTO⟩, h1, h2⟩ := st
    obtain ⟨xs, ys, hqx, hqy, le1, le2, hend⟩ := hg
    obtain ⟨its, rv, p, _⟩ := sqK_at I hqx
    obtain ⟨its2, rv2, p2, _⟩ := sqK_at I hqy
    have l1 := rv.length
    have l2 := rv2.length
    have hh : X.A.in1.in1.handled = none := I.ok.hd hc
    exact next_enumZ_end S (drawsK hh t1 i1 a na its.toArray) (drawsK hh t2 i2 b nb its2.toArray) he hz hTI hTO ⟨h1, p⟩ ⟨h2, p2⟩ (i := i) (by simp; omega) (by simp; omega) (by simp; omega) fun h' tk hk =>
      ⟨rfl, I.turnedL (t' := tk) (ch := [e, z, TI, TO, i1, i2]) (fun c o hcm q => hk c o (fun q' => hcm (by simp [q'])) (fun q' => hcm (by simp [q'])) (fun q' => hcm (by simp [q'])) (fun q' => hcm (by simp [q'])) q) hf⟩
  self := fun A i s Q E st h => let ⟨⟨_, he⟩, _⟩ := st; wpAny_pyIter_enum he h
def iEnumZip (K : PySem.W.Frag) (ta : TA) : TI := fun σ H R => ta σ H fun vs H1 => ∃ (a b : Addr) (xs ys : List V) (t1 t2 : Bool), vs = [.ref a, .ref b] ∧ sqK K t1 H1 a xs ∧ sqK K t2 H1 b ys ∧ R (ItEz K t1 t2 a b) H1
theorem pi_enumZip {X : Cx} {e e2 : Expr} {ta : TA} {p pos p2 pos2 tpos : Pos} {elts : List Expr} {kk : Nat} (hg : Gl X "enumerate") (hm : X.mg "enumerate" = none) (hg2 : Gl X "zip") (hm2 : X.mg "zip" = none) (ha : PA X [e, e2] ta)
    (hs : starEach [e, e2] X.env = (false, eval e X.env) :: starEach [e2] X.env := by rfl) (hpl : (backTo pos2 (starEach [e2] X.env)).any (·.1) = false := by rfl)
    (ht : backTo pos (starEach [.Call (.Name "zip" p2) [e, e2] [] pos2] X.env) = [(false, eval (.Call (.Name "zip" p2) [e, e2] [] pos2) X.env)] := by rfl) :
    PI X (.Tuple elts kk tpos) (.Call (.Name "enumerate" p) [.Call (.Name "zip" p2) [e, e2] [] pos2] [] pos) (iEnumZip X.K ta) := by
  refine ⟨fun pins s σ H R I h => ?_⟩
  refine Call_ (ld_blt I hg hm boot_enumerate ?_)
  rw [ht]
  refine PyProof.Rows.callWith_type rfl (Calls.evalArgs_plain (Calls.spliced_cons ?_))
  refine Call_ (ld_blt I hg2 hm2 PyProof.Rows.boot_zip (PyProof.Rows.callWith_type1 (thn (ha.run pos2 pins s σ H _ I h) fun us s1 ⟨vs, H1, I1, r1, q1⟩ => ?_) hs hpl))
  obtain ⟨a, b, xs, ys, t1, t2, ex, hqx, hqy, q⟩ := q1
  subst ex
  cases r1 with
  | cons r rr =>
    cases rr with
    | cons r' rr =>
      cases rr
      cases r
      cases r'
      obtain ⟨its, rv, pp1, la⟩ := sqK_at I1 hqx
      obtain ⟨its2, rv2, pp2, lb⟩ := sqK_at I1 hqy
      refine zip_begins2 (beginsK t1 a its.toArray) (beginsK t2 b its2.toArray) pp1 pp2 fun h' hz hTI hTO h1 h2 hsz hk => Calls.spliced_nil ?_
      refine call_enum_zip (s := { s1 with heap := h' }) hz fun h2' he hk2 => wpAny_pyIter_enum he ?_
      have I2 : Inv X pins σ H1 { s1 with heap := h2' } := I1.kept (t' := s1.toks) fun c o q => hk2 c o (hk c o q)
      rw [show h'.objs.size = s1.heap.objs.size + 5 from hsz] at he ⊢
      refine ⟨s1.heap.objs.size + 5, [s1.heap.objs.size + 5, s1.heap.objs.size + 4, s1.heap.objs.size + 2, s1.heap.objs.size + 3, s1.heap.objs.size, s1.heap.objs.size + 1], _, _, H1, rfl, I2,
        turn_ez (a := a) (b := b) (t1 := t1) (t2 := t2) (zip_sep2 (N := s1.heap.objs.size) (fp1 := [a]) (fp2 := [b]) (fun c hc => by rw [List.mem_singleton.mp hc]; exact la) (fun c hc => by rw [List.mem_singleton.mp hc]; exact lb)) (Nat.ne_of_lt la) (Nat.ne_of_lt (Nat.lt_succ_of_lt lb))
          (show (s1.heap.objs.size + 5 : Nat) ≠ s1.heap.objs.size + 4 by omega) (show (s1.heap.objs.size + 5 : Nat) ≠ s1.heap.objs.size + 2 by omega) (show (s1.heap.objs.size + 5 : Nat) ≠ s1.heap.objs.size + 3 by omega)
          (fun hm => ?_) (fun hm => ?_), ⟨⟨.none, he⟩, (ZS.of hz).keep fun o q => hk2 _ o q, hk2 _ _ hTI, ⟨_, _, hk2 _ _ hTO⟩, itK_0 (hk2 _ _ h1), itK_0 (hk2 _ _ h2)⟩, fun c hcm => ?_, q⟩
      · rcases List.mem_cons.mp hm with z | z
        · have z' : (s1.heap.objs.size + 5 : Nat) = s1.heap.objs.size := z
          omega
        · have z' : (s1.heap.objs.size + 5 : Nat) = a := List.mem_singleton.mp z
          exact absurd la (by rw [← z']; exact Nat.not_lt.mpr (Nat.le_add_right _ _))
      · rcases List.mem_cons.mp hm with z | z
        · have z' : (s1.heap.objs.size + 5 : Nat) = s1.heap.objs.size + 1 := z
          omega
        · have z' : (s1.heap.objs.size + 5 : Nat) = b := List.mem_singleton.mp z
          exact absurd lb (by rw [← z']; exact Nat.not_lt.mpr (Nat.le_add_right _ _))
      · have hle : s1.heap.objs.size ≤ c := by
          have e' : c = s1.heap.objs.size + 5 ∨ c = s1.heap.objs.size + 4 ∨ c = s1.heap.objs.size + 2 ∨ c = s1.heap.objs.size + 3 ∨ c = s1.heap.objs.size ∨ c = s1.heap.objs.size + 1 := by simpa using hcm
          rcases e' with z | z | z | z | z | z
          · rw [z]; exact Nat.le_add_right _ _
          · rw [z]; exact Nat.le_add_right _ _
          · rw [z]; exact Nat.le_add_right _ _
          · rw [z]; exact Nat.le_add_right _ _
          · rw [z]; exact Nat.le_refl _
          · rw [z]; exact Nat.le_add_right _ _
        exact I1.fpOk hle (I1.hok.fresh hle)
/-- new pairs of what stands at the same place, with their numbers -/
def YEz (xs ys : List V) : Nat → Hp → V → Hp → Prop := fun i H v H' => ∃ T1 T x y, v = .ref T ∧ H T1 = none ∧ H T = none ∧ T ≠ T1 ∧ H' = upd (upd H T1 (.tup [x, y])) T (.tup [.int (i : Nat), .ref T1]) ∧ xs[i]? = some x ∧ ys[i]? = some y
theorem walk_ez {K : PySem.W.Frag} {t1 t2 : Bool} {a b : Addr} {xs ys : List V} {n : Nat} (hn : n = min xs.length ys.length) : Walk (ItEz K t1 t2 a b) n (fun H => sqK K t1 H a xs ∧ sqK K t2 H b ys) (YEz xs ys) := by
  refine ⟨fun i H hi q => ?_, fun H q => ⟨xs, ys, q.1, q.2, by omega, by omega, by omega⟩, fun i H v H' hi q ⟨T1, T, x, y, e1, e2, e3, e4, e5, f1, f2⟩ => ⟨T1, T, x, y, e1, e2, e3, e4, e5, f1 xs q.1, f2 ys q.2⟩⟩
  have h1 : i < xs.length := by omega
  have h2 : i < ys.length := by omega
  exact ⟨xs, ys, _, _, q.1, q.2, List.getElem?_eq_getElem h1, List.getElem?_eq_getElem h2⟩
end EzX

/-! whole numbers, numbered: a list or a tuple of them -/
namespace K27
open PySem PySem.Spec PyProof.Rows L2
def keyI (n : Nat) : Key := Sum.inl (n : Int)
theorem keyI_inj (a b : Nat) (h : keyI a = keyI b) : a = b := by
  have := Sum.inl.inj h
  omega
/-- a list of them; nobody's stay -/
def spNbS : Sp := fun vs H Q _ => ∃ (a : Addr) (l : List (Option Nat)), vs = [.ref a] ∧ Sq H a (vals l) ∧ l.length ≤ 64 ∧ ∀ (H' : Hp) (z : Addr), Same H H' → H z = none → H' z = some (.lst (vals (num l))) → Q (.ref z) H'
section
variable {P : Program} {w : World} {K : PySem.W.Frag} {mg : Str → Option Value} {base : Heap}
theorem ok_nbS {f : Addr} {fd : FuncData} (F : FnP K "numbered" sPNumbered f fd) (z_len : mg "len" = none) : FnOk P w K mg base CX0 1 f fd ["values"] spNbS := by
  have sc : FnScope ["values", "numbers", "found", "value"] ["values"] (defScope sPNumbered) := ⟨rfl, rfl, rfl, by decide +kernel, rfl, by decide +kernel, by decide +kernel⟩
  refine F.ok sc (fun vs H Q E h => ?_) (fun cdv A outer s H vs Q E hr h => ?_)
  · obtain ⟨a, l, rfl, _⟩ := h
    rfl
  · obtain ⟨a, l, rfl, ha, hl, q⟩ := h
    have hu := hu_of hr
    refine ⟨_, PSs.nox (pss_cons (ps_set (i := 1) sc.nd rfl (.inl rfl) pe_dnewK)
    (pss_cons (ps_set (i := 2) sc.nd rfl (.inl rfl) (pe_lst pa_nil))
    (pss_cons (ps_for PassesOwn.never rfl (pi_or (pi_list (pv 0)) (pi_tup (pv 0))) (pg_name (i := 3) sc.nd rfl (.inl rfl))
      (pss_cons (ps_if (PW.pt (pw_and (pt_cmpR op_notN (pv 3) pe_non (nomark _)) (pw_and1 (pt_cmp (pc_dnotin hu (pv 3) (pv 1))))))
        (pss_one (ps_dput hu (pv 1) (pv 3) (pe_callB call_lenD (by rfl) z_len boot_len (pa_cons (pv 1) pa_nil)) rfl))
        pss_nil)
      (pss_one (ps_expr (pe_bm PySem.F.plainAttrs_list PySem.F.slot_list_append PySem.F.type_list_append mt_append (pv 2) (pa_cons (pe_getN hr.units (pv 1) (pv 3) ⟨by rfl, by rfl, by rfl, by rfl⟩) pa_nil))))))
    (pss_one (ps_ret (pv 2)))))), ?_⟩
    intro d nd
    have sd := same_upd (o := .dK []) nd
    refine ⟨(by show 0 ≤ sizeLine; decide), fun g ng => ?_⟩
    have sg := same_upd (o := .lst []) ng
    have dg : d ≠ g := ne_of_none upd_same ng
    have ng0 : H g = none := by rw [upd_ne (Ne.symm dg)] at ng; exact ng
    have kp : ∀ {H' : Hp}, Same H H' → Kp a (upd (upd H d (.dK [])) g (.lst [])) H' := fun {H'} s o e => by
      rcases ha with h | h
      · exact (s _ _ h).trans ((sg _ _ (sd _ _ h)).symm.trans e)
      · exact (s _ _ h).trans ((sg _ _ (sd _ _ h)).symm.trans e)
    refine seq_any (fun Q q => ⟨_, rfl, q⟩) (ha.same (sd.trans sg)) fun it G wk keep => for_it (by rw [List.length_map] at wk; exact wk) (fun i σ H' => ∃ (met : List Nat) (x3 : Option V), σ = [some (.ref a), some (.ref d), some (.ref g), x3] ∧ numA met (l.drop i) = (num l).drop i ∧ met.length ≤ i ∧ H' d = some (.dK (encM keyI 0 met)) ∧ H' g = some (.lst (vals ((num l).take i))) ∧ Same H H')
      ⟨[], none, rfl, rfl, Nat.le_refl _, sg _ _ upd_same, upd_same, sd.trans sg⟩ (fun i σ H' _ ⟨_, _, _, _, _, _, _, s'⟩ => keep _ (kp s')) ?_ ?_
    · rintro i y σ H1 H2 hi ⟨met, x3, rfl, en, ml, hd, hg, s1⟩ ⟨rfl, ev⟩
      rw [vals_get] at ev
      obtain ⟨o, eo, rfl⟩ := Option.map_eq_some_iff.mp ev
      obtain ⟨t1, t2⟩ := num_turn en eo
      have il : i < l.length := (List.getElem?_eq_some_iff.mp eo).1
      have fin : ∀ H3 : Hp, H3 d = some (.dK (encM keyI 0 (metN met o))) → H3 g = some (.lst (vals ((num l).take i))) → Same H H3 →
          ∃ (met' : List Nat) (x3 : Option V), [some (V.ref a), some (.ref d), some (.ref g), some (optV o)] = [some (.ref a), some (.ref d), some (.ref g), x3] ∧ numA met' (l.drop (i + 1)) = (num l).drop (i + 1) ∧ met'.length ≤ i + 1 ∧ (upd H3 g (.lst (vals ((num l).take i) ++ [optV (oneN met o)]))) d = some (.dK (encM keyI 0 met')) ∧ (upd H3 g (.lst (vals ((num l).take i) ++ [optV (oneN met o)]))) g = some (.lst (vals ((num l).take (i + 1)))) ∧ Same H (upd H3 g (.lst (vals ((num l).take i) ++ [optV (oneN met o)]))) := fun H3 h1 h2 h3 =>
        ⟨metN met o, _, rfl, t2, Nat.le_trans (metN_len met o) (Nat.succ_le_succ ml), by rw [upd_ne dg]; exact h1, by rw [upd_same, take_snoc' t1, vals_app]; rfl, fun b u e => by rw [upd_ne (ne_of_none e ng0)]; exact h3 _ _ e⟩
      have few : (vals ((num l).take i)).length < sizeLine := by
        rw [List.length_map]
        refine Nat.lt_of_le_of_lt (Nat.le_trans (List.length_take_le _ _) (Nat.le_trans (Nat.le_of_lt il) hl)) (by decide)
      cases o with
      | none =>
        refine ⟨_, rfl, rfl, _, rfl, iteF (iteF ?_)⟩
        refine ⟨_, rfl, .inl ⟨rfl, _, SqL.of hg⟩, _, rfl, d, rfl, .inl ⟨_, .inl hd⟩, _, rfl, .inr ⟨rfl, .inl ⟨_, .inl hd⟩, g, _, .non, rfl, rfl, hg, few, ?_⟩⟩
        exact fin H2 hd hg s1
      | some x =>
        refine ⟨_, rfl, rfl, _, rfl, iteT ?_⟩
        refine ⟨_, rfl, _, rfl, d, _, rfl, DGet.k (k := keyI x) hd, _, rfl, ?_⟩
        rw [valV_encM keyI_inj]
        by_cases hx : x ∈ met
        · rw [if_pos hx]
          refine iteF ?_
          have em : metN met (some x) = met := if_pos hx
          refine ⟨_, rfl, .inl ⟨rfl, _, SqL.of hg⟩, _, rfl, d, rfl, .inl ⟨_, .inl hd⟩, _, rfl, .inl ⟨_, DGet.k (k := keyI x) hd, g, _, _, rfl, rfl, hg, few, ?_⟩⟩
          have gm := get_met keyI_inj met x
          rw [em] at gm
          rw [gm]
          exact fin H2 (by rw [em]; exact hd) hg s1
        · rw [if_neg hx]
          refine iteT ?_
          have em : metN met (some x) = met ++ [x] := if_neg hx
          refine ⟨_, rfl, d, _, rfl, hd, _, rfl, _, rfl, d, _, rfl, DPut.k (k := keyI x) hd (by rw [encM_len]; exact Nat.lt_of_le_of_lt (Nat.le_trans ml (Nat.le_trans (Nat.le_of_lt il) hl)) (by decide)), ?_⟩
          rw [encM_len, putK_encM keyI_inj hx, ← em]
          have hg3 : upd H2 d (.dK (encM keyI 0 (metN met (some x)))) g = some (.lst (vals ((num l).take i))) := (upd_ne (Ne.symm dg)).trans hg
          have s3 : Same H (upd H2 d (.dK (encM keyI 0 (metN met (some x))))) := fun b u e => by rw [upd_ne (ne_of_none e nd)]; exact s1 _ _ e
          refine ⟨_, rfl, .inl ⟨rfl, _, SqL.of hg3⟩, _, rfl, d, rfl, .inl ⟨_, .inl upd_same⟩, _, rfl, .inl ⟨_, DGet.k (k := keyI x) upd_same, g, _, _, rfl, rfl, hg3, few, ?_⟩⟩
          rw [get_met keyI_inj]
          exact fin _ upd_same hg3 s3
    · rintro σ H1 ⟨met, x3, rfl, _, _, _, hg, s1⟩
      refine ⟨_, rfl, q H1 g s1 ng0 ?_⟩
      rw [hg, List.take_of_length_le (by rw [num_len]; exact Nat.le_refl _)]
end
end K27

/-! the first place at which two rows of numbers differ -/
namespace K27
open PySem PySem.Spec PyProof.Rows L2
def partAt (i : Nat) : List (Option Nat) → List (Option Nat) → Option Nat
  | x :: xs, y :: ys => if x = y then partAt (i + 1) xs ys else some i
  | _, _ => none
def spFP : Sp := fun vs H Q _ => ∃ (a b : Addr) (p q : List (Option Nat)), vs = [.ref a, .ref b] ∧ Sq H a (vals p) ∧ Sq H b (vals q) ∧ ∀ H', Same H H' → Q (optV (partAt 0 p q)) H'
theorem Sq.k {K : PySem.W.Frag} {H : Hp} {a : Addr} {xs : List V} (h : Sq H a xs) : ∃ t : Bool, EzX.sqK K t H a xs ∧ ∀ H', Kp a H H' → EzX.sqK K t H' a xs := by
  rcases h with h | h
  · exact ⟨false, SqL.of h, fun H' k => SqL.of (k _ h)⟩
  · exact ⟨true, SqT.of h, fun H' k => SqT.of (k _ h)⟩
theorem part_step {p q : List (Option Nat)} {i : Nat} {x y : Option Nat} (hx : p[i]? = some x) (hy : q[i]? = some y) : partAt i (p.drop i) (q.drop i) = if x = y then partAt (i + 1) (p.drop (i + 1)) (q.drop (i + 1)) else some i := by
  rw [drop_cons' hx, drop_cons' hy]
  rfl
theorem scal_opt (x y : Option Nat) : scal (optV x) (optV y) = true := by
  cases x <;> cases y <;> rfl
theorem part_end {p q : List (Option Nat)} {i : Nat} (h : i = min p.length q.length) : partAt i (p.drop i) (q.drop i) = none := by
  rcases Nat.le_total p.length q.length with l | l
  · rw [List.drop_of_length_le (l := p) (by omega)]
    unfold partAt
    rfl
  · rw [List.drop_of_length_le (l := q) (by omega)]
    cases p.drop i <;> rfl
section
variable {P : Program} {w : World} {K : PySem.W.Frag} {mg : Str → Option Value} {base : Heap}
theorem ok_fp {f : Addr} {fd : FuncData} (F : FnP K "_first_parting" sPFirstParting f fd) (z_enumerate : mg "enumerate" = none) (z_zip : mg "zip" = none) : FnOk P w K mg base CX0 1 f fd ["one", "other"] spFP := by
  have sc : FnScope ["one", "other", "place", "entry", "other_entry"] ["one", "other"] (defScope sPFirstParting) := ⟨rfl, rfl, rfl, by decide +kernel, rfl, by decide +kernel, by decide +kernel⟩
  refine F.ok sc (fun vs H Q E h => ?_) (fun cdv A outer s H vs Q E hr h => ?_)
  · obtain ⟨a, b, p, q, rfl, _⟩ := h
    rfl
  · obtain ⟨a, b, p, q, rfl, ha, hb, k⟩ := h
    have hu := hu_of hr
    refine ⟨_, PSs.nox (pss_cons (ps_for PassesOwn.never rfl (EzX.pi_enumZip (by rfl) z_enumerate (by rfl) z_zip (pa_cons (pv 0) (pa_cons (pv 1) pa_nil))) (pg_tup (by rfl) (pgs_cons (pg_name (i := 2) sc.nd rfl (.inl rfl)) (pgs_cons (pg_tup (by rfl) (pgs_cons (pg_name (i := 3) sc.nd rfl (.inl rfl)) (pgs_cons (pg_name (i := 4) sc.nd rfl (.inl rfl)) pgs_nil))) pgs_nil)))
      (pss_one (ps_if (pt_cmpR op_ne (pv 3) (pv 4) (nomark _))
        (pss_one (ps_ret (pv 2)))
        pss_nil)))
    (pss_one (ps_ret pe_non))), ?_⟩
    obtain ⟨t1, a1, a2⟩ := ha.k (K := K)
    obtain ⟨t2, b1, b2⟩ := hb.k (K := K)
    refine ⟨_, rfl, _, rfl, a, b, _, _, t1, t2, rfl, a1, b1, for_it (EzX.walk_ez rfl) (fun i σ H' => ∃ (x2 x3 x4 : Option V), σ = [some (.ref a), some (.ref b), x2, x3, x4] ∧ partAt i (p.drop i) (q.drop i) = partAt 0 p q ∧ Same H H')
      ⟨none, none, none, rfl, rfl, Same.refl _⟩ (fun i σ H' _ ⟨_, _, _, _, _, s⟩ => ⟨a2 _ (Same.kp s), b2 _ (Same.kp s)⟩) ?_ ?_⟩
    · rintro i v σ H1 H2 hi ⟨x2, x3, x4, rfl, hp, s1⟩ ⟨T1, T, x, y, rfl, n1, n2, ne, rfl, ex, ey⟩
      rw [vals_get] at ex ey
      obtain ⟨ox, eo, rfl⟩ := Option.map_eq_some_iff.mp ex
      obtain ⟨oy, eo2, rfl⟩ := Option.map_eq_some_iff.mp ey
      rw [part_step eo eo2] at hp
      have sA := same_upd (o := .tup [optV ox, optV oy]) n1
      have n3 : upd H1 T1 (.tup [optV ox, optV oy]) T = none := by rw [upd_ne ne]; exact n2
      have sB := same_upd (o := .tup [.int (i : Int), .ref T1]) n3
      have s2 := s1.trans (sA.trans sB)
      refine ⟨T, _, rfl, .inl (.inl upd_same), rfl, _, _, rfl, _, _, rfl, ⟨T1, _, rfl, .inl (.inl (sB _ _ upd_same)), rfl, _, _, rfl, _, _, rfl, rfl, rfl, ?_⟩⟩
      refine ⟨_, rfl, _, rfl, scal_opt ox oy, _, rfl, ?_⟩
      by_cases e : ox = oy
      · rw [if_pos e] at hp
        rw [decide_eq_true (congrArg optV e)]
        exact iteF ⟨_, _, _, rfl, hp, s2⟩
      · rw [if_neg e] at hp
        rw [decide_eq_false (fun z => e (optV_inj z))]
        refine iteT ⟨_, rfl, ?_⟩
        have z := k _ s2
        rw [← hp] at z
        exact z
    · rintro σ H1 ⟨x2, x3, x4, rfl, hp, s1⟩
      rw [List.length_map, List.length_map] at hp
      rw [part_end rfl] at hp
      have z := k H1 s1
      rw [← hp] at z
      exact z
end
end K27

/-! the first place at which a row of names does not show a pattern -/
namespace K27
open PySem PySem.Spec PyProof.Rows L2
structure DfE (P : Program) (w : World) (K : PySem.W.Frag) (mg : Str → Option Value) (base : Heap) (x : Str) (k : Nat) (ps : List Str) (sp : Sp) (f : Addr) (fd : FuncData) : Prop where
  gl : mg x = some (.ref f)
  ok : FnOk P w K mg base (L2.CX P w) k f fd ps sp
  bi : Binds K fd ps []
  kp : PySem.W.keepIn K (.ref f) = true
/-- an error with these fields is raised -/
def Fails (CN : Addr) (H : Hp) (E : XK) (i : Nat) (z : Str) : Prop := ∀ (H' : Hp) (d : Addr), H d = none → H' d = some (.xd (patF (i : Nat) z)) → Same H H' → E (.ref CN) (some d) H'
theorem Fails.same {CN : Addr} {H H1 : Hp} {E : XK} {i : Nat} {z : Str} (f : Fails CN H E i z) (s : Same H H1) : Fails CN H1 E i z := fun H' d n e s' => f H' d (none_of s n) e (s.trans s')
theorem name_opt {v : V} (h : v = .non ∨ nameV v = true) : ∃ o, v = optV o := by
  rcases h with rfl | h
  · exact ⟨none, rfl⟩
  · cases v with
    | int i =>
      have h2 : (decide (0 ≤ i) && decide (i ≤ 10 ^ 30)) = true := h
      rw [Bool.and_eq_true, decide_eq_true_iff] at h2
      refine ⟨some i.toNat, ?_⟩
      show V.int i = V.int (i.toNat : Int)
      rw [Int.toNat_of_nonneg h2.1]
    | _ => cases h
theorem badAt_vals : ∀ {xs : List V} {i : Nat}, badAt i xs = none → ∃ l, xs = vals l
  | [], _, _ => ⟨[], rfl⟩
  | x :: xs, i, h => by
    have h : (if x = .non ∨ nameV x = true then badAt (i + 1) xs else some (i, "name")) = none := h
    by_cases c : x = .non ∨ nameV x = true
    · rw [if_pos c] at h
      obtain ⟨l, rfl⟩ := badAt_vals h
      obtain ⟨o, rfl⟩ := name_opt c
      exact ⟨o :: l, rfl⟩
    · rw [if_neg c] at h
      cases h
theorem nf_none {xs : List V} {b : Bool} (h : nf xs b = none) : b = true ∧ xs.length ≤ 40 ∧ ∃ l, xs = vals l := by
  unfold nf at h
  by_cases c : b = true ∧ xs.length ≤ 40
  · rw [if_pos c] at h
    exact ⟨c.1, c.2, badAt_vals h⟩
  · rw [if_neg c] at h
    cases h
def spFD (CP CN : Addr) : Sp := fun vs H Q E => ∃ (x : Addr) (v : V) (p : List (Option Nat)) (xs : List V) (b : Bool), vs = [.ref x, v] ∧ PatAt CP H x p ∧ Ns H v xs b ∧ (∀ i z, nf xs b = some (i, z) → Fails CN H E i z) ∧
  (nf xs b = none → xs.length ≠ p.length → Fails CN H E xs.length "length") ∧ ∀ l, nf xs b = none → xs = vals l → l.length = p.length → ∀ H', Same H H' → Q (optV (partAt 0 p (num l))) H'
section
variable {P : Program} {w : World} {K : PySem.W.Frag} {mg : Str → Option Value} {base : Heap}
theorem ok_fd {f fC fF fB fX CP CN : Addr} {fd fdC fdF fdB fdX : FuncData} (F : FnP K "first_difference" sPFirstDifference f fd) (T : PatC K CP) (z_len : mg "len" = none) (dN : DfE P w K mg base "check_names" 3 ["names"] (spCN CN) fC fdC)
    (dFP : Df P w K mg base "_first_parting" 1 ["one", "other"] spFP fF fdF) (dNb : Df P w K mg base "numbered" 1 ["values"] spNbS fB fdB) (X : ErrC P w K mg base "BadNames" ["self", "index", "what"] spPatErr CN fX fdX) :
    FnOk P w K mg base (L2.CX P w) 4 f fd ["pattern", "names"] (spFD CP CN) := by
  have sc : FnScope ["pattern", "names"] ["pattern", "names"] (defScope sPFirstDifference) := ⟨rfl, rfl, rfl, by decide +kernel, rfl, by decide +kernel, by decide +kernel⟩
  refine F.ok sc (fun vs H Q E h => ?_) (fun cdv A outer s H vs Q E hr h => ?_)
  · obtain ⟨x, v, p, xs, b, rfl, _⟩ := h
    rfl
  · obtain ⟨x, v, p, xs, b, rfl, hx, hn, q1, q2, q3⟩ := h
    have hr1 := hr.mono (show 1 ≤ 3 by decide)
    have hr2 := hr.mono (show 2 ≤ 3 by decide)
    have hr3 := hr.mono (show 3 ≤ 3 by decide)
    refine ⟨_, (pss_cons (ps_expr (pe_callS dN.ok hr3 (by rfl) dN.gl dN.kp dN.bi (fun σ => passAt (takes_of rfl rfl rfl rfl) σ) (pa_cons (pv 1) pa_nil)))
    (pss_cons (ps_if (pt_cmpR op_ne (pe_callB call_len_seq (by rfl) z_len boot_len (pa_cons (pv 1) pa_nil)) (pe_callB call_len_seq (by rfl) z_len boot_len (pa_cons (pe_fld (pv 0) rfl) pa_nil)) (nomark _))
      (pss_one (ps_raise rfl (takes_of rfl rfl rfl rfl) (pmk_oex X.cl X.ini X.ty X.ok hr2 X.bi .nil pass0 (by rfl) X.gl (pa_cons (pe_callB call_len_seq (by rfl) z_len boot_len (pa_cons (pv 1) pa_nil)) (pa_cons pe_str pa_nil)))))
      pss_nil)
    (pss_one (ps_ret (pe_call dFP.ok hr1 (by rfl) dFP.gl dFP.kp dFP.bi .nil pass0 (pa_cons (pe_fld (pv 0) rfl) (pa_cons (pe_call dNb.ok hr1 (by rfl) dNb.gl dNb.kp dNb.bi .nil pass0 (pa_cons (pv 1) pa_nil)) pa_nil))))))), ?_⟩
    refine ⟨_, rfl, v, xs, b, rfl, hn, fun hok H1 s1 => ?_, fun i z e H' d n e2 s' => q1 i z e H' d n e2 s'⟩
    obtain ⟨dx, tx, cx, ex, etx, lx, ecx⟩ := hx.sm s1
    obtain ⟨hb, hl, l, el⟩ := nf_none hok
    cases hn with
    | bad => cases hb
    | @seq a _ hS hl2 od =>
      have hS1 := hS.same s1
      refine ⟨_, rfl, a, _, rfl, hS1.or, _, rfl, x, CP, dx, _, _, rfl, ex, T.cl, T.nE, rfl, tx, _, rfl, .inr (SqT.of etx), rfl, _, rfl, ?_⟩
      rw [List.length_map]
      have ll : xs.length = l.length := by rw [el, List.length_map]
      by_cases e : xs.length = p.length
      · rw [e, decide_eq_true rfl]
        refine iteF (tNext_of ?_)
        refine ⟨_, rfl, x, CP, dx, _, _, rfl, ex, T.cl, T.nE, rfl, _, rfl, a, l, rfl, by rw [← el]; exact hS1, by omega, fun H2 z s2 nz hz => ?_⟩
        refine ⟨tx, z, p, num l, rfl, .inr (s2 _ _ etx), .inl hz, fun H3 s3 => q3 l hok el (by omega) H3 (s1.trans (s2.trans s3))⟩
      · rw [decide_eq_false (fun z => e (by have := V.int.inj z; omega))]
        exact iteT ⟨_, rfl, a, _, rfl, hS1.or, (by show 2 ≤ 1000; decide), fun av nav => fail_nm (q2 hok e) s1 av nav⟩
end
end K27

/-! comprehensions, in general -/
namespace K27
open PySem PySem.Spec PyProof.Rows L2
/-- what was built so far; only the new list's place may change -/
structure LcR (D : Addr) (R : Nat → List V → Hp → Prop) : Prop where
  keep : ∀ i acc H H' ys, R i acc H → H D = some (.lst ys) → (∀ b o, b ≠ D → H b = some o → H' b = some o) → R i acc H'
  few : ∀ i acc H, R i acc H → acc.length ≤ i
theorem lc_N {J : It} {xs : List V} {G : Hp → Prop} (w : Walk J xs.length G (YAt xs)) {j : Nat} {tt : TT} {te : TE} {vs : List Nat} {σ : L2.St} {H1 : Hp} {D : Addr} {Qd : Hp → Prop} (R : Nat → List V → Hp → Prop) (hR : LcR D R) (nD : H1 D = none) (hl : xs.length < sizeLine)
    (h0 : R 0 [] (upd H1 D (.lst []))) (hG : ∀ H', Same H1 H' → G H') (hw : ∀ x, wipe ((wipe σ vs).set j (some x)) vs = wipe σ vs)
    (hs : ∀ i x acc H', xs[i]? = some x → Same H1 H' → H' D = some (.lst acc) → R i acc H' → tt ((wipe σ vs).set j (some x)) H' fun b H3 => Same H' H3 ∧ if b = true then te ((wipe σ vs).set j (some x)) H3 fun y H4 => Same H3 H4 ∧ R (i + 1) (acc ++ [y]) H4 else R (i + 1) acc H3)
    (mt : ∀ σ H (Q Q' : Bool → Hp → Prop), (∀ b H', Q b H' → Q' b H') → tt σ H Q → tt σ H Q') (me : ∀ σ H (Q Q' : VK), (∀ v H', Q v H' → Q' v H') → te σ H Q → te σ H Q')
    (hd : ∀ H' acc, Same H1 H' → H' D = some (.lst acc) → R xs.length acc H' → Qd H') :
    ∃ W : Nat → Nat → Hp → Prop, (∃ m, W 0 m (upd H1 D (.lst []))) ∧ ∀ i m H, W i m H →
      (J.stop i H ∧ Qd H) ∨ (J.go i H ∧ ∃ Nx : Hp → Prop, (∀ H', Nx H' → ∃ m', m' < m ∧ W (i + 1) m' H') ∧ ∀ x H', J.yld i H x H' → gName j x (wipe σ vs) H' fun σ2 H2 => wipe σ2 vs = wipe σ vs ∧ tt σ2 H2 fun b H3 =>
        if b = true then te σ2 H3 fun y H4 => ∃ acc, H4 D = some (.lst acc) ∧ acc.length < sizeLine ∧ Nx (upd H4 D (.lst (acc ++ [y]))) else Nx H3) := by
  refine lc_it w (fun i H' => Same H1 H' ∧ ∃ acc, H' D = some (.lst acc) ∧ R i acc H') ⟨same_upd nD, [], upd_same, h0⟩ (fun i H' _ h => hG H' h.1) ?_ (fun H' ⟨s, acc, e, r⟩ => hd H' acc s e r)
  rintro i x H2 H3 hi ⟨s2, acc, eD, r⟩ ⟨rfl, ev⟩
  refine ⟨hw x, mt _ _ _ _ ?_ (hs i x acc _ ev s2 eD r)⟩
  rintro b H4 ⟨s4, hb⟩
  have eD4 := s4 _ _ eD
  cases b with
  | false => exact ⟨s2.trans s4, acc, eD4, hb⟩
  | true =>
    refine me _ _ _ _ ?_ hb
    rintro y H5 ⟨s5, r5⟩
    have eD5 := s5 _ _ eD4
    refine ⟨acc, eD5, Nat.lt_of_le_of_lt (hR.few _ _ _ r) (by omega), fun b u e => ?_, acc ++ [y], upd_same, hR.keep _ _ _ _ _ r5 eD5 fun b u nb e => (upd_ne nb).trans e⟩
    rw [upd_ne (ne_of_none e nD)]
    exact s5 _ _ (s4 _ _ (s2 _ _ e))
theorem lc_E {K : PySem.W.Frag} {J : It} {xs : List V} {G : Hp → Prop} (w : Walk J xs.length G (YPair (fun i => some (.int (i : Nat))) (fun i => xs[i]?))) {j1 j2 : Nat} {tt : TT} {te : TE} {vs : List Nat} {σ : L2.St} {H1 : Hp} {D : Addr} {Qd : Hp → Prop} (R : Nat → List V → Hp → Prop) (hR : LcR D R) (nD : H1 D = none) (hl : xs.length < sizeLine)
    (h0 : R 0 [] (upd H1 D (.lst []))) (hG : ∀ H', Same H1 H' → G H') (hw : ∀ u x, wipe (((wipe σ vs).set j1 (some u)).set j2 (some x)) vs = wipe σ vs)
    (hs : ∀ (i : Nat) x acc H', xs[i]? = some x → Same H1 H' → H' D = some (.lst acc) → R i acc H' → tt (((wipe σ vs).set j1 (some (.int (i : Int)))).set j2 (some x)) H' fun b H3 => Same H' H3 ∧ if b = true then te (((wipe σ vs).set j1 (some (.int (i : Int)))).set j2 (some x)) H3 fun y H4 => Same H3 H4 ∧ R (i + 1) (acc ++ [y]) H4 else R (i + 1) acc H3)
    (mt : ∀ σ H (Q Q' : Bool → Hp → Prop), (∀ b H', Q b H' → Q' b H') → tt σ H Q → tt σ H Q') (me : ∀ σ H (Q Q' : VK), (∀ v H', Q v H' → Q' v H') → te σ H Q → te σ H Q')
    (hd : ∀ H' acc, Same H1 H' → H' D = some (.lst acc) → R xs.length acc H' → Qd H') :
    ∃ W : Nat → Nat → Hp → Prop, (∃ m, W 0 m (upd H1 D (.lst []))) ∧ ∀ i m H, W i m H →
      (J.stop i H ∧ Qd H) ∨ (J.go i H ∧ ∃ Nx : Hp → Prop, (∀ H', Nx H' → ∃ m', m' < m ∧ W (i + 1) m' H') ∧ ∀ x H', J.yld i H x H' → gTup K 2 (gCons (gName j1) (gCons (gName j2) gNil)) x (wipe σ vs) H' fun σ2 H2 => wipe σ2 vs = wipe σ vs ∧ tt σ2 H2 fun b H3 =>
        if b = true then te σ2 H3 fun y H4 => ∃ acc, H4 D = some (.lst acc) ∧ acc.length < sizeLine ∧ Nx (upd H4 D (.lst (acc ++ [y]))) else Nx H3) := by
  refine lc_it w (fun i H' => Same H1 H' ∧ ∃ acc, H' D = some (.lst acc) ∧ R i acc H') ⟨same_upd nD, [], upd_same, h0⟩ (fun i H' _ h => hG H' h.1) ?_ (fun H' ⟨s, acc, e, r⟩ => hd H' acc s e r)
  rintro i x H2 H3 hi ⟨s2, acc, eD, r⟩ ⟨T, u, v, rfl, nT, rfl, eu, ev⟩
  obtain rfl : u = .int (i : Int) := (Option.some.inj eu).symm
  have sT := same_upd (o := .tup [.int (i : Int), v]) nT
  have eDT := sT _ _ eD
  have rT := hR.keep _ _ _ _ _ r eD fun b o nb e => sT b o e
  refine ⟨T, _, rfl, .inl (.inl upd_same), rfl, _, _, rfl, _, _, rfl, rfl, hw _ v, mt _ _ _ _ ?_ (hs i v acc _ ev (s2.trans sT) eDT rT)⟩
  rintro b H4 ⟨s4, hb⟩
  have eD4 := s4 _ _ eDT
  cases b with
  | false => exact ⟨(s2.trans sT).trans s4, acc, eD4, hb⟩
  | true =>
    refine me _ _ _ _ ?_ hb
    rintro y H5 ⟨s5, r5⟩
    have eD5 := s5 _ _ eD4
    refine ⟨acc, eD5, Nat.lt_of_le_of_lt (hR.few _ _ _ r) (by omega), fun b u e => ?_, acc ++ [y], upd_same, hR.keep _ _ _ _ _ r5 eD5 fun b u nb e => (upd_ne nb).trans e⟩
    rw [upd_ne (ne_of_none e nD)]
    exact s5 _ _ (s4 _ _ (sT _ _ (s2 _ _ e)))
/-! ### what is wanted may be more -/
def MonoE (t : TE) : Prop := ∀ (σ : L2.St) (H : Hp) (Q Q' : VK), (∀ v H', Q v H' → Q' v H') → t σ H Q → t σ H Q'
def MonoT (t : TT) : Prop := ∀ (σ : L2.St) (H : Hp) (Q Q' : Bool → Hp → Prop), (∀ v H', Q v H' → Q' v H') → t σ H Q → t σ H Q'
def MonoA (t : TA) : Prop := ∀ (σ : L2.St) (H : Hp) (Q Q' : List V → Hp → Prop), (∀ v H', Q v H' → Q' v H') → t σ H Q → t σ H Q'
def MonoR (r : R2) : Prop := ∀ (x y : V) (H : Hp) (Q Q' : VK), (∀ v H', Q v H' → Q' v H') → r x y H Q → r x y H Q'
theorem mE_var {i : Nat} : MonoE (tVar i) := fun _ _ _ _ h ⟨x, e, q⟩ => ⟨x, e, h _ _ q⟩
theorem mE_c {v : V} : MonoE (tC v) := fun _ _ _ _ h q => h _ _ q
theorem mE_op {r : R2} {a b : TE} (hr : MonoR r) (ha : MonoE a) (hb : MonoE b) : MonoE (tOp r a b) := fun _ _ _ _ h q => ha _ _ _ _ (fun _ _ q1 => hb _ _ _ _ (fun _ _ q2 => hr _ _ _ _ _ h q2) q1) q
theorem mT_test {e : TE} (he : MonoE e) : MonoT (tTest e) := fun _ _ _ _ h q => he _ _ _ _ (fun _ _ ⟨k, e, q⟩ => ⟨k, e, h _ _ q⟩) q
theorem mT_yes : MonoT tYes := fun _ _ _ _ h q => h _ _ q
theorem mE_if {t : TT} {a b : TE} (ht : MonoT t) (ha : MonoE a) (hb : MonoE b) : MonoE (tIf t a b) := fun _ _ _ _ h q => ht _ _ _ _ (fun c H1 q1 => by
  cases c with
  | true => exact iteT (ha _ _ _ _ h (show a _ _ _ from q1))
  | false => exact iteF (hb _ _ _ _ h (show b _ _ _ from q1))) q
theorem mA_nil : MonoA tNil := fun _ _ _ _ h q => h _ _ q
theorem mA_cons {t : TE} {ta : TA} (ht : MonoE t) (ha : MonoA ta) : MonoA (tCons t ta) := fun _ _ _ _ h q => ht _ _ _ _ (fun _ _ q1 => ha _ _ _ _ (fun _ _ q2 => h _ _ q2) q1) q
theorem mE_tup {ta : TA} (ha : MonoA ta) : MonoE (tTup ta) := fun _ _ _ _ h q => ha _ _ _ _ (fun _ _ ⟨l, q⟩ => ⟨l, fun p np => h _ _ (q p np)⟩) q
theorem mR_eq : MonoR rEq := fun _ _ _ _ _ h ⟨s, q⟩ => ⟨s, h _ _ q⟩
theorem mR_ne : MonoR rNe := fun _ _ _ _ _ h ⟨s, q⟩ => ⟨s, h _ _ q⟩
theorem mR_ixT {K : PySem.W.Frag} : MonoR (rIxT K) := fun _ _ _ _ _ h ⟨p, xs, i, v, e1, e2, e3, e4, q⟩ => ⟨p, xs, i, v, e1, e2, e3, e4, h _ _ q⟩
theorem mR_ixL {K : PySem.W.Frag} : MonoR (rIxL K) := fun _ _ _ _ _ h ⟨p, xs, i, v, e1, e2, e3, e4, q⟩ => ⟨p, xs, i, v, e1, e2, e3, e4, h _ _ q⟩
theorem mR_in {K : PySem.W.Frag} {n : Bool} : MonoR (rIn K n) := fun _ _ _ _ _ h ⟨p, xs, e, o, f1, f2, q⟩ => ⟨p, xs, e, o, f1, f2, h _ _ q⟩
theorem mR_isN {f : V → V} : MonoR (fun x y H Q => y = V.non ∧ Q (f x) H) := fun _ _ _ _ _ h ⟨e, q⟩ => ⟨e, h _ _ q⟩
end K27

/-! a row of names for a pattern -/
namespace K27
open PySem PySem.Spec PyProof.Rows L2
abbrev sPCnt : Stmt := inClass (top 16) 2
/-- the number of classes -/
structure CountP (P : Program) (w : World) (K : PySem.W.Frag) (mg : Str → Option Value) (base : Heap) (CP p g : Addr) (fd : FuncData) : Prop where
  pr : PropOf K CP "class_count" p g
  ok : FnOk P w K mg base CX0 1 g fd ["self"] (getSp CP "_classes")
  bi : Binds K fd ["self"] []
/-- a name for each class, none for nobody -/
def nmV (xs : List V) : Option Nat → V
  | none => .non
  | some k => xs.getD k .non
def spNF (CP CN : Addr) : Sp := fun vs H Q E => ∃ (x a : Addr) (p : List (Option Nat)) (xs : List V) (c : Nat), vs = [.ref x, .ref a] ∧ PatAt CP H x p ∧ cnt 0 (vals p) = some c ∧ H a = some (.lst xs) ∧ xs.length ≤ 1000 ∧ (∀ x ∈ xs, ∃ t, Odd H x t) ∧
  (∀ i z, uf xs = some (i, z) → Fails CN H E i z) ∧ (uf xs = none → xs.length < c → Fails CN H E xs.length "few") ∧ (uf xs = none → c ≤ xs.length → ∀ (H' : Hp) (t : Addr), Same H H' → H' t = some (.tup (p.map (nmV xs))) → Q (.ref t) H')
theorem lcR_pure {D : Addr} {f : Nat → List V} (hf : ∀ i, (f i).length ≤ i) : LcR D fun i acc _ => acc = f i := ⟨fun _ _ _ _ _ r _ _ => r, fun i acc _ r => by rw [r]; exact hf i⟩
section
variable {P : Program} {w : World} {K : PySem.W.Frag} {mg : Str → Option Value} {base : Heap}
theorem ok_count {f CP : Addr} {fd : FuncData} (F : FunD K "class_count" "Pattern.class_count" (defArgs sPCnt) (defBody sPCnt) (defScope sPCnt) [] [] f fd) (T : PatC K CP) : FnOk P w K mg base CX0 1 f fd ["self"] (getSp CP "_classes") := by
  have sc : FnScope ["self"] ["self"] (defScope sPCnt) := ⟨rfl, rfl, rfl, by decide +kernel, rfl, by decide +kernel, by decide +kernel⟩
  refine F.ok sc (fun vs H Q E h => ?_) (fun cdv A outer s H vs Q E hr h => ?_)
  · obtain ⟨a, dx, fs, v, rfl, _⟩ := h
    rfl
  · obtain ⟨a, dx, fs, v, rfl, ea, l, q⟩ := h
    refine ⟨_, PSs.nox (pss_one (ps_ret (pe_fld (pv 0) rfl))), ?_⟩
    exact ⟨_, rfl, a, CP, dx, fs, v, rfl, ea, T.cl, T.nC, l, q⟩
theorem ok_nf {f fU pG fG fX CP CN : Addr} {fd fdU fdG fdX : FuncData} (F : FnP K "names_for" sPNamesFor f fd) (T : PatC K CP) (z_len : mg "len" = none) (z_tuple : mg "tuple" = none) (dU : DfE P w K mg base "check_unlike_names" 3 ["names"] (spCU CN) fU fdU)
    (PR : CountP P w K mg base CP pG fG fdG) (X : ErrC P w K mg base "BadNames" ["self", "index", "what"] spPatErr CN fX fdX) :
    FnOk P w K mg base (L2.CX P w) 4 f fd ["pattern", "names"] (spNF CP CN) := by
  have sc : FnScope ["pattern", "names", "entry"] ["pattern", "names"] (defScope sPNamesFor) := ⟨rfl, rfl, rfl, by decide +kernel, rfl, by decide +kernel, by decide +kernel⟩
  refine F.ok sc (fun vs H Q E h => ?_) (fun cdv A outer s H vs Q E hr h => ?_)
  · obtain ⟨x, a, p, xs, c, rfl, _⟩ := h
    rfl
  · obtain ⟨x, a, p, xs, c, rfl, hx, ec, ha, hl, od, q1, q2, q3⟩ := h
    have hr2 := hr.mono (show 2 ≤ 3 by decide)
    have hr3 := hr.mono (show 3 ≤ 3 by decide)
    refine ⟨_, (pss_cons (ps_expr (pe_callS dU.ok hr3 (by rfl) dU.gl dU.kp dU.bi (fun σ => passAt (takes_of rfl rfl rfl rfl) σ) (pa_cons (pv 1) pa_nil)))
    (pss_cons (ps_if (pt_cmpR op_lt (pe_callB call_len_seq (by rfl) z_len boot_len (pa_cons (pv 1) pa_nil)) (pe_prop (pv 0) T.cl PR.pr PR.ok hr2 PR.bi .nil pass0 rfl) (nomark _))
      (pss_one (ps_raise rfl (takes_of rfl rfl rfl rfl) (pmk_oex X.cl X.ini X.ty X.ok hr2 X.bi .nil pass0 (by rfl) X.gl (pa_cons (pe_callB call_len_seq (by rfl) z_len boot_len (pa_cons (pv 1) pa_nil)) (pa_cons pe_str pa_nil)))))
      pss_nil)
    (pss_one (ps_ret (pe_callTy call_tuple_of (by rfl) z_tuple (by decide +kernel) (pa_cons (pe_lc (own := [("entry", 2)]) (g := gName 2) (tt := tYes) (te := tIf (tTest (tOp (fun x y H Q => y = V.non ∧ Q (V.bl (decide (x = V.non))) H) (tVar 2) (tC .non))) (tC .non) (tOp (rIxL K) (tVar 1) (tVar 2))) rfl sc.nd (pi_tup (pe_fld (pv 0) rfl)) (blkOk_by (N := ["pattern", "names", "entry"]) (sc := defScope sPNamesFor) (by decide +kernel)) (fun _ _ _ _ _ => pg_name (i := 2) sc.nd rfl (Or.inl rfl)) (fun _ _ _ _ _ => pts_nil) (fun _ _ _ _ _ => (pe_ifExp (pt_cmpR op_isN (pv 2) pe_non (nomark _)) pe_non (pe_ix ix_list (pv 1) (pv 2) (fun _ _ => rfl))))) pa_nil)))))), ?_⟩
    refine ⟨_, rfl, a, xs, rfl, ha, hl, od, fun hok H1 s1 => ?_, fun i z e H' d n e2 s' => q1 i z e H' d n e2 s'⟩
    obtain ⟨dx, tx, cx, ex, etx, lx, ecx⟩ := hx.sm s1
    obtain rfl : cx = c := Option.some.inj (ecx.symm.trans ec)
    have ha1 := s1 _ _ ha
    refine ⟨_, rfl, a, _, rfl, .inl (SqL.of ha1), _, rfl, x, dx, _, rfl, ex, x, dx, _, _, rfl, ex, rfl, _, _, rfl, rfl, _, rfl, ?_⟩
    by_cases e : xs.length < cx
    · rw [decide_eq_true (show ((xs.length : Nat) : Int) < (cx : Int) by omega)]
      exact iteT ⟨_, rfl, a, _, rfl, .inl (SqL.of ha1), (by show 2 ≤ 1000; decide), fun av nav => fail_nm (q2 hok e) s1 av nav⟩
    · rw [decide_eq_false (show ¬ ((xs.length : Nat) : Int) < (cx : Int) by omega)]
      refine iteF (tNext_of ?_)
      have kl := (pt_of_cnt ecx).classes ecx
      refine ⟨_, rfl, x, CP, dx, _, _, rfl, ex, T.cl, T.nE, rfl, tx, rfl, ⟨_, SqT.of etx⟩, fun D nD => lc_N walk_tup (fun i acc _ => acc = (p.take i).map (nmV xs)) (lcR_pure fun i => by rw [List.length_map]; exact List.length_take_le _ _) nD (by rw [List.length_map]; exact Nat.lt_of_le_of_lt lx (by decide)) rfl (fun H' s' => SqT.of (s' _ _ etx)) (fun _ => rfl) ?_ (fun _ _ _ _ h q => h _ _ q)
        (mE_if (mT_test (mE_op mR_isN mE_var mE_c)) mE_c (mE_op mR_ixL mE_var mE_var)) ?_⟩
      · rintro i v acc H' ev s' eD rfl
        rw [vals_get] at ev
        obtain ⟨o, eo, rfl⟩ := Option.map_eq_some_iff.mp ev
        refine ⟨Same.refl _, iteT ?_⟩
        rw [take_snoc' eo, List.map_append]
        cases o with
        | none => exact ⟨_, rfl, rfl, _, rfl, iteT ⟨Same.refl _, rfl⟩⟩
        | some k =>
          have hk : k < cx := (kl k).mp ⟨i, eo⟩
          have kx : k < xs.length := by omega
          refine ⟨_, rfl, rfl, _, rfl, iteF ⟨_, rfl, _, rfl, a, _, (k : Int), xs[k], rfl, rfl, SqL.of (s' _ _ ha1), atI_nat (List.getElem?_eq_getElem kx), Same.refl _, ?_⟩⟩
          show _ = _ ++ [xs.getD k .non]
          rw [List.getD_eq_getElem?_getD, List.getElem?_eq_getElem kx]
          rfl
      · rintro H2 acc s2 eD rfl
        rw [List.take_of_length_le (Nat.le_of_eq (List.length_map ..).symm)] at eD
        exact ⟨D, _, rfl, .inl ⟨SqL.of eD, fun t nt => q3 hok (by omega) _ t ((s1.trans s2).trans (same_upd nt)) upd_same⟩⟩
end
end K27

/-! the change of names that leads one row to another -/
namespace K27
open PySem PySem.Spec PyProof.Rows L2
abbrev plF (i : Int) : List (Str × V) := [("place", .int i)]
def spNoErr (C : Addr) : Sp := fun vs H Q _ => ∃ (a : Addr) (i : Int), vs = [.ref a, .int i] ∧ H a = some (exo a C none) ∧
  ∀ (H' : Hp) (d : Addr), H d = none → H' a = some (exo a C (some d)) → H' d = some (exd d (plF i)) → (∀ b o, b ≠ a → H b = some o → H' b = some o) → Q .non H'
def FailsN (CR : Addr) (H : Hp) (E : XK) (i : Nat) : Prop := ∀ (H' : Hp) (d : Addr), H d = none → H' d = some (.xd (plF (i : Nat))) → Same H H' → E (.ref CR) (some d) H'
/-- the error is laid -/
theorem fail_no {CN : Addr} {H H0 : Hp} {i : Nat} {E : XK} (q0 : FailsN CN H E i) (s0 : Same H H0) :
    ∀ av, H0 av = none → spNoErr CN [.ref av, .int (i : Int)] (upd H0 av (exo av CN none)) (fun v H3 => v = .non ∧ ∃ dd fs, H3 av = some (exo av CN (some dd)) ∧ H3 dd = some (exd dd fs) ∧ H0 dd = none ∧ E (.ref CN) (some dd) (upd (del H3 av) dd (.xd fs))) E0 := fun av nav =>
      ⟨av, i, rfl, upd_same, fun H3 dd nd3 ha3 hd3 kp => ⟨rfl, dd, _, ha3, hd3, none_of (same_upd nav) nd3, q0 _ dd (none_of s0 (none_of (same_upd nav) nd3)) upd_same fun y' o' e' => by
        have e2 := s0 _ _ e'
        rw [upd_ne (ne_of_none e2 (none_of (same_upd nav) nd3)), del_ne (ne_of_none e2 nav)]
        exact kp _ _ (ne_of_none e2 nav) (same_upd nav _ _ e2)⟩⟩
/-- the met names in their order -/
def mets (l : List (Option Nat)) : List Nat := l.foldl metN []
theorem mets_snoc {l : List (Option Nat)} {i : Nat} {o : Option Nat} (h : l[i]? = some o) : mets (l.take (i + 1)) = metN (mets (l.take i)) o := by
  unfold mets
  rw [take_snoc' h, List.foldl_append]
  rfl
theorem mets_len (l : List (Option Nat)) : (mets l).length ≤ l.length := by
  have g : ∀ (r : List (Option Nat)) (m : List Nat), (r.foldl metN m).length ≤ m.length + r.length := by
    intro r
    induction r with
    | nil => intro m; exact Nat.le_refl _
    | cons o r ih =>
      intro m
      refine Nat.le_trans (ih (metN m o)) ?_
      have := metN_len m o
      rw [List.length_cons]
      omega
  have := g l []
  rw [List.length_nil] at this
  unfold mets
  omega
def encZ (xs ys : List Nat) : List (Key × V) := (xs.zip ys).map fun p => (keyI p.1, V.int (p.2 : Int))
theorem valV_zip : ∀ {xs ys : List Nat} {x : Nat}, xs.length = ys.length → valV (encZ xs ys) (keyI x) = if x ∈ xs then (ys[xs.idxOf x]?).map fun y : Nat => V.int (y : Int) else none
  | [], [], x, _ => rfl
  | a :: xs, b :: ys, x, h => by
    have h' : xs.length = ys.length := Nat.succ.inj h
    show valV ((keyI a, V.int (b : Int)) :: encZ xs ys) (keyI x) = _
    by_cases e : a = x
    · subst e
      rw [valV_pos rfl, if_pos List.mem_cons_self, List.idxOf_cons_self]
      rfl
    · rw [valV_neg (fun z => e (keyI_inj _ _ z)), valV_zip h']
      by_cases h2 : x ∈ xs
      · have ei : (a :: xs).idxOf x = xs.idxOf x + 1 := by
          rw [List.idxOf_cons, beq_false_of_ne e]
          rfl
        rw [if_pos h2, if_pos (List.mem_cons_of_mem _ h2), ei]
        rfl
      · rw [if_neg h2, if_neg (by rw [List.mem_cons]; exact fun z => z.elim (fun e' => e e'.symm) h2)]
theorem mets_nd (l : List (Option Nat)) : (mets l).Nodup := by
  have g : ∀ (r : List (Option Nat)) (m : List Nat), m.Nodup → (r.foldl metN m).Nodup := by
    intro r
    induction r with
    | nil => intro m h; exact h
    | cons o r ih =>
      intro m h
      refine ih (metN m o) ?_
      cases o with
      | none => exact h
      | some x =>
        show (if x ∈ m then m else m ++ [x]).Nodup
        by_cases hx : x ∈ m
        · rw [if_pos hx]; exact h
        · rw [if_neg hx, List.nodup_append]
          refine ⟨h, by simp, fun a ha b hb => ?_⟩
          rw [List.mem_singleton.mp hb]
          exact fun z => hx (z ▸ ha)
  exact g l [] List.nodup_nil
theorem putK_zip_old {xs ys : List Nat} {x y : Nat} (nd : xs.Nodup) (hl : xs.length = ys.length) (hx : x ∈ xs) (hy : ys[xs.idxOf x]? = some y) : putK (encZ xs ys) (keyI x) (V.int (y : Int)) = encZ xs ys := by
  have e : valV (encZ xs ys) (keyI x) = some (V.int (y : Int)) := by
    rw [valV_zip hl, if_pos hx, hy]
    rfl
  unfold putK
  rw [valV_any, e]
  refine (if_pos (by rfl)).trans ?_
  refine (List.map_congr_left (g := id) fun kv hkv => ?_).trans (List.map_id _)
  obtain ⟨p, hp, rfl⟩ := List.mem_map.mp hkv
  obtain ⟨j, hj, ep⟩ := List.getElem_of_mem hp
  rw [List.getElem_zip] at ep
  show (if keyI p.1 = keyI x then _ else _) = _
  by_cases c : keyI p.1 = keyI x
  · rw [if_pos c]
    have e1 : p.1 = x := keyI_inj _ _ c
    rw [← ep] at e1
    have j1 : j < xs.length := by
      rw [List.length_zip] at hj
      omega
    have ei : xs.idxOf x = j := by
      rw [← e1]
      exact nd.idxOf_getElem j j1
    rw [ei] at hy
    obtain ⟨j2, e2⟩ := List.getElem?_eq_some_iff.mp hy
    rw [← ep]
    show (keyI xs[j], V.int (y : Int)) = (keyI xs[j], V.int ((ys[j] : Nat) : Int))
    rw [e2]
  · rw [if_neg c]
    rfl
theorem putK_zip_new {xs ys : List Nat} {x y : Nat} (hl : xs.length = ys.length) (hx : ¬ x ∈ xs) : putK (encZ xs ys) (keyI x) (V.int (y : Int)) = encZ (xs ++ [x]) (ys ++ [y]) := by
  rw [putK_new _ (by rw [valV_zip hl, if_neg hx])]
  unfold encZ
  rw [List.zip_append hl, List.map_append]
  rfl
/-- what stands at one place of two rows of one pattern -/
theorem met_turn {ms ns : List Nat} {o o' : Option Nat} (nd : ms.Nodup) (hl : ms.length = ns.length) (h : oneN ms o = oneN ns o') :
    (metN ms o).length = (metN ns o').length ∧ ((o = none ∧ o' = none) ∨ ∃ x y, o = some x ∧ o' = some y ∧ putK (encZ ms ns) (keyI x) (V.int (y : Int)) = encZ (metN ms o) (metN ns o')) := by
  cases o with
  | none =>
    cases o' with
    | none => exact ⟨hl, .inl ⟨rfl, rfl⟩⟩
    | some y =>
      have h : none = if y ∈ ns then some (ns.idxOf y) else some ns.length := h
      split at h <;> cases h
  | some x =>
    cases o' with
    | none =>
      have h : (if x ∈ ms then some (ms.idxOf x) else some ms.length) = none := h
      split at h <;> cases h
    | some y =>
      have h : (if x ∈ ms then some (ms.idxOf x) else some ms.length) = if y ∈ ns then some (ns.idxOf y) else some ns.length := h
      by_cases hx : x ∈ ms
      · rw [if_pos hx] at h
        have l1 := List.idxOf_lt_length_of_mem hx
        by_cases hy : y ∈ ns
        · rw [if_pos hy] at h
          have e := Option.some.inj h
          have m1 : metN ms (some x) = ms := if_pos hx
          have m2 : metN ns (some y) = ns := if_pos hy
          rw [m1, m2]
          exact ⟨hl, .inr ⟨x, y, rfl, rfl, putK_zip_old nd hl hx (by rw [e]; exact idx_of hy)⟩⟩
        · rw [if_neg hy] at h
          have e := Option.some.inj h
          omega
      · rw [if_neg hx] at h
        by_cases hy : y ∈ ns
        · rw [if_pos hy] at h
          have l1 := List.idxOf_lt_length_of_mem hy
          have e := Option.some.inj h
          omega
        · have m1 : metN ms (some x) = ms ++ [x] := if_neg hx
          have m2 : metN ns (some y) = ns ++ [y] := if_neg hy
          rw [m1, m2]
          exact ⟨by rw [List.length_append, List.length_append, hl]; rfl, .inr ⟨x, y, rfl, rfl, putK_zip_new hl hx⟩⟩
/-- rows of numbers that part nowhere -/
theorem part_none {p q : List (Option Nat)} : ∀ {i : Nat}, partAt i p q = none → ∀ j, j < p.length → j < q.length → p[j]? = q[j]? := by
  induction p generalizing q with
  | nil => intro i h j h1; exact absurd h1 (Nat.not_lt_zero _)
  | cons x p ih =>
    cases q with
    | nil => intro i h j h1 h2; exact absurd h2 (Nat.not_lt_zero _)
    | cons y q =>
      intro i h j h1 h2
      have h : (if x = y then partAt (i + 1) p q else some i) = none := h
      by_cases c : x = y
      · rw [if_pos c] at h
        cases j with
        | zero => rw [c]; rfl
        | succ j => exact ih h j (Nat.lt_of_succ_lt_succ h1) (Nat.lt_of_succ_lt_succ h2)
      · rw [if_neg c] at h
        cases h
theorem num_atM {l : List (Option Nat)} {i : Nat} {o : Option Nat} (h : l[i]? = some o) : (num l)[i]? = some (oneN (mets (l.take i)) o) := by
  have g : ∀ (i : Nat), i ≤ l.length → numA (mets (l.take i)) (l.drop i) = (num l).drop i := by
    intro i
    induction i with
    | zero => intro _; rfl
    | succ i ih =>
      intro hi
      obtain ⟨o, e⟩ : ∃ o, l[i]? = some o := ⟨_, List.getElem?_eq_getElem hi⟩
      rw [mets_snoc e]
      exact (num_turn (ih (Nat.le_of_lt hi)) e).2
  exact (num_turn (g i (Nat.le_of_lt (List.getElem?_eq_some_iff.mp h).1)) h).1
/-- pairs, each in its own tuple -/
def PrsAt (H : Hp) (vs : List V) (ps : List (Nat × Nat)) : Prop := vs.length = ps.length ∧ ∀ (j : Nat) (v : V) (p : Nat × Nat), vs[j]? = some v → ps[j]? = some p → ∃ t, v = .ref t ∧ H t = some (.tup [.int (p.1 : Int), .int (p.2 : Int)])
theorem PrsAt.same {H H' : Hp} {vs : List V} {ps : List (Nat × Nat)} (h : PrsAt H vs ps) (s : Same H H') : PrsAt H' vs ps := ⟨h.1, fun j v p a b => let ⟨t, e, q⟩ := h.2 j v p a b; ⟨t, e, s _ _ q⟩⟩
theorem PrsAt.snoc {H : Hp} {vs : List V} {ps : List (Nat × Nat)} {t : Addr} {p : Nat × Nat} (h : PrsAt H vs ps) (e : H t = some (.tup [.int (p.1 : Int), .int (p.2 : Int)])) : PrsAt H (vs ++ [.ref t]) (ps ++ [p]) := by
  refine ⟨by rw [List.length_append, List.length_append, h.1]; rfl, fun j v p' a b => ?_⟩
  by_cases hj : j < vs.length
  · rw [List.getElem?_append_left hj] at a
    rw [List.getElem?_append_left (by rw [← h.1]; exact hj)] at b
    exact h.2 j v p' a b
  · have hj' : vs.length ≤ j := Nat.le_of_not_lt hj
    rw [List.getElem?_append_right hj'] at a
    rw [List.getElem?_append_right (by rw [← h.1]; exact hj')] at b
    have z : j - vs.length = 0 := by
      have := (List.getElem?_eq_some_iff.mp a).1
      rw [List.length_singleton] at this
      omega
    rw [z] at a
    rw [← h.1, z] at b
    cases Option.some.inj a
    cases Option.some.inj b
    exact ⟨t, rfl, e⟩
theorem lcPrs (ps : List (Nat × Nat)) (D : Addr) : LcR D (fun i acc H => PrsAt H acc (ps.take i)) :=
  ⟨fun i acc H H' ys h eD k => ⟨h.1, fun j v p a b => let ⟨t, e, q⟩ := h.2 j v p a b; ⟨t, e, k _ _ (fun z => by rw [z, eD] at q; cases q) q⟩⟩, fun i acc H h => by rw [h.1]; exact List.length_take_le _ _⟩
theorem valV_zip_at {xs ys : List Nat} {i x y : Nat} (nd : xs.Nodup) (hl : xs.length = ys.length) (h : (xs.zip ys)[i]? = some (x, y)) : valV (encZ xs ys) (keyI x) = some (V.int (y : Int)) := by
  obtain ⟨h1, h2⟩ := List.getElem?_zip_eq_some.mp h
  obtain ⟨j1, e1⟩ := List.getElem?_eq_some_iff.mp h1
  have e1 : xs[i] = x := e1
  have ei : xs.idxOf x = i := by
    rw [← e1]
    exact nd.idxOf_getElem i j1
  rw [valV_zip hl, if_pos (by rw [← e1]; exact List.getElem_mem j1), ei, h2]
  rfl
theorem mE_dget {a b : TE} (ha : MonoE a) (hb : MonoE b) : MonoE (tDGet a b) := fun _ _ _ _ h q => ha _ _ _ _ (fun _ _ q1 => hb _ _ _ _ (fun _ _ ⟨d, v, e, g, q2⟩ => ⟨d, v, e, g, h _ _ q2⟩) q1) q
def spRO (CN CR : Addr) : Sp := fun vs H Q E => ∃ (v1 v2 : V) (xs ys : List V) (b1 b2 : Bool), vs = [v1, v2] ∧ Ns H v1 xs b1 ∧ Ns H v2 ys b2 ∧ (∀ i z, nf xs b1 = some (i, z) → Fails CN H E i z) ∧ (nf xs b1 = none → ∀ i z, nf ys b2 = some (i, z) → Fails CN H E i z) ∧
  (nf xs b1 = none → nf ys b2 = none → ∃ (a b : Addr) (l m : List (Option Nat)), v1 = .ref a ∧ v2 = .ref b ∧ H a = some (.lst (vals l)) ∧ H b = some (.lst (vals m)) ∧ l.length ≤ 40 ∧ m.length ≤ 40 ∧
    (∀ i, partAt 0 (num l) (num m) = some i → FailsN CR H E i) ∧ (partAt 0 (num l) (num m) = none → l.length ≠ m.length → FailsN CR H E (min l.length m.length)) ∧
    (partAt 0 (num l) (num m) = none → l.length = m.length → ∀ (H' : Hp) (t : Addr) (us : List V), Same H H' → H' t = some (.tup us) → PrsAt H' us ((mets l).zip (mets m)) → Q (.ref t) H'))
section
variable {P : Program} {w : World} {K : PySem.W.Frag} {mg : Str → Option Value} {base : Heap}
theorem ok_noErr {f C : Addr} {fd : FuncData} (F : FunD K "__init__" "NoRenaming.__init__" (defArgs sNoErr) (defBody sNoErr) (defScope sNoErr) [] [] f fd) (T : OexC K C) (n1 : NoF K C "place") :
    FnOk P w K mg base CX0 1 f fd ["self", "place"] (spNoErr C) := by
  have sc : FnScope ["self", "place"] ["self", "place"] (defScope sNoErr) := ⟨rfl, rfl, rfl, by decide +kernel, rfl, by decide +kernel, by decide +kernel⟩
  refine F.ok sc (fun vs H Q E h => ?_) (fun cdv A outer s H vs Q E hr h => ?_)
  · obtain ⟨a, x, rfl, _⟩ := h
    rfl
  · obtain ⟨a, x, rfl, ea, q⟩ := h
    refine ⟨_, PSs.nox (pss_one (ps_ost (pv 0) (pv 1))), ?_⟩
    refine ⟨_, rfl, _, rfl, a, C, rfl, T, n1, .inl ⟨ea, fun d nd ne => ?_⟩⟩
    exact q _ d nd upd_same (Eq.trans (upd_ne ne) upd_same) (keep_new nd)
theorem ok_ro {f fC fF fB fX CN CR : Addr} {fd fdC fdF fdB fdX : FuncData} (F : FnP K "renaming_of" sPRenamingOf f fd) (z_len : mg "len" = none) (z_min : mg "min" = none) (z_zip : mg "zip" = none) (z_tuple : mg "tuple" = none) (dN : DfE P w K mg base "check_names" 3 ["names"] (spCN CN) fC fdC)
    (dFP : Df P w K mg base "_first_parting" 1 ["one", "other"] spFP fF fdF) (dNb : Df P w K mg base "numbered" 1 ["values"] spNbS fB fdB) (X : ErrC P w K mg base "NoRenaming" ["self", "place"] spNoErr CR fX fdX) :
    FnOk P w K mg base (L2.CX P w) 4 f fd ["one", "other"] (spRO CN CR) := by
  have sc : FnScope ["one", "other", "place", "pairs", "name", "other_name"] ["one", "other"] (defScope sPRenamingOf) := ⟨rfl, rfl, rfl, by decide +kernel, rfl, by decide +kernel, by decide +kernel⟩
  refine F.ok sc (fun vs H Q E h => ?_) (fun cdv A outer s H vs Q E hr h => ?_)
  · obtain ⟨v1, v2, xs, ys, b1, b2, rfl, _⟩ := h
    rfl
  · obtain ⟨v1, v2, xs, ys, b1, b2, rfl, n1, n2, q1, q2, q3⟩ := h
    have hu := hu_of hr
    have hr1 := hr.mono (show 1 ≤ 3 by decide)
    have hr2 := hr.mono (show 2 ≤ 3 by decide)
    have hr3 := hr.mono (show 3 ≤ 3 by decide)
    refine ⟨_, (pss_cons (ps_expr (pe_callS dN.ok hr3 (by rfl) dN.gl dN.kp dN.bi (fun σ => passAt (takes_of rfl rfl rfl rfl) σ) (pa_cons (pv 0) pa_nil)))
    (pss_cons (ps_expr (pe_callS dN.ok hr3 (by rfl) dN.gl dN.kp dN.bi (fun σ => passAt (takes_of rfl rfl rfl rfl) σ) (pa_cons (pv 1) pa_nil)))
    (pss_cons (ps_set (i := 2) sc.nd rfl (.inl rfl) (pe_call dFP.ok hr1 (by rfl) dFP.gl dFP.kp dFP.bi .nil pass0 (pa_cons (pe_call dNb.ok hr1 (by rfl) dNb.gl dNb.kp dNb.bi .nil pass0 (pa_cons (pv 0) pa_nil)) (pa_cons (pe_call dNb.ok hr1 (by rfl) dNb.gl dNb.kp dNb.bi .nil pass0 (pa_cons (pv 1) pa_nil)) pa_nil))))
    (pss_cons (ps_if (pt_cmpR op_notN (pv 2) pe_non (nomark _))
      (pss_one (ps_raise rfl (takes_of rfl rfl rfl rfl) (pmk_oex X.cl X.ini X.ty X.ok hr2 X.bi .nil pass0 (by rfl) X.gl (pa_cons (pv 2) pa_nil))))
      pss_nil)
    (pss_cons (ps_if (pt_cmpR op_ne (pe_callB call_len_seq (by rfl) z_len boot_len (pa_cons (pv 0) pa_nil)) (pe_callB call_len_seq (by rfl) z_len boot_len (pa_cons (pv 1) pa_nil)) (nomark _))
      (pss_one (ps_raise rfl (takes_of rfl rfl rfl rfl) (pmk_oex X.cl X.ini X.ty X.ok hr2 X.bi .nil pass0 (by rfl) X.gl (pa_cons (pe_callB (call_min2 rfl) (by rfl) z_min (by decide +kernel) (pa_cons (pe_callB call_len_seq (by rfl) z_len boot_len (pa_cons (pv 0) pa_nil)) (pa_cons (pe_callB call_len_seq (by rfl) z_len boot_len (pa_cons (pv 1) pa_nil)) pa_nil))) pa_nil))))
      pss_nil)
    (pss_cons (ps_set (i := 3) sc.nd rfl (.inr rfl) pe_dnewK)
    (pss_cons (ps_for PassesOwn.leaving rfl (pi_zip (by rfl) z_zip (pa_cons (pv 0) (pa_cons (pv 1) pa_nil))) (pg_tup (by rfl) (pgs_cons (pg_name (i := 4) sc.nd rfl (.inl rfl)) (pgs_cons (pg_name (i := 5) sc.nd rfl (.inl rfl)) pgs_nil)))
      (pss_one (ps_if (pt_cmpR op_notN (pv 4) pe_non (nomark _))
        (pss_one (ps_dput hu (pv 3) (pv 4) (pv 5) rfl))
        pss_nil)))
    (pss_one (ps_ret (pe_callTy call_tuple_of (by rfl) z_tuple (by decide +kernel) (pa_cons (pe_lock (pe_lc (own := [("name", 4)]) (g := gName 4) (tt := tYes) (te := tTup (tCons (tVar 4) (tCons (tDGet (tVar 3) (tVar 4)) tNil))) rfl sc.nd (pi_keys (pv 3)) (blkOk_by (N := ["one", "other", "place", "pairs", "name", "other_name"]) (sc := defScope sPRenamingOf) (by decide +kernel)) (fun _ _ _ _ _ => pg_name (i := 4) sc.nd rfl (Or.inl rfl)) (fun _ _ _ _ _ => pts_nil) (fun _ _ _ _ _ => (pe_tup (pa_cons (pv 4) (pa_cons (pe_dget hu (pv 3) (pv 4) (fun _ _ => rfl)) pa_nil)))))) pa_nil))))))))))), ?_⟩
    refine ⟨_, rfl, v1, xs, b1, rfl, n1, fun hok1 H1 s1 => ?_, fun i z e H' d n e2 s' => q1 i z e H' d n e2 s'⟩
    refine ⟨_, rfl, v2, ys, b2, rfl, n2.same s1, fun hok2 H2 s2 => ?_, fun i z e H' d n e2 s' => (q2 hok1 i z e).same s1 H' d n e2 s'⟩
    obtain ⟨a, b, l, m, rfl, rfl, ha, hb, hl, hm, r1, r2, r3⟩ := q3 hok1 hok2
    have s2' := s1.trans s2
    refine ⟨_, rfl, a, l, rfl, .inl (s2' _ _ ha), by omega, fun H3 z1 s3 nz1 hz1 => ?_⟩
    have s3' := s2'.trans s3
    refine ⟨_, rfl, b, m, rfl, .inl (s3' _ _ hb), by omega, fun H4 z2 s4 nz2 hz2 => ?_⟩
    refine ⟨z1, z2, num l, num m, rfl, .inl (s4 _ _ hz1), .inl hz2, fun H5 s5 => ?_⟩
    have s5' := s3'.trans (s4.trans s5)
    have ha5 := s5' _ _ ha
    have hb5 := s5' _ _ hb
    generalize hpt : partAt 0 (num l) (num m) = o at r1 r2 r3 ⊢
    cases o with
    | some i =>
      refine ⟨_, rfl, rfl, _, rfl, iteT ⟨_, rfl, (by show 1 ≤ 1000; decide), fun av nav => fail_no (r1 i rfl) s5' av nav⟩⟩
    | none =>
      refine ⟨_, rfl, rfl, _, rfl, iteF (tNext_of ?_)⟩
      refine ⟨_, rfl, a, _, rfl, .inl (SqL.of ha5), _, rfl, b, _, rfl, .inl (SqL.of hb5), rfl, _, rfl, ?_⟩
      rw [List.length_map, List.length_map]
      by_cases e : l.length = m.length
      · rw [e, decide_eq_true rfl]
        refine iteF (tNext_of ?_)
        intro d nd
        have sd := same_upd (o := .dK []) nd
        have nd0 : H d = none := none_of s5' nd
        refine ⟨_, rfl, _, rfl, a, b, _, _, rfl, SqL.of (sd _ _ ha5), SqL.of (sd _ _ hb5), for_it (walk_zip rfl) (fun i σ H' => ∃ (x4 x5 : Option V), σ = [some (.ref a), some (.ref b), some .non, some (.ref d), x4, x5] ∧ H' d = some (.dK (encZ (mets (l.take i)) (mets (m.take i)))) ∧ (mets (l.take i)).length = (mets (m.take i)).length ∧ Same H H')
          ⟨none, none, rfl, upd_same, rfl, s5'.trans sd⟩ (fun i σ H' _ ⟨_, _, _, _, _, s⟩ => ⟨SqL.of (s _ _ ha), SqL.of (s _ _ hb)⟩) ?_ ?_⟩
        · rintro i v σ G1 G2 hi ⟨x4, x5, rfl, hd, el, sg⟩ ⟨T, u, w', rfl, nT, rfl, eu, ev⟩
          have eu : (vals l)[i]? = some u := eu
          have ev : (vals m)[i]? = some w' := ev
          rw [vals_get] at eu ev
          obtain ⟨o, eo, rfl⟩ := Option.map_eq_some_iff.mp eu
          obtain ⟨o', eo', rfl⟩ := Option.map_eq_some_iff.mp ev
          have sT := same_upd (o := .tup [optV o, optV o']) nT
          have il := (List.getElem?_eq_some_iff.mp eo).1
          have im := (List.getElem?_eq_some_iff.mp eo').1
          have same := part_none hpt i (by rw [num_len]; exact il) (by rw [num_len]; exact im)
          rw [num_atM eo, num_atM eo'] at same
          obtain ⟨t1, t2⟩ := met_turn (mets_nd _) el (Option.some.inj same)
          rw [← mets_snoc eo, ← mets_snoc eo'] at t1 t2
          refine ⟨T, _, rfl, .inl (.inl upd_same), rfl, _, _, rfl, _, _, rfl, rfl, ?_⟩
          have hdT := sT _ _ hd
          rcases t2 with ⟨rfl, rfl⟩ | ⟨x, y, rfl, rfl, ep⟩
          · refine ⟨_, rfl, rfl, _, rfl, iteF ⟨_, _, rfl, ?_, t1, sg.trans sT⟩⟩
            rw [mets_snoc eo, mets_snoc eo']
            exact hdT
          · refine ⟨_, rfl, rfl, _, rfl, iteT ⟨_, rfl, _, rfl, _, rfl, d, _, rfl, DPut.k (k := keyI x) hdT ?_, ?_⟩⟩
            · have q1 := mets_len (l.take i)
              have q2 := List.length_take_le i l
              unfold encZ
              rw [List.length_map, List.length_zip]
              have q3 : (l.take i).length ≤ l.length := by rw [List.length_take]; exact Nat.min_le_right _ _
              exact Nat.lt_of_le_of_lt (show _ ≤ 40 by omega) (by decide)
            · refine ⟨_, _, rfl, ?_, t1, fun q u e' => ?_⟩
              · rw [upd_same]
                exact congrArg (fun z => some (HO.dK z)) ep
              · rw [upd_ne (ne_of_none e' nd0)]
                exact (sg.trans sT) _ _ e'
        · rintro σ G1 ⟨x4, x5, rfl, hd, el, sg⟩
          rw [List.length_map, List.length_map, ← e, Nat.min_self, List.take_of_length_le (Nat.le_refl _), e, List.take_of_length_le (Nat.le_refl _)] at hd el
          have el : (mets l).length = (mets m).length := el
          let ps := (mets l).zip (mets m)
          have lps : ps.length ≤ 40 := by
            have q1 := mets_len l
            show ((mets l).zip (mets m)).length ≤ 40
            rw [List.length_zip]
            omega
          have lkv : (encZ (mets l) (mets m)).length = ps.length := List.length_map ..
          refine ⟨d, _, hd, trivial, fun od => ⟨_, rfl, d, od, rfl, .inl ⟨_, upd_same, fun D nD => ?_⟩⟩⟩
          have dD : d ≠ D := ne_of_none upd_same nD
          have kv_at : ∀ i : Nat, (encZ (mets l) (mets m))[i]? = (ps[i]?).map fun p => (keyI p.1, V.int (p.2 : Int)) := fun i => List.getElem?_map ..
          have wk : Walk (Itk d od (encZ (mets l) (mets m))) (ps.map fun p => V.int (p.1 : Int)).length (fun H => H d = some (.frz od (.dK (encZ (mets l) (mets m))))) (YAt (ps.map fun p => V.int (p.1 : Int))) := by
            rw [List.length_map, ← lkv]
            refine walk_keys.mono (fun _ h => h) fun i H x H' _ _ ⟨e1, k, v, e2, e3⟩ => ⟨e1, ?_⟩
            rw [kv_at] at e2
            obtain ⟨p, ep, eq⟩ := Option.map_eq_some_iff.mp e2
            rw [List.getElem?_map, ep, e3]
            cases eq
            rfl
          refine lc_N wk (fun i acc H => PrsAt H acc (ps.take i)) (lcPrs ps D) nD (by rw [List.length_map]; exact Nat.lt_of_le_of_lt lps (by decide)) ⟨rfl, fun j v p a b => by cases a⟩ (fun H' s' => s' _ _ upd_same) (fun _ => rfl) ?_ (fun _ _ _ _ h q => h _ _ q) (mE_tup (mA_cons mE_var (mA_cons (mE_dget mE_var mE_var) mA_nil))) ?_
          · rintro i x acc H' ev s' eD hp
            rw [List.getElem?_map] at ev
            obtain ⟨⟨px, py⟩, ep, rfl⟩ := Option.map_eq_some_iff.mp ev
            refine ⟨Same.refl _, iteT ⟨_, rfl, _, rfl, _, rfl, d, V.int (py : Int), rfl, .inl ⟨_, keyI px, .inr ⟨od, s' _ _ upd_same⟩, rfl, (valV_zip_at (mets_nd l) el ep).symm⟩, (by show 2 ≤ sizeLine; decide), fun t nt => ⟨same_upd nt, ?_⟩⟩⟩
            rw [take_snoc' ep]
            exact (hp.same (same_upd nt)).snoc upd_same
          · rintro H' acc s' eD hp
            rw [List.length_map, List.take_of_length_le (Nat.le_refl _)] at hp
            refine ⟨s' _ _ upd_same, D, _, rfl, .inl ⟨SqL.of ((upd_ne (Ne.symm dD)).trans eD), fun t nt => ?_⟩⟩
            have sF : Same H (upd H' d (.dK (encZ (mets l) (mets m)))) := fun q u e' => by
              rw [upd_ne (ne_of_none e' nd0)]
              exact s' _ _ (by rw [upd_ne (ne_of_none e' nd0)]; exact sg _ _ e')
            refine r3 rfl e _ t acc (sF.trans (same_upd nt)) upd_same (PrsAt.same (H := upd H' d (.dK (encZ (mets l) (mets m)))) ⟨hp.1, fun j v p a b => ?_⟩ (same_upd nt))
            obtain ⟨t0, e0, q0⟩ := hp.2 j v p a b
            refine ⟨t0, e0, (upd_ne fun z => ?_).trans q0⟩
            rw [z, s' _ _ upd_same] at q0
            cases q0
      · rw [decide_eq_false (fun z => e (by have := V.int.inj z; omega))]
        refine iteT ⟨_, rfl, a, _, rfl, .inl (SqL.of ha5), _, rfl, b, _, rfl, .inl (SqL.of hb5), _, _, rfl, (by show 1 ≤ 1000; decide), fun av nav => ?_⟩
        rw [List.length_map, List.length_map, show (if (m.length : Int) < (l.length : Int) then (m.length : Int) else (l.length : Int)) = ((min l.length m.length : Nat) : Int) by split <;> omega]
        exact fail_no (r2 rfl e) s5' av nav
end
end K27

/-! the law's own numbers -/
namespace K27
open PySem PySem.Spec PyProof.Rows L2
/-- things that the law numbers, as data -/
structure EncD {α : Type} [DecidableEq α] (f : α → PyData) : Prop where
  eq : ∀ a b, PyData.eqv (f a) (f b) = decide (a = b)
  lay : ∀ a, (f a).canLay0 = true
  dep : ∀ a, (f a).depth ≤ 8
  nn : ∀ a, f a ≠ .none
def ThV {α : Type} (f : α → PyData) (H : Hp) (v : V) : Option α → Prop
  | none => v = .non
  | some x => Dt Any H v (f x)
def spNums {α : Type} [DecidableEq α] (f : α → PyData) : Sp := fun vs H Q _ => ∃ (a : Addr) (us : List V) (l : List (Option α)), vs = [.ref a] ∧ H a = some (.lst us) ∧ us.length = l.length ∧ (∀ (i : Nat) (v : V) (o : Option α), us[i]? = some v → l[i]? = some o → ThV f H v o) ∧ l.length ≤ 64 ∧
  ∀ (H' : Hp) (z : Addr), Same H H' → H z = none → H' z = some (.lst (vals (num l))) → Q (.ref z) H'
theorem encI : EncD fun n : Nat => PyData.int (n : Int) := ⟨fun a b => by
  show ((a : Int) == (b : Int)) = _
  by_cases h : a = b
  · rw [h, decide_eq_true rfl]
    exact beq_self_eq_true _
  · rw [decide_eq_false h]
    exact beq_false_of_ne (fun z => h (by omega)), fun _ => rfl, fun _ => Nat.zero_le _, fun _ z => by cases z⟩
def datP (xy : Nat × Nat) : PyData := .tuple [.int (xy.1 : Int), .int (xy.2 : Int)]
theorem encPr : EncD datP := ⟨fun a b => by
  obtain ⟨a1, a2⟩ := a
  obtain ⟨b1, b2⟩ := b
  show (((a1 : Int) == (b1 : Int)) && (((a2 : Int) == (b2 : Int)) && true)) = _
  have e : ∀ x y : Nat, ((x : Int) == (y : Int)) = decide (x = y) := fun x y => encI.eq x y
  rw [e, e, Bool.and_true]
  by_cases h1 : a1 = b1 <;> by_cases h2 : a2 = b2 <;> simp [h1, h2], fun _ => rfl, fun _ => by show 1 ≤ 8; decide, fun _ z => by cases z⟩
theorem any_enc {α : Type} [DecidableEq α] {e : α → PyData} (he : EncD e) (x : α) : ∀ met : List α, ((met.map e).any fun z => PyData.eqv z (e x)) = decide (x ∈ met)
  | [] => rfl
  | y :: met => by
    show (PyData.eqv (e y) (e x) || (met.map e).any fun z => PyData.eqv z (e x)) = _
    rw [any_enc he x met, he.eq]
    by_cases h : y = x
    · subst h
      rw [decide_eq_true rfl, Bool.true_or]
      exact (decide_eq_true List.mem_cons_self).symm
    · rw [decide_eq_false h, Bool.false_or]
      exact decide_eq_decide.mpr ⟨fun z => List.mem_cons_of_mem _ z, fun z => (List.mem_cons.mp z).elim (fun e => absurd e.symm h) id⟩
theorem lay_all : ∀ {ds : List PyData}, (∀ d ∈ ds, d.canLay0 = true) → PyData.canLayAll0 ds = true
  | [], _ => rfl
  | d :: ds, h => Bool.and_eq_true_iff.mpr ⟨h d List.mem_cons_self, lay_all fun x hx => h x (List.mem_cons_of_mem _ hx)⟩
theorem dep_all {n : Nat} : ∀ {ds : List PyData}, (∀ d ∈ ds, d.depth ≤ n) → PyData.depthAll ds ≤ n
  | [], _ => Nat.zero_le _
  | d :: ds, h => Nat.max_le.mpr ⟨h d List.mem_cons_self, dep_all fun x hx => h x (List.mem_cons_of_mem _ hx)⟩
theorem shaped_enc {α : Type} [DecidableEq α] {e : α → PyData} (he : EncD e) (met : List α) : SeqAt.shaped (.list (met.map e)) = true :=
  shaped_of (lay_all fun d hd => by obtain ⟨x, _, rfl⟩ := List.mem_map.mp hd; exact he.lay x) (by
    show PyData.depthAll (met.map e) + 1 ≤ 64
    have : PyData.depthAll (met.map e) ≤ 8 := dep_all fun d hd => by obtain ⟨x, _, rfl⟩ := List.mem_map.mp hd; exact he.dep x
    omega)
theorem shaped_one {α : Type} [DecidableEq α] {e : α → PyData} (he : EncD e) (x : α) : SeqAt.shaped (e x) = true := shaped_of (he.lay x) (Nat.le_trans (he.dep x) (by decide))
/-- what is asked of index -/
theorem index_of {α : Type} [DecidableEq α] {e : α → PyData} (he : EncD e) {K : PySem.W.Frag} {H : Hp} {m : Addr} {ws : List V} {v : V} {met : List α} {x : α} {Q : VK} (hm : H m = some (.lst ws)) (hw : DtAll Any H ws (met.map e)) (hv : Dt Any H v (e x)) (hx : x ∈ met) (q : Q (.int ((met.idxOf x : Nat) : Int)) H) :
    rIndexD K (.ref m) [v] H Q := by
  have il := List.idxOf_lt_length_of_mem hx
  refine ⟨m, v, e x, met.map e, met.idxOf x, e x, rfl, rfl, (Dt.lst (S := Any) trivial hm hw).dp, hv.dp, shaped_enc he met, shaped_one he x, by rw [List.getElem?_map, idx_of hx]; rfl, by rw [he.eq]; exact decide_eq_true rfl, fun k z hk ez => ?_, q⟩
  rw [List.getElem?_map] at ez
  obtain ⟨y, ey, rfl⟩ := Option.map_eq_some_iff.mp ez
  rw [he.eq]
  refine decide_eq_false fun h => ?_
  subst h
  have z := List.not_of_lt_findIdx (p := (· == y)) (xs := met) (i := k) hk
  obtain ⟨hkl, ek⟩ := List.getElem?_eq_some_iff.mp ey
  rw [ek] at z
  simp at z
section
variable {P : Program} {w : World} {K : PySem.W.Frag} {mg : Str → Option Value} {base : Heap}
theorem ok_nums {α : Type} [DecidableEq α] {e : α → PyData} (he : EncD e) {f : Addr} {fd : FuncData} (F : FnP K "_law_numbers" sNumbers f fd) : FnOk P w K mg base CX0 1 f fd ["_law_things"] (spNums e) := by
  have sc : FnScope ["_law_things", "_law_met", "_law_found", "_law_thing"] ["_law_things"] (defScope sNumbers) := ⟨rfl, rfl, rfl, by decide +kernel, rfl, by decide +kernel, by decide +kernel⟩
  refine F.ok sc (fun vs H Q E h => ?_) (fun cdv A outer s H vs Q E hr h => ?_)
  · obtain ⟨a, us, l, rfl, _⟩ := h
    rfl
  · obtain ⟨a, us, l, rfl, ha, hl, hp, h64, q⟩ := h
    have hu65 : (A.deeper (envOfC "_law_numbers" (defScope sNumbers) s.heap.objs.size f cdv)).units + 65 < cLine := by have := hr.un; omega
    refine ⟨_, PSs.nox (pss_cons (ps_par (i := 1) (j := 2) rfl sc.nd rfl rfl (by decide) rfl rfl (pa_cons (pe_lst pa_nil) (pa_cons (pe_lst pa_nil) pa_nil)) rfl)
    (pss_cons (ps_for PassesOwn.never rfl (pi_list (pv 0)) (pg_name (i := 3) sc.nd rfl (.inl rfl))
      (pss_cons (ps_if (PW.pt (pw_and (pt_cmpR op_notN (pv 3) pe_non (nomark _)) (pw_and1 (pt_cmpR (op_notInD hu65) (pv 3) (pv 1) (by rfl)))))
        (pss_one (ps_expr (pe_bm PySem.F.plainAttrs_list PySem.F.slot_list_append PySem.F.type_list_append mt_append (pv 1) (pa_cons (pv 3) pa_nil))))
        pss_nil)
      (pss_one (ps_expr (pe_bm PySem.F.plainAttrs_list PySem.F.slot_list_append PySem.F.type_list_append mt_append (pv 2) (pa_cons (pe_ifExp (pt_cmpR op_isN (pv 3) pe_non (nomark _)) pe_non (pe_bm PySem.F.plainAttrs_list PySem.F.slot_list_index PySem.F.type_list_index (mt_indexD hu65) (pv 1) (pa_cons (pv 3) pa_nil))) pa_nil))))))
    (pss_one (ps_ret (pv 2))))), ?_⟩
    refine ⟨(by show 0 ≤ sizeLine; decide), fun m nm => ⟨(by show 0 ≤ sizeLine; decide), fun g ng => ⟨_, _, rfl, ?_⟩⟩⟩
    have sm := same_upd (o := .lst []) nm
    have sg := same_upd (o := .lst []) ng
    have mg_ : m ≠ g := ne_of_none upd_same ng
    have ng0 : H g = none := by rw [upd_ne (Ne.symm mg_)] at ng; exact ng
    refine ⟨_, rfl, a, rfl, ⟨_, SqL.of (sg _ _ (sm _ _ ha))⟩, for_it walk_list (fun i σ H' => ∃ (met : List α) (ws : List V) (x3 : Option V), σ = [some (.ref a), some (.ref m), some (.ref g), x3] ∧ numA met (l.drop i) = (num l).drop i ∧ met.length ≤ i ∧ H' m = some (.lst ws) ∧ DtAll Any H ws (met.map e) ∧ H' g = some (.lst (vals ((num l).take i))) ∧ Same H H')
      ⟨[], [], none, rfl, rfl, Nat.le_refl _, sg _ _ upd_same, .nil, upd_same, sm.trans sg⟩ (fun i σ H' _ ⟨_, _, _, _, _, _, _, _, _, s'⟩ => SqL.of (s' _ _ ha)) ?_ ?_⟩
    · rintro i y σ H1 H2 hi ⟨met, ws, x3, rfl, en, ml, hm, hw, hg, s1⟩ ⟨rfl, ev⟩
      have il : i < l.length := by rw [← hl]; exact hi
      obtain ⟨o, eo⟩ : ∃ o, l[i]? = some o := ⟨_, List.getElem?_eq_getElem il⟩
      have pv_ := hp i y o ev eo
      obtain ⟨t1, t2⟩ := num_turn en eo
      have few : (vals ((num l).take i)).length < sizeLine := by
        rw [List.length_map]
        exact Nat.lt_of_le_of_lt (Nat.le_trans (List.length_take_le _ _) (Nat.le_trans (Nat.le_of_lt il) h64)) (by decide)
      have fin : ∀ (H3 : Hp) (ws' : List V), H3 m = some (.lst ws') → DtAll Any H ws' ((metN met o).map e) → H3 g = some (.lst (vals ((num l).take i))) → Same H H3 →
          ∃ (met' : List α) (ws : List V) (x3 : Option V), [some (V.ref a), some (.ref m), some (.ref g), some y] = [some (V.ref a), some (.ref m), some (.ref g), x3] ∧ numA met' (l.drop (i + 1)) = (num l).drop (i + 1) ∧ met'.length ≤ i + 1 ∧ (upd H3 g (.lst (vals ((num l).take i) ++ [optV (oneN met o)]))) m = some (.lst ws) ∧ DtAll Any H ws (met'.map e) ∧ (upd H3 g (.lst (vals ((num l).take i) ++ [optV (oneN met o)]))) g = some (.lst (vals ((num l).take (i + 1)))) ∧ Same H (upd H3 g (.lst (vals ((num l).take i) ++ [optV (oneN met o)]))) := fun H3 ws' h1 h2 h3 h4 =>
        ⟨metN met o, ws', _, rfl, t2, Nat.le_trans (metN_len met o) (Nat.succ_le_succ ml), by rw [upd_ne mg_]; exact h1, h2, by rw [upd_same, take_snoc' t1, vals_app]; rfl, fun b u eb => by rw [upd_ne (ne_of_none eb ng0)]; exact h4 _ _ eb⟩
      have few2 : ws.length < sizeLine := by
        rw [hw.len, List.length_map]
        exact Nat.lt_of_le_of_lt (Nat.le_trans ml (Nat.le_trans (Nat.le_of_lt il) h64)) (by decide)
      cases o with
      | none =>
        obtain rfl : y = .non := pv_
        refine ⟨_, rfl, rfl, _, rfl, iteF (iteF ?_)⟩
        refine ⟨_, rfl, .inl ⟨rfl, _, SqL.of hg⟩, _, rfl, rfl, _, rfl, iteT ?_⟩
        exact ⟨g, _, .non, rfl, rfl, hg, few, fin H2 ws hm hw hg s1⟩
      | some x =>
        have hv : Dt Any H y (e x) := pv_
        have ny : decide (y = V.non) = false := decide_eq_false fun z => by
          rw [z] at hv
          have z2 : ∀ d, Dt Any H .non d → d = .none := fun d h => by cases h; rfl
          exact he.nn x (z2 _ hv)
        have hv1 := hv.same s1
        have hw1 := hw.same s1
        refine ⟨_, rfl, rfl, _, rfl, ?_⟩
        rw [ny]
        refine iteT ⟨_, rfl, _, rfl, e x, met.map e, hv1.dp, (Dt.lst (S := Any) trivial hm hw1).dp, shaped_one he x, shaped_enc he met, _, rfl, ?_⟩
        rw [any_enc he]
        have rest : ∀ (H3 : Hp) (ws' : List V), H3 m = some (.lst ws') → DtAll Any H ws' ((metN met (some x)).map e) → H3 g = some (.lst (vals ((num l).take i))) → Same H H3 → tDrop (tBM K "list" rAppend (tVar 2) (tCons (tIf (tTest (tOp (fun x y H Q => y = V.non ∧ Q (V.bl (decide (x = V.non))) H) (tVar 3) (tC V.non))) (tC V.non) (tBM K "list" (rIndexD K) (tVar 1) (tCons (tVar 3) tNil))) tNil))
            { nx := fun σ H' => ∃ (met' : List α) (ws : List V) (x3 : Option V), σ = [some (V.ref a), some (.ref m), some (.ref g), x3] ∧ numA met' (l.drop (i + 1)) = (num l).drop (i + 1) ∧ met'.length ≤ i + 1 ∧ H' m = some (.lst ws) ∧ DtAll Any H ws (met'.map e) ∧ H' g = some (.lst (vals ((num l).take (i + 1)))) ∧ Same H H', rt := Q } [some (V.ref a), some (.ref m), some (.ref g), some y] H3 := fun H3 ws' h1 h2 h3 h4 => by
          have hx : x ∈ metN met (some x) := by
            show x ∈ (if x ∈ met then met else met ++ [x])
            split
            · assumption
            · simp
          have on_ : oneN met (some x) = some ((metN met (some x)).idxOf x) := by
            have z := get_met (f := fun z : α => z) (fun _ _ z => z) met x
            rw [valV_encM (fun _ _ z => z), if_pos hx, Nat.zero_add] at z
            exact optV_inj (Option.some.inj z).symm
          refine ⟨_, rfl, .inl ⟨rfl, _, SqL.of h3⟩, _, rfl, rfl, _, rfl, ?_⟩
          rw [ny]
          refine iteF ⟨_, rfl, .inl ⟨rfl, _, SqL.of h1⟩, _, rfl, ?_⟩
          dsimp only [tNil]
          refine index_of he h1 (h2.same h4) (hv.same h4) hx ?_
          refine ⟨g, _, _, rfl, rfl, h3, few, ?_⟩
          have z := fin H3 ws' h1 h2 h3 h4
          rw [on_] at z
          exact z
        by_cases hx : x ∈ met
        · rw [decide_eq_true hx]
          have em : metN met (some x) = met := if_pos hx
          exact iteF (rest H2 ws hm (by rw [em]; exact hw) hg s1)
        · rw [decide_eq_false hx]
          have em : metN met (some x) = met ++ [x] := if_neg hx
          refine iteT ⟨_, rfl, .inl ⟨rfl, _, SqL.of hm⟩, _, rfl, m, _, _, rfl, rfl, hm, few2, ?_⟩
          refine rest _ (ws ++ [y]) upd_same (by rw [em, List.map_append]; exact hw.app (.cons hv .nil)) ((upd_ne (Ne.symm mg_)).trans hg) fun b u eb => ?_
          rw [upd_ne (ne_of_none eb nm)]
          exact s1 _ _ eb
    · rintro σ H1 ⟨met, ws, x3, rfl, _, _, _, _, hg, s1⟩
      refine ⟨_, rfl, q H1 g s1 ng0 ?_⟩
      rw [hg, hl, List.take_of_length_le (by rw [num_len]; exact Nat.le_refl _)]
end
end K27

/-! entries, a size, a row, the number of classes -/
namespace K27
open PySem PySem.Spec PyProof.Rows L2
theorem kput {p D : Addr} {H H1 : Hp} {o : HO} (nD : H D = none) (k : Kept p H H1) : Kept p H (upd H1 D o) := fun a x na e => (upd_ne (ne_of_none e nD)).trans (k a x na e)
theorem cnt_app {p : List V} {c0 c : Nat} {v : V} (h : cnt c0 p = some c) : cnt c0 (p ++ [v]) = stepE c v := by
  induction p generalizing c0 with
  | nil =>
    cases h
    show (match stepE c v with | some d => cnt d [] | none => none) = _
    cases stepE c v <;> rfl
  | cons u p ih =>
    have h : (match stepE c0 u with | some d => cnt d p | none => none) = some c := h
    show (match stepE c0 u with | some d => cnt d (p ++ [v]) | none => none) = _
    cases e : stepE c0 u with
    | none => rw [e] at h; cases h
    | some d => rw [e] at h; exact ih h
def spEn : Sp := fun vs H Q _ => ∃ (p l : Addr) (n : Nat) (b : Bool), vs = [.ref p, .int (n : Int), .bl b] ∧ Hand p l H ∧ n ≤ 40 ∧ ∀ (H' : Hp) (z : Addr) (x : List (Option Nat)), Kept p H H' → Hand p l H' → H z = none → H' z = some (.lst (vals x)) → Pt x → x.length = n → Q (.ref z) H'
def spSize : Sp := fun vs H Q _ => ∃ (p l : Addr), vs = [.ref p] ∧ Hand p l H ∧ ∀ (H' : Hp) (n : Nat), n ≤ 40 → Kept p H H' → Hand p l H' → Q (.int (n : Int)) H'
section
variable {P : Program} {w : World} {K : PySem.W.Frag} {mg : Str → Option Value} {base : Heap}
theorem ok_en {f fD : Addr} {fd fdD : FuncData} (F : FnP K "_law_entries" sEntries f fd) (z_range : mg "range" = none) (dD : Df P w K mg base "_law_draw" 2 ["_law_hand_here", "_law_many"] spDr fD fdD) : FnOk P w K mg base CX0 3 f fd ["_law_hand_here", "_law_size_here", "_law_empty"] spEn := by
  have sc : FnScope ["_law_hand_here", "_law_size_here", "_law_empty", "_law_entries_here", "_law_met", "_law_k", "_law_entry"] ["_law_hand_here", "_law_size_here", "_law_empty"] (defScope sEntries) := ⟨rfl, rfl, rfl, by decide +kernel, rfl, by decide +kernel, by decide +kernel⟩
  refine F.ok sc (fun vs H Q E h => ?_) (fun cdv A outer s H vs Q E hr2 h => ?_)
  · obtain ⟨p, l, n, b, rfl, _⟩ := h
    rfl
  · obtain ⟨p, l, n, b, rfl, hp, hn, q⟩ := h
    refine ⟨_, PSs.nox (pss_cons (ps_par (i := 3) (j := 4) rfl sc.nd rfl rfl (by decide) rfl rfl (pa_cons (pe_lst pa_nil) (pa_cons pe_int pa_nil)) rfl)
    (pss_cons (ps_for PassesOwn.never rfl (pi_range1 (by rfl) z_range (pa_cons (pv 1) pa_nil)) (pg_name (i := 5) sc.nd rfl (.inl rfl))
      (pss_one (ps_if (PW.pt (pw_and (pt_val (pv 2)) (pw_and1 (pt_cmpR op_eq (pe_call dD.ok hr2 (by rfl) dD.gl dD.kp dD.bi .nil pass0 (pa_cons (pv 0) (pa_cons pe_int pa_nil))) pe_int (nomark _)))))
        (pss_one (ps_expr (pe_bm PySem.F.plainAttrs_list PySem.F.slot_list_append PySem.F.type_list_append mt_append (pv 3) (pa_cons pe_non pa_nil))))
        (pss_cons (ps_set (i := 6) sc.nd rfl (.inl rfl) (pe_call dD.ok hr2 (by rfl) dD.gl dD.kp dD.bi .nil pass0 (pa_cons (pv 0) (pa_cons (pe_op op_add (pv 4) pe_int) pa_nil))))
        (pss_cons (ps_set (i := 4) sc.nd rfl (.inl rfl) (pe_ifExp (pt_cmpR op_eq (pv 6) (pv 4) (nomark _)) (pe_op op_add (pv 4) pe_int) (pv 4)))
        (pss_one (ps_expr (pe_bm PySem.F.plainAttrs_list PySem.F.slot_list_append PySem.F.type_list_append mt_append (pv 3) (pa_cons (pv 6) pa_nil)))))))))
    (pss_one (ps_ret (pv 3))))), ?_⟩
    refine ⟨Nat.zero_le _, fun D nD => ⟨_, _, rfl, ?_⟩⟩
    have Dp := hp.nn nD
    have Dl := hp.nl nD
    have s0 := same_upd (o := .lst []) nD
    refine ⟨_, rfl, (n : Int), rfl, by omega, by omega, ?_⟩
    rw [Int.toNat_natCast]
    refine for_it walk_range (fun i σ H' => ∃ (x5 x6 : Option V) (x : List (Option Nat)) (c : Nat), σ = [some (.ref p), some (.int (n : Int)), some (.bl b), some (.ref D), some (.int (c : Int)), x5, x6] ∧ c ≤ i ∧ H' D = some (.lst (vals x)) ∧ cnt 0 (vals x) = some c ∧ x.length = i ∧ Kept p H H' ∧ Hand p l H')
      ⟨none, none, [], 0, rfl, Nat.le_refl _, upd_same, rfl, rfl, Kept.same s0, hp.app Dp Dl⟩ (fun _ _ _ _ _ => trivial) ?_ ?_
    · rintro i y σ Hx H1 hi ⟨x5, x6, x, c, rfl, hc, eD, ex, em, k1, h1⟩ ⟨rfl, rfl⟩
      have va : ∀ o, cnt 0 (vals (x ++ [o])) = stepE c (optV o) := fun o => by
        rw [vals_app]
        exact cnt_app ex
      have xl : (vals x).length < sizeLine := by
        rw [List.length_map, em]
        exact Nat.lt_of_lt_of_le (show i < 40 by omega) (by decide)
      have fin : ∀ (o : Option Nat) (c' : Nat) (u : Option V) (H3 : Hp), Kept p H H3 → Hand p l H3 → cnt 0 (vals (x ++ [o])) = some c' → c' ≤ i + 1 → ∃ (x5' x6' : Option V) (x' : List (Option Nat)) (c2 : Nat), [some (.ref p), some (.int (n : Int)), some (.bl b), some (.ref D), some (.int (c' : Int)), some (.int (0 + (i : Int))), u] = [some (.ref p), some (.int (n : Int)), some (.bl b), some (.ref D), some (.int (c2 : Int)), x5', x6'] ∧ c2 ≤ i + 1 ∧ (upd H3 D (.lst (vals x ++ [optV o]))) D = some (.lst (vals x')) ∧ cnt 0 (vals x') = some c2 ∧ x'.length = i + 1 ∧ Kept p H (upd H3 D (.lst (vals x ++ [optV o]))) ∧ Hand p l (upd H3 D (.lst (vals x ++ [optV o]))) := fun o c' u H3 k13 h3 hc' hl => by
        refine ⟨_, _, x ++ [o], c', rfl, hl, by rw [upd_same, vals_app]; rfl, hc', ?_, kput nD k13, h3.app Dp Dl⟩
        rw [List.length_append, em]
        rfl
      have slow : ∀ H2 : Hp, Kept p H1 H2 → Hand p l H2 → tSeq (tAsg (tCall spDr [] E0 (tCons (tVar 0) (tCons (tOp rAdd (tVar 4) (tC (V.int 1))) tNil))) (gName 6)) (tSeq (tAsg (tIf (tTest (tOp rEq (tVar 6) (tVar 4))) (tOp rAdd (tVar 4) (tC (V.int 1))) (tVar 4)) (gName 4)) (tDrop (tBM K "list" rAppend (tVar 3) (tCons (tVar 6) tNil))))
          { nx := fun σ H' => ∃ (x5' x6' : Option V) (x' : List (Option Nat)) (c2 : Nat), σ = [some (.ref p), some (.int (n : Int)), some (.bl b), some (.ref D), some (.int (c2 : Int)), x5', x6'] ∧ c2 ≤ i + 1 ∧ H' D = some (.lst (vals x')) ∧ cnt 0 (vals x') = some c2 ∧ x'.length = i + 1 ∧ Kept p H H' ∧ Hand p l H', rt := Q } [some (.ref p), some (.int (n : Int)), some (.bl b), some (.ref D), some (.int (c : Int)), some (.int (0 + (i : Int))), x6] H2 := fun H2 k2 h2 => by
        refine ⟨_, rfl, _, rfl, _, _, rfl, rfl, p, l, (c : Int) + 1, rfl, h2, by omega, Nat.lt_of_le_of_lt (show ((c : Int) + 1).natAbs ≤ 41 by omega) (by decide +kernel), fun d H3 d0 d1 k3 h3 => ?_⟩
        obtain ⟨m, rfl⟩ := Int.eq_ofNat_of_zero_le d0
        have eD3 := k3 _ _ Dp (k2 _ _ Dp eD)
        have k13 := (k1.trans k2).trans k3
        refine ⟨_, rfl, _, rfl, rfl, _, rfl, ite2 (fun g => ?_) (fun g => ?_)⟩
        · have g2 : m = c := by
            have := V.int.inj (of_decide_eq_true g)
            omega
          refine ⟨_, rfl, _, _, rfl, rfl, _, rfl, .inl ⟨rfl, _, SqL.of eD3⟩, _, rfl, D, _, _, rfl, rfl, eD3, xl, ?_⟩
          exact fin (some m) (c + 1) _ H3 k13 h3 (by rw [va, stepE_some, if_neg (by omega), if_pos g2]) (by omega)
        · have g2 : m ≠ c := fun z => g (decide_eq_true (by rw [z]))
          refine ⟨_, rfl, _, rfl, .inl ⟨rfl, _, SqL.of eD3⟩, _, rfl, D, _, _, rfl, rfl, eD3, xl, ?_⟩
          exact fin (some m) c _ H3 k13 h3 (by rw [va]; rw [stepE_some, if_neg (by omega), if_neg g2]) (by omega)
      cases b with
      | false => exact ⟨_, rfl, _, rfl, iteF (iteF (slow H1 Kept.refl h1))⟩
      | true =>
        refine ⟨_, rfl, _, rfl, iteT ⟨_, rfl, p, l, 4, rfl, h1, by decide, by decide +kernel, fun d H2 d0 d1 k2 h2 => ⟨rfl, _, rfl, ite2 (fun g => ?_) (fun g => slow H2 k2 h2)⟩⟩⟩
        exact ⟨_, rfl, .inl ⟨rfl, _, SqL.of (k2 _ _ Dp eD)⟩, D, _, _, rfl, rfl, k2 _ _ Dp eD, xl, fin none c _ H2 (k1.trans k2) h2 (by rw [va]; rfl) (by omega)⟩
    · rintro σ H1 ⟨x5, x6, x, c, rfl, hc, eD, ex, em, k1, h1⟩
      exact ⟨_, rfl, q H1 D x k1 h1 nD eD (pt_of_cnt ex) em⟩
theorem ok_size {f fD : Addr} {fd fdD : FuncData} (F : FnP K "_law_size" sSize f fd) (dD : Df P w K mg base "_law_draw" 2 ["_law_hand_here", "_law_many"] spDr fD fdD) : FnOk P w K mg base CX0 3 f fd ["_law_hand_here"] spSize := by
  have sc : FnScope ["_law_hand_here", "_law_kind"] ["_law_hand_here"] (defScope sSize) := ⟨rfl, rfl, rfl, by decide +kernel, rfl, by decide +kernel, by decide +kernel⟩
  refine F.ok sc (fun vs H Q E h => ?_) (fun cdv A outer s H vs Q E hr2 h => ?_)
  · obtain ⟨p, l, rfl, _⟩ := h
    rfl
  · obtain ⟨p, l, rfl, hp, q⟩ := h
    refine ⟨_, PSs.nox (pss_cons (ps_set (i := 1) sc.nd rfl (.inl rfl) (pe_call dD.ok hr2 (by rfl) dD.gl dD.kp dD.bi .nil pass0 (pa_cons (pv 0) (pa_cons pe_int pa_nil))))
    (pss_one (ps_ret (pe_ifExp (pt_cmpR op_eq (pv 1) pe_int (nomark _)) pe_int (pe_ifExp (pt_cmpR op_eq (pv 1) pe_int (nomark _)) (pe_call dD.ok hr2 (by rfl) dD.gl dD.kp dD.bi .nil pass0 (pa_cons (pv 0) (pa_cons pe_int pa_nil))) (pe_call dD.ok hr2 (by rfl) dD.gl dD.kp dD.bi .nil pass0 (pa_cons (pv 0) (pa_cons pe_int pa_nil)))))))), ?_⟩
    refine ⟨_, rfl, p, l, 10, rfl, hp, by decide, by decide +kernel, fun d1 H1 d10 d11 k1 h1 => ?_⟩
    refine ⟨_, rfl, rfl, _, rfl, ite2 (fun g => q _ 40 (Nat.le_refl _) k1 h1) (fun g => ?_)⟩
    refine ⟨_, rfl, rfl, _, rfl, ite2 (fun g => ?_) (fun g => ?_)⟩
    · refine ⟨_, rfl, p, l, 41, rfl, h1, by decide, by decide +kernel, fun d H2 d0 d1 k h => ?_⟩
      obtain ⟨n, rfl⟩ := Int.eq_ofNat_of_zero_le d0
      exact q _ n (by omega) (k1.trans k) h
    · refine ⟨_, rfl, p, l, 9, rfl, h1, by decide, by decide +kernel, fun d H2 d0 d1 k h => ?_⟩
      obtain ⟨n, rfl⟩ := Int.eq_ofNat_of_zero_le d0
      exact q _ n (by omega) (k1.trans k) h
end
end K27

/-! names, a row of them, the number of classes -/
namespace K27
open PySem PySem.Spec PyProof.Rows L2
abbrev nmL (ns : List Nat) : List V := vals (ns.map some)
theorem nmL_get {ns : List Nat} {k : Nat} : (nmL ns)[k]? = (ns[k]?).map fun n : Nat => V.int (n : Int) := by
  rw [vals_get, List.getElem?_map, Option.map_map]
  rfl
theorem nmL_len (ns : List Nat) : (nmL ns).length = ns.length := by rw [List.length_map, List.length_map]
theorem nmL_app (xs ys : List Nat) : nmL (xs ++ ys) = nmL xs ++ nmL ys := (congrArg vals List.map_append).trans (vals_app _ _)
theorem perm_erase : ∀ (xs : List Nat) (k : Nat) (h : k < xs.length), (xs[k] :: xs.eraseIdx k).Perm xs
  | [], _, h => absurd h (Nat.not_lt_zero _)
  | x :: xs, 0, _ => .refl _
  | x :: xs, k + 1, h => .trans (.swap _ _ _) (.cons x (perm_erase xs k (Nat.lt_of_succ_lt_succ h)))
theorem nmL_erase (k : Nat) : ∀ xs : List Nat, ∀ k, (nmL xs).eraseIdx k = nmL (xs.eraseIdx k)
  | [], _ => rfl
  | x :: xs, 0 => rfl
  | x :: xs, k + 1 => congrArg (V.int (x : Int) :: ·) (nmL_erase k xs k)
/-- names: unlike, none too great -/
structure NmOk (ns : List Nat) : Prop where
  nd : ns.Nodup
  le : ∀ n ∈ ns, n ≤ 10 ^ 30
theorem seq_finS {t u : TS} {D : Ends} {σ : L2.St} {H : Hp} (R : L2.St → Hp → Prop) (hu : ∀ σ' H', R σ' H' → u D σ' H') (ht : (∀ σ' H', R σ' H' → u D σ' H') → t { D with nx := u D } σ H) : tSeq t u D σ H := ht hu
theorem NmOk.perm {xs ys : List Nat} (h : NmOk xs) (p : ys.Perm xs) : NmOk ys := ⟨p.nodup_iff.mpr h.nd, fun n hn => h.le n (p.mem_iff.mp hn)⟩
theorem seqIx {k n : Nat} (h : k < n) : seqIndex? (k : Int) n = some k := by
  unfold seqIndex?
  rw [if_neg (show ¬ (k : Int) < 0 by omega)]
  dsimp only
  rw [if_pos (by rw [Bool.and_eq_true, decide_eq_true_iff, decide_eq_true_iff]; omega), Int.toNat_natCast]
def spPool : Sp := fun vs H Q _ => ∃ (p l : Addr) (m : Nat), vs = [.ref p, .int (m : Int)] ∧ Hand p l H ∧ m ≤ 40 ∧ ∀ (H' : Hp) (z : Addr) (ns : List Nat), Kept p H H' → Hand p l H' → H z = none → H' z = some (.lst (nmL ns)) → NmOk ns → ns.length = m → Q (.ref z) H'
def spCnt : Sp := fun vs H Q _ => ∃ (a : Addr) (p : List (Option Nat)) (c : Nat), vs = [.ref a] ∧ H a = some (.lst (vals p)) ∧ cnt 0 (vals p) = some c ∧ p.length ≤ 40 ∧ ∀ H', Same H H' → Q (.int (c : Int)) H'
def rowL (p : List (Option Nat)) (ns : List Nat) : List (Option Nat) := p.map fun o => o.map fun k => ns.getD k 0
def spRow : Sp := fun vs H Q _ => ∃ (a b : Addr) (p : List (Option Nat)) (ns : List Nat) (c : Nat), vs = [.ref a, .ref b] ∧ H a = some (.lst (vals p)) ∧ H b = some (.lst (nmL ns)) ∧ cnt 0 (vals p) = some c ∧ c ≤ ns.length ∧ p.length ≤ 40 ∧ ∀ (H' : Hp) (z : Addr), Same H H' → H z = none → H' z = some (.lst (vals (rowL p ns))) → Q (.ref z) H'
section
variable {P : Program} {w : World} {K : PySem.W.Frag} {mg : Str → Option Value} {base : Heap}
theorem ok_row {f : Addr} {fd : FuncData} (F : FnP K "_law_row" sRow f fd) : FnOk P w K mg base CX0 1 f fd ["_law_entries_here", "_law_names"] spRow := by
  have sc : FnScope ["_law_entries_here", "_law_names", "_law_entry"] ["_law_entries_here", "_law_names"] (defScope sRow) := ⟨rfl, rfl, rfl, by decide +kernel, rfl, by decide +kernel, by decide +kernel⟩
  refine F.ok sc (fun vs H Q E h => ?_) (fun cdv A outer s H vs Q E hr h => ?_)
  · obtain ⟨a, b, p, ns, c, rfl, _⟩ := h
    rfl
  · obtain ⟨a, b, p, ns, c, rfl, ha, hb, ec, hc, hl, q⟩ := h
    refine ⟨_, PSs.nox (pss_one (ps_ret (pe_lc (own := [("_law_entry", 2)]) (g := gName 2) (tt := tYes) (te := tIf (tTest (tOp (fun x y H Q => y = V.non ∧ Q (V.bl (decide (x = V.non))) H) (tVar 2) (tC .non))) (tC .non) (tOp (rIxL K) (tVar 1) (tVar 2))) rfl sc.nd (pi_list (pv 0)) (blkOk_by (N := ["_law_entries_here", "_law_names", "_law_entry"]) (sc := defScope sRow) (by decide +kernel)) (fun _ _ _ _ _ => pg_name (i := 2) sc.nd rfl (Or.inl rfl)) (fun _ _ _ _ _ => pts_nil) (fun _ _ _ _ _ => (pe_ifExp (pt_cmpR op_isN (pv 2) pe_non (nomark _)) pe_non (pe_ix ix_list (pv 1) (pv 2) (fun _ _ => rfl))))))), ?_⟩
    have kl := (pt_of_cnt ec).classes ec
    refine ⟨_, rfl, a, rfl, ⟨_, SqL.of ha⟩, fun D nD => lc_N walk_list (fun i acc _ => acc = vals ((rowL p ns).take i)) (lcR_pure fun i => by rw [List.length_map]; exact List.length_take_le _ _) nD (by rw [List.length_map]; exact Nat.lt_of_le_of_lt hl (by decide)) rfl (fun H' s' => SqL.of (s' _ _ ha)) (fun _ => rfl) ?_ (fun _ _ _ _ h q => h _ _ q)
        (mE_if (mT_test (mE_op mR_isN mE_var mE_c)) mE_c (mE_op mR_ixL mE_var mE_var)) ?_⟩
    · rintro i v acc H' ev s' eD rfl
      rw [vals_get] at ev
      obtain ⟨o, eo, rfl⟩ := Option.map_eq_some_iff.mp ev
      refine ⟨Same.refl _, iteT ?_⟩
      have er : (rowL p ns)[i]? = some (o.map fun k => ns.getD k 0) := by
        unfold rowL
        rw [List.getElem?_map, eo]
        rfl
      rw [take_snoc' er, vals_app]
      cases o with
      | none => exact ⟨_, rfl, rfl, _, rfl, iteT ⟨Same.refl _, rfl⟩⟩
      | some k =>
        have hk : k < c := (kl k).mp ⟨i, eo⟩
        have kx : k < ns.length := by omega
        refine ⟨_, rfl, rfl, _, rfl, iteF ⟨_, rfl, _, rfl, b, _, (k : Int), V.int ((ns[k] : Nat) : Int), rfl, rfl, SqL.of (s' _ _ hb), atI_nat (by rw [nmL_get, List.getElem?_eq_getElem kx]; rfl), Same.refl _, ?_⟩⟩
        show _ = _ ++ [V.int ((ns.getD k 0 : Nat) : Int)]
        rw [List.getD_eq_getElem?_getD, List.getElem?_eq_getElem kx]
        rfl
    · rintro H2 acc s2 eD rfl
      have ll : (rowL p ns).length = p.length := List.length_map ..
      rw [List.length_map, List.take_of_length_le (Nat.le_of_eq ll)] at eD
      exact q H2 D s2 nD eD
theorem ok_cnt {f : Addr} {fd : FuncData} (F : FnP K "_law_count" sCount f fd) (z_max : mg "max" = none) : FnOk P w K mg base CX0 1 f fd ["_law_entries_here"] spCnt := by
  have sc : FnScope ["_law_entries_here", "_law_entry"] ["_law_entries_here"] (defScope sCount) := ⟨rfl, rfl, rfl, by decide +kernel, rfl, by decide +kernel, by decide +kernel⟩
  refine F.ok sc (fun vs H Q E h => ?_) (fun cdv A outer s H vs Q E hr h => ?_)
  · obtain ⟨a, p, c, rfl, _⟩ := h
    rfl
  · obtain ⟨a, p, c, rfl, ha, ec, hl, q⟩ := h
    refine ⟨_, PSs.nox (pss_one (ps_ret (pe_op op_add pe_int (pe_callB (cr_max rfl) (by rfl) z_max (by decide +kernel) (pa_cons (pe_op op_cat (pe_lst (pa_cons (pe_un un_neg pe_int) pa_nil)) (pe_lc (own := [("_law_entry", 1)]) (g := gName 1) (tt := tTest (tOp (fun x y H Q => y = V.non ∧ Q (V.bl !decide (x = V.non)) H) (tVar 1) (tC .non))) (te := tVar 1) rfl sc.nd (pi_list (pv 0)) (blkOk_by (N := ["_law_entries_here", "_law_entry"]) (sc := defScope sCount) (by decide +kernel)) (fun _ _ _ _ _ => pg_name (i := 1) sc.nd rfl (Or.inl rfl)) (fun _ _ _ _ _ => pts_one (pt_cmpR op_notN (pv 1) pe_non (nomark _))) (fun _ _ _ _ _ => (pv 1)))) pa_nil))))), ?_⟩
    refine ⟨_, rfl, (by show 1 ≤ sizeLine; decide), fun L nL => ?_⟩
    have sL := same_upd (o := .lst [.int (-1)]) nL
    have ha1 := sL _ _ ha
    refine ⟨_, rfl, a, rfl, ⟨_, SqL.of ha1⟩, fun D nD => lc_N walk_list (fun i acc _ => acc = (intsOf ((vals p).take i)).map V.int) (lcR_pure fun i => by rw [List.length_map]; exact Nat.le_trans (len_intsOf _) (List.length_take_le _ _)) nD (by rw [List.length_map]; exact Nat.lt_of_le_of_lt hl (by decide)) rfl (fun H' s' => SqL.of (s' _ _ ha1)) (fun _ => rfl) ?_ (mT_test (mE_op mR_isN mE_var mE_c)) mE_var ?_⟩
    · rintro i v acc H' ev s' eD rfl
      rw [take_snoc' ev, intsOf_app]
      rw [vals_get] at ev
      obtain ⟨o, eo, rfl⟩ := Option.map_eq_some_iff.mp ev
      cases o with
      | none =>
        refine ⟨_, rfl, rfl, _, rfl, Same.refl _, iteF ?_⟩
        show _ = (intsOf ((vals p).take i) ++ []).map V.int
        rw [List.append_nil]
      | some k =>
        refine ⟨_, rfl, rfl, _, rfl, Same.refl _, iteT ⟨_, rfl, Same.refl _, ?_⟩⟩
        rw [List.map_append]
        rfl
    · rintro H2 acc s2 eD rfl
      rw [List.take_of_length_le (Nat.le_refl _)] at eD
      have lI : (intsOf (vals p)).length ≤ 40 := Nat.le_trans (len_intsOf _) (by rw [List.length_map]; exact hl)
      refine ⟨L, D, [.int (-1)], (intsOf (vals p)).map V.int, rfl, rfl, s2 _ _ upd_same, eD, by rw [List.length_map]; exact Nat.le_trans (show 1 + (intsOf (vals p)).length ≤ 41 by omega) (by decide), fun z nz => ?_⟩
      refine ⟨z, -1 :: intsOf (vals p), rfl, SqL.of upd_same, Nat.succ_pos _, fun m hm hle => ⟨_, _, rfl, rfl, ?_⟩⟩
      have em : (1 : Int) + m = (c : Int) := by
        rcases List.mem_cons.mp hm with rfl | hm
        · have en : intsOf (vals p) = [] := by
            cases e : intsOf (vals p) with
            | nil => rfl
            | cons y r =>
              have hy : y ∈ intsOf (vals p) := by rw [e]; exact List.mem_cons_self
              have h1 := hle y (List.mem_cons_of_mem _ hy)
              rcases cnt_kinds ec _ (mem_intsOf hy) with e | ⟨i, e, hi⟩
              · cases e
              · injection e with e
                omega
          rw [cnt_none ec en]
          rfl
        · exact cnt_max ec hm fun y hy => hle y (List.mem_cons_of_mem _ hy)
      show Q (V.int ((1 : Int) + m)) _
      rw [em]
      exact q _ ((sL.trans s2).trans (same_upd nz))
theorem ok_pool {f fD : Addr} {fd fdD : FuncData} (F : FnP K "_law_pool" sPool f fd) (z_len : mg "len" = none) (z_range : mg "range" = none) (dD : Df P w K mg base "_law_draw" 2 ["_law_hand_here", "_law_many"] spDr fD fdD) : FnOk P w K mg base CX0 3 f fd ["_law_hand_here", "_law_many"] spPool := by
  have sc : FnScope ["_law_hand_here", "_law_many", "_law_base", "_law_step", "_law_names", "_law_k", "_law_found"] ["_law_hand_here", "_law_many"] (defScope sPool) := ⟨rfl, rfl, rfl, by decide +kernel, rfl, by decide +kernel, by decide +kernel⟩
  refine F.ok sc (fun vs H Q E h => ?_) (fun cdv A outer s H vs Q E hr2 h => ?_)
  · obtain ⟨p, l, m, rfl, _⟩ := h
    rfl
  · obtain ⟨p, l, m, rfl, hp, hm, q⟩ := h
    refine ⟨_, PSs.nox (pss_cons (ps_asg (pe_tup (pa_cons (pe_call dD.ok hr2 (by rfl) dD.gl dD.kp dD.bi .nil pass0 (pa_cons (pv 0) (pa_cons pe_int pa_nil))) (pa_cons pe_int pa_nil))) (pg_tup (by rfl) (pgs_cons (pg_name (i := 2) sc.nd rfl (Or.inr rfl)) (pgs_cons (pg_name (i := 3) sc.nd rfl (Or.inr rfl)) pgs_nil))))
    (pss_cons (ps_if (pt_cmpR op_eq (pe_call dD.ok hr2 (by rfl) dD.gl dD.kp dD.bi .nil pass0 (pa_cons (pv 0) (pa_cons pe_int pa_nil))) pe_int (nomark _))
      (pss_one (ps_asg (pe_tup (pa_cons (pe_call dD.ok hr2 (by rfl) dD.gl dD.kp dD.bi .nil pass0 (pa_cons (pv 0) (pa_cons (pe_op op_pow pe_int pe_int) pa_nil))) (pa_cons (pe_op op_add pe_int (pe_call dD.ok hr2 (by rfl) dD.gl dD.kp dD.bi .nil pass0 (pa_cons (pv 0) (pa_cons (pe_op op_pow pe_int pe_int) pa_nil)))) pa_nil))) (pg_tup (by rfl) (pgs_cons (pg_name (i := 2) sc.nd rfl (Or.inr rfl)) (pgs_cons (pg_name (i := 3) sc.nd rfl (Or.inr rfl)) pgs_nil)))))
      pss_nil)
    (pss_cons (ps_setLc (i := 4) (own := [("_law_k", 5)]) (g := gName 5) (tt := tYes) rfl sc.nd rfl rfl (sw_true rfl rfl rfl (by decide +kernel)) (pi_range1 (by rfl) z_range (pa_cons (pv 1) pa_nil)) (blkOk_by (N := ["_law_hand_here", "_law_many", "_law_base", "_law_step", "_law_names", "_law_k", "_law_found"]) (sc := defScope sPool) (by decide +kernel)) (fun _ _ _ _ _ => pg_name (i := 5) sc.nd rfl (Or.inl rfl)) (fun _ _ _ _ _ => pts_nil) (fun _ _ _ _ _ => (pe_op op_add (pv 2) (pe_op op_mul (pv 3) (pv 5)))))
    (pss_cons (ps_set (i := 6) sc.nd rfl (.inl rfl) (pe_lst pa_nil))
    (pss_cons (ps_for PassesOwn.never rfl (pi_range1 (by rfl) z_range (pa_cons (pv 1) pa_nil)) (pg_name (i := 5) sc.nd rfl (.inl rfl))
      (pss_one (ps_expr (pe_bm PySem.F.plainAttrs_list PySem.F.slot_list_append PySem.F.type_list_append mt_append (pv 6) (pa_cons (pe_bm PySem.F.plainAttrs_list PySem.F.slot_list_pop PySem.F.type_list_pop mt_popAt (pv 4) (pa_cons (pe_call dD.ok hr2 (by rfl) dD.gl dD.kp dD.bi .nil pass0 (pa_cons (pv 0) (pa_cons (pe_callB call_len_seq (by rfl) z_len boot_len (pa_cons (pv 4) pa_nil)) pa_nil))) pa_nil)) pa_nil)))))
    (pss_one (ps_ret (pv 6)))))))), ?_⟩
    refine ⟨_, rfl, p, l, 3, rfl, hp, by decide, by decide +kernel, fun d1 H1 d10 d11 k1 h1 => ?_⟩
    obtain ⟨b0, rfl⟩ := Int.eq_ofNat_of_zero_le d10
    refine ⟨(by show 2 ≤ sizeLine; decide), fun T nT => ⟨T, _, rfl, .inl (.inl upd_same), rfl, _, _, rfl, _, _, rfl, rfl, ?_⟩⟩
    have k2 := k1.trans (Kept.same (p := p) (same_upd (o := .tup [.int (b0 : Int), .int 1]) nT))
    have h2 := h1.same (same_upd (o := .tup [.int (b0 : Int), .int 1]) nT)
    generalize upd H1 T (.tup [.int (b0 : Int), .int 1]) = H2 at k2 h2 ⊢
    dsimp only
    refine seq_finS (fun σ' H' => ∃ b t : Nat, σ' = [some (.ref p), some (.int (m : Int)), some (.int (b : Int)), some (.int (t : Int)), none, none, none] ∧ b ≤ 10 ^ 29 ∧ 1 ≤ t ∧ t ≤ 10 ^ 28 ∧ Kept p H H' ∧ Hand p l H') ?_ fun rest => ?_
    rotate_left
    · refine ⟨_, rfl, p, l, 2, rfl, h2, by decide, by decide +kernel, fun d3 H3 d30 d31 k3 h3 => ⟨rfl, _, rfl, ite2 (fun g => ?_) (fun g => ?_)⟩⟩
      · refine ⟨_, rfl, _, _, rfl, rfl, ⟨by decide, by decide, by decide⟩, p, l, (10 : Int) ^ 29, rfl, h3, by decide, by decide +kernel, fun d4 H4 d40 d41 k4 h4 => ?_⟩
        refine ⟨_, rfl, _, _, rfl, rfl, ⟨by decide, by decide, by decide⟩, p, l, (10 : Int) ^ 28, rfl, h4, by decide, by decide +kernel, fun d5 H5 d50 d51 k5 h5 => ?_⟩
        refine ⟨_, _, rfl, rfl, (by show 2 ≤ sizeLine; decide), fun T2 nT2 => ⟨T2, _, rfl, .inl (.inl upd_same), rfl, _, _, rfl, _, _, rfl, rfl, ?_⟩⟩
        obtain ⟨b, rfl⟩ := Int.eq_ofNat_of_zero_le d40
        obtain ⟨t, rfl⟩ := Int.eq_ofNat_of_zero_le d50
        have e1 : ((10 : Int) ^ 29) = ((10 ^ 29 : Nat) : Int) := by decide
        have e2 : ((10 : Int) ^ 28) = ((10 ^ 28 : Nat) : Int) := by decide
        rw [e1] at d41
        rw [e2] at d51
        refine rest _ _ ⟨b, 1 + t, rfl, by omega, by omega, by omega, ((k2.trans k3).trans (k4.trans k5)).trans (Kept.same (same_upd nT2)), h5.same (same_upd nT2)⟩
      · exact rest _ _ ⟨b0, 1, rfl, Nat.le_trans (show b0 ≤ 3 by omega) (by decide), Nat.le_refl _, by decide, k2.trans k3, h3⟩
    · rintro _ H3 ⟨b, t, rfl, hb, ht, ht2, k3, h3⟩
      refine ⟨_, rfl, (m : Int), rfl, by omega, by omega, fun N nN => ?_⟩
      have Np := h3.nn nN
      have Nl := h3.nl nN
      have nNH := h3.back k3 nN
      have bt : ∀ k : Nat, k < m → b + t * k ≤ 10 ^ 30 := fun k hk => by
        have h1 : t * k ≤ 10 ^ 28 * 40 := Nat.mul_le_mul ht2 (by omega)
        have h2 : 10 ^ 28 * 40 + 10 ^ 29 ≤ 10 ^ 30 := by decide
        omega
      rw [Int.toNat_natCast]
      refine lc_it walk_range (fun i H' => Same H3 H' ∧ H' N = some (.lst (nmL ((List.range i).map fun k => b + t * k)))) ⟨same_upd nN, upd_same⟩ (fun _ _ _ _ => trivial) ?_ ?_
      · rintro i x Hx H4 hi ⟨s4, eN⟩ ⟨rfl, rfl⟩
        refine ⟨rfl, ?_⟩
        dsimp only [tYes]
        rw [if_pos rfl]
        refine ⟨_, rfl, _, rfl, _, rfl, _, _, rfl, rfl, ?_, _, _, rfl, rfl, _, eN, ?_, fun q u e => ?_, ?_⟩
        · exact .inr ⟨Int.lt_of_lt_of_le (show (-(2 : Int) ^ 64) < 0 by decide) (by omega), Int.lt_trans (show (0 : Int) + (i : Int) < 40 by omega) (by decide)⟩
        · rw [nmL_len, List.length_map, List.length_range]
          exact Nat.lt_of_lt_of_le (show i < 40 by omega) (by decide)
        · rw [upd_ne (ne_of_none e nN)]
          exact s4 _ _ e
        · rw [upd_same, List.range_succ, List.map_append, nmL_app]
          show _ = some (HO.lst (nmL ((List.range i).map fun k => b + t * k) ++ [V.int ((b + t * i : Nat) : Int)]))
          rw [Int.zero_add, Int.natCast_add, Int.natCast_mul]
      · rintro H4 ⟨s4, eN⟩
        have k4 := k3.trans (Kept.same (p := p) s4)
        have h4 := h3.same s4
        refine ⟨Nat.zero_le _, fun D nD => ?_⟩
        have Dp := h4.nn nD
        have Dl := h4.nl nD
        have nDH := h4.back k4 nD
        have ND : N ≠ D := ne_of_none eN nD
        have ok0 : NmOk ([] ++ (List.range m).map fun k => b + t * k) := by
          rw [List.nil_append]
          refine ⟨?_, fun n hn => ?_⟩
          · rw [List.nodup_iff_pairwise_ne, List.pairwise_map]
            refine (List.nodup_range (n := m)).imp fun {x y} hxy e => hxy ?_
            have e2 : t * x = t * y := by omega
            exact Nat.eq_of_mul_eq_mul_left (by omega) e2
          · obtain ⟨k, hk, rfl⟩ := List.mem_map.mp hn
            exact bt k (List.mem_range.mp hk)
        refine ⟨_, rfl, (m : Int), rfl, by omega, by omega, ?_⟩
        rw [Int.toNat_natCast]
        refine for_it walk_range (fun i σ H' => ∃ (x5 : Option V) (fnd cur : List Nat), σ = [some (.ref p), some (.int (m : Int)), some (.int (b : Int)), some (.int (t : Int)), some (.ref N), x5, some (.ref D)] ∧ NmOk (fnd ++ cur) ∧ fnd.length = i ∧ fnd.length + cur.length = m ∧ H' N = some (.lst (nmL cur)) ∧ H' D = some (.lst (nmL fnd)) ∧ Kept p H H' ∧ Hand p l H')
          ⟨_, [], _, rfl, ok0, rfl, by rw [List.length_map, List.length_range, List.length_nil, Nat.zero_add], (upd_ne ND).trans eN, upd_same, kput nDH k4, h4.app Dp Dl⟩ (fun _ _ _ _ _ => trivial) ?_ ?_
        · rintro i y σ Hx G1 hi ⟨x5, fnd, cur, rfl, nm, fl, al, gN, gD, gk, gh⟩ ⟨rfl, rfl⟩
          have cl : 0 < cur.length := by omega
          refine ⟨_, rfl, .inl ⟨rfl, _, SqL.of gD⟩, _, rfl, .inl ⟨rfl, _, SqL.of gN⟩, _, rfl, _, rfl, N, _, rfl, .inl (SqL.of gN), p, l, _, rfl, gh, by rw [nmL_len]; omega, ?_, fun d G2 d0 d1 k5 h5 => ?_⟩
          · rw [nmL_len]
            exact Nat.lt_of_le_of_lt (show _ ≤ 40 by omega) (by decide +kernel)
          · obtain ⟨k, rfl⟩ := Int.eq_ofNat_of_zero_le d0
            rw [nmL_len] at d1
            have kc : k < cur.length := by omega
            have gN2 := k5 _ _ Np gN
            have gD2 := k5 _ _ Dp gD
            refine ⟨N, nmL cur, (k : Int), k, V.int ((cur[k] : Nat) : Int), rfl, rfl, gN2, ?_, ?_, ?_, by rw [nmL_get, List.getElem?_eq_getElem kc]; rfl, D, nmL fnd, _, rfl, rfl, (upd_ne (Ne.symm ND)).trans gD2, ?_, ?_⟩
            · omega
            · exact Int.lt_trans (show (k : Int) < 40 by omega) (by decide)
            · rw [nmL_len]
              exact seqIx kc
            · rw [nmL_len]
              exact Nat.lt_of_le_of_lt (show fnd.length ≤ 40 by omega) (by decide)
            · refine ⟨_, fnd ++ [cur[k]], cur.eraseIdx k, rfl, ?_, by rw [List.length_append, fl]; rfl, by rw [List.length_append, List.length_eraseIdx_of_lt kc, List.length_singleton]; omega, ?_, ?_, kput nDH (kput nNH (gk.trans k5)), (h5.app Np Nl).app Dp Dl⟩
              · refine nm.perm ?_
                rw [List.append_assoc]
                exact (perm_erase cur k kc).append_left fnd
              · rw [upd_ne ND, upd_same, nmL_erase k]
              · rw [upd_same, nmL_app]
                rfl
        · rintro σ G1 ⟨x5, fnd, cur, rfl, nm, fl, al, gN, gD, gk, gh⟩
          have e : cur = [] := List.length_eq_zero_iff.mp (by omega)
          rw [e, List.append_nil] at nm
          exact ⟨_, rfl, q _ D fnd gk gh nDH gD nm fl⟩
end
end K27

/-! where two rows differ; the pairs that are due -/
namespace K27
open PySem PySem.Spec PyProof.Rows L2
def spNumI : Sp := fun vs H Q _ => ∃ (a : Addr) (l : List (Option Nat)), vs = [.ref a] ∧ H a = some (.lst (vals l)) ∧ l.length ≤ 64 ∧ ∀ (H' : Hp) (z : Addr), Same H H' → H z = none → H' z = some (.lst (vals (num l))) → Q (.ref z) H'
def spDiff : Sp := fun vs H Q _ => ∃ (a b : Addr) (p q : List (Option Nat)), vs = [.ref a, .ref b] ∧ H a = some (.lst (vals p)) ∧ H b = some (.lst (vals q)) ∧ p.length = q.length ∧ p.length ≤ 40 ∧ ∀ H', Same H H' → Q (optV (partAt 0 (num p) (num q))) H'
def prD (ps : List (Nat × Nat)) : List PyData := ps.map fun p => .tuple [.int (p.1 : Int), .int (p.2 : Int)]
def plD (i : Nat) : PyData := .tuple [.none, .tuple [.str ("place" : Str), .int (i : Int)]]
def dueD (l m : List (Option Nat)) : PyData := match partAt 0 (num l) (num m) with
  | some i => plD i
  | none => if l.length = m.length then .tuple [.tuple (prD ((mets l).zip (mets m))), .none] else plD (min l.length m.length)
def spDue : Sp := fun vs H Q _ => ∃ (a b : Addr) (l m : List (Option Nat)), vs = [.ref a, .ref b] ∧ H a = some (.lst (vals l)) ∧ H b = some (.lst (vals m)) ∧ l.length ≤ 41 ∧ m.length ≤ 41 ∧ ∀ (H' : Hp) (t : Addr), Same H H' → Dt Any H' (.ref t) (dueD l m) → Q (.ref t) H'
theorem PrsAt.dt {H : Hp} : ∀ {us : List V} {ps : List (Nat × Nat)}, PrsAt H us ps → DtAll Any H us (prD ps)
  | [], [], _ => .nil
  | [], _ :: _, h => by cases h.1
  | _ :: _, [], h => by cases h.1
  | u :: us, p :: ps, h => by
    obtain ⟨t, rfl, e⟩ := h.2 0 u p rfl rfl
    exact .cons (.tup trivial e (.cons (.int _) (.cons (.int _) .nil))) (PrsAt.dt ⟨Nat.succ.inj h.1, fun j v q a b => h.2 (j + 1) v q a b⟩)
theorem len_vals {l : List (Option Nat)} : (vals l).length = l.length := List.length_map ..
section
variable {P : Program} {w : World} {K : PySem.W.Frag} {mg : Str → Option Value} {base : Heap}
theorem Df.numI {f : Addr} {fd : FuncData} (d : Df P w K mg base "_law_numbers" 1 ["_law_things"] (spNums fun n : Nat => PyData.int (n : Int)) f fd) : Df P w K mg base "_law_numbers" 1 ["_law_things"] spNumI f fd :=
  ⟨d.gl, d.ok.imp fun vs H Q E ⟨a, l, e, ha, hl, q⟩ => ⟨a, vals l, l, e, ha, len_vals, fun i v o e1 e2 => by
    rw [vals_get, e2] at e1
    cases e1
    cases o with
    | none => rfl
    | some x => exact .int _, hl, q⟩, d.bi, d.kp⟩
theorem ok_diff {f fN : Addr} {fd fdN : FuncData} (F : FnP K "_law_differs" sDiffers f fd) (z_len : mg "len" = none) (z_range : mg "range" = none) (dN : Df P w K mg base "_law_numbers" 1 ["_law_things"] spNumI fN fdN) : FnOk P w K mg base CX0 2 f fd ["_law_one", "_law_other"] spDiff := by
  have sc : FnScope ["_law_one", "_law_other", "_law_first", "_law_second", "_law_at"] ["_law_one", "_law_other"] (defScope sDiffers) := ⟨rfl, rfl, rfl, by decide +kernel, rfl, by decide +kernel, by decide +kernel⟩
  refine F.ok sc (fun vs H Q E h => ?_) (fun cdv A outer s H vs Q E hr1 h => ?_)
  · obtain ⟨a, b, p, q, rfl, _⟩ := h
    rfl
  · obtain ⟨a, b, p, q, rfl, ha, hb, hl, h40, k⟩ := h
    refine ⟨_, PSs.nox (pss_cons (ps_par (i := 2) (j := 3) rfl sc.nd rfl rfl (by decide) rfl rfl (pa_cons (pe_call dN.ok hr1 (by rfl) dN.gl dN.kp dN.bi .nil pass0 (pa_cons (pv 0) pa_nil)) (pa_cons (pe_call dN.ok hr1 (by rfl) dN.gl dN.kp dN.bi .nil pass0 (pa_cons (pv 1) pa_nil)) pa_nil)) rfl)
    (pss_cons (ps_for PassesOwn.never rfl (pi_range1 (by rfl) z_range (pa_cons (pe_callB call_len_seq (by rfl) z_len boot_len (pa_cons (pv 2) pa_nil)) pa_nil)) (pg_name (i := 4) sc.nd rfl (.inl rfl))
      (pss_one (ps_if (pt_cmpR op_ne (pe_ix ix_list (pv 2) (pv 4) (fun _ _ => rfl)) (pe_ix ix_list (pv 3) (pv 4) (fun _ _ => rfl)) (nomark _))
        (pss_one (ps_ret (pv 4)))
        pss_nil)))
    (pss_one (ps_ret pe_non)))), ?_⟩
    refine ⟨_, rfl, a, p, rfl, ha, by omega, fun H1 x s1 nx hx => ⟨_, rfl, b, q, rfl, s1 _ _ hb, by omega, fun H2 y s2 ny hy => ⟨_, _, rfl, ?_⟩⟩⟩
    have s02 := s1.trans s2
    have hx2 := s2 _ _ hx
    have lp : (num p).length = p.length := num_len p
    have lq : (num q).length = q.length := num_len q
    refine ⟨_, rfl, x, _, rfl, .inl (SqL.of hx2), _, rfl, by omega, ?_, ?_⟩
    · rw [len_vals, lp]
      omega
    · rw [Int.toNat_natCast, len_vals, lp]
      refine for_it walk_range (fun i σ H' => ∃ (x4 : Option V), σ = [some (.ref a), some (.ref b), some (.ref x), some (.ref y), x4] ∧ partAt i ((num p).drop i) ((num q).drop i) = partAt 0 (num p) (num q) ∧ Same H2 H')
        ⟨none, rfl, rfl, Same.refl _⟩ (fun _ _ _ _ _ => trivial) ?_ ?_
      · rintro i v σ Hx G1 hi ⟨x4, rfl, hp, sg⟩ ⟨rfl, rfl⟩
        have i1 : i < (num p).length := by omega
        have i2 : i < (num q).length := by omega
        have e1 : (num p)[i]? = some (num p)[i] := List.getElem?_eq_getElem i1
        have e2 : (num q)[i]? = some (num q)[i] := List.getElem?_eq_getElem i2
        rw [part_step e1 e2] at hp
        show gName 4 (V.int (0 + (i : Int))) _ _ _
        rw [Int.zero_add]
        refine ⟨_, rfl, _, rfl, x, _, _, _, rfl, rfl, SqL.of (sg _ _ hx2), atI_nat (by rw [vals_get, e1]; rfl), _, rfl, _, rfl, y, _, _, _, rfl, rfl, SqL.of (sg _ _ hy), atI_nat (by rw [vals_get, e2]; rfl), scal_opt _ _, _, rfl, ?_⟩
        by_cases e : (num p)[i] = (num q)[i]
        · rw [if_pos e] at hp
          rw [decide_eq_true (congrArg optV e)]
          exact iteF ⟨_, rfl, hp, sg⟩
        · rw [if_neg e] at hp
          rw [decide_eq_false (fun z => e (optV_inj z))]
          refine iteT ⟨_, rfl, ?_⟩
          have z := k _ (s02.trans sg)
          rw [← hp] at z
          exact z
      · rintro σ G1 ⟨x4, rfl, hp, sg⟩
        rw [part_end (by omega)] at hp
        have z := k _ (s02.trans sg)
        rw [← hp] at z
        exact z
theorem ok_due {f fN : Addr} {fd fdN : FuncData} (F : FnP K "_law_due_pairs" sDuePairs f fd) (z_len : mg "len" = none) (z_range : mg "range" = none) (z_min : mg "min" = none) (z_tuple : mg "tuple" = none) (dN : Df P w K mg base "_law_numbers" 1 ["_law_things"] spNumI fN fdN) : FnOk P w K mg base CX0 2 f fd ["_law_one", "_law_other"] spDue := by
  have sc : FnScope ["_law_one", "_law_other", "_law_first", "_law_second", "_law_pairs", "_law_at"] ["_law_one", "_law_other"] (defScope sDuePairs) := ⟨rfl, rfl, rfl, by decide +kernel, rfl, by decide +kernel, by decide +kernel⟩
  refine F.ok sc (fun vs H Q E h => ?_) (fun cdv A outer s H vs Q E hr1 h => ?_)
  · obtain ⟨a, b, p, q, rfl, _⟩ := h
    rfl
  · obtain ⟨a, b, l, m, rfl, ha, hb, hl, hm, k⟩ := h
    refine ⟨_, PSs.nox (pss_cons (ps_par (i := 2) (j := 3) rfl sc.nd rfl rfl (by decide) rfl rfl (pa_cons (pe_call dN.ok hr1 (by rfl) dN.gl dN.kp dN.bi .nil pass0 (pa_cons (pv 0) pa_nil)) (pa_cons (pe_call dN.ok hr1 (by rfl) dN.gl dN.kp dN.bi .nil pass0 (pa_cons (pv 1) pa_nil)) pa_nil)) rfl)
    (pss_cons (ps_set (i := 4) sc.nd rfl (.inl rfl) (pe_lst pa_nil))
    (pss_cons (ps_for PassesOwn.never rfl (pi_range1 (by rfl) z_range (pa_cons (pe_callB (call_min2 rfl) (by rfl) z_min (by decide +kernel) (pa_cons (pe_callB call_len_seq (by rfl) z_len boot_len (pa_cons (pv 0) pa_nil)) (pa_cons (pe_callB call_len_seq (by rfl) z_len boot_len (pa_cons (pv 1) pa_nil)) pa_nil))) pa_nil)) (pg_name (i := 5) sc.nd rfl (.inl rfl))
      (pss_cons (ps_if (pt_cmpR op_ne (pe_ix ix_list (pv 2) (pv 5) (fun _ _ => rfl)) (pe_ix ix_list (pv 3) (pv 5) (fun _ _ => rfl)) (nomark _))
        (pss_one (ps_ret (pe_tup (pa_cons pe_non (pa_cons (pe_tup (pa_cons pe_str (pa_cons (pv 5) pa_nil))) pa_nil)))))
        pss_nil)
      (pss_one (ps_if (pt_cmpR op_eq (pe_ix ix_list (pv 2) (pv 5) (fun _ _ => rfl)) (pe_callB call_len_seq (by rfl) z_len boot_len (pa_cons (pv 4) pa_nil)) (nomark _))
        (pss_one (ps_expr (pe_bm PySem.F.plainAttrs_list PySem.F.slot_list_append PySem.F.type_list_append mt_append (pv 4) (pa_cons (pe_tup (pa_cons (pe_ix ix_list (pv 0) (pv 5) (fun _ _ => rfl)) (pa_cons (pe_ix ix_list (pv 1) (pv 5) (fun _ _ => rfl)) pa_nil))) pa_nil))))
        pss_nil))))
    (pss_cons (ps_if (pt_cmpR op_ne (pe_callB call_len_seq (by rfl) z_len boot_len (pa_cons (pv 0) pa_nil)) (pe_callB call_len_seq (by rfl) z_len boot_len (pa_cons (pv 1) pa_nil)) (nomark _))
      (pss_one (ps_ret (pe_tup (pa_cons pe_non (pa_cons (pe_tup (pa_cons pe_str (pa_cons (pe_callB (call_min2 rfl) (by rfl) z_min (by decide +kernel) (pa_cons (pe_callB call_len_seq (by rfl) z_len boot_len (pa_cons (pv 0) pa_nil)) (pa_cons (pe_callB call_len_seq (by rfl) z_len boot_len (pa_cons (pv 1) pa_nil)) pa_nil))) pa_nil))) pa_nil)))))
      pss_nil)
    (pss_one (ps_ret (pe_tup (pa_cons (pe_callTy call_tuple_of (by rfl) z_tuple (by decide +kernel) (pa_cons (pv 4) pa_nil)) (pa_cons pe_non pa_nil))))))))), ?_⟩
    refine ⟨_, rfl, a, l, rfl, ha, by omega, fun H1 x s1 nx hx => ⟨_, rfl, b, m, rfl, s1 _ _ hb, by omega, fun H2 y s2 ny hy => ⟨_, _, rfl, ?_⟩⟩⟩
    have s02 := s1.trans s2
    have hx2 := s2 _ _ hx
    have ha2 := s02 _ _ ha
    have hb2 := s02 _ _ hb
    have ll : (num l).length = l.length := num_len l
    have lm : (num m).length = m.length := num_len m
    have mn : (if (m.length : Int) < (l.length : Int) then (m.length : Int) else (l.length : Int)) = ((min l.length m.length : Nat) : Int) := by split <;> omega
    refine ⟨Nat.zero_le _, fun D nD => ?_⟩
    have sD := same_upd (o := .lst []) nD
    have nD0 : H D = none := none_of s02 nD
    have ret : ∀ (i : Nat) (G : Hp), Same H G → dueD l m = plD i → ∀ T, G T = none → ∀ U, (upd G T (.tup [.str ("place" : Str), .int (i : Int)])) U = none → Q (.ref U) (upd (upd G T (.tup [.str ("place" : Str), .int (i : Int)])) U (.tup [.non, .ref T])) := fun i G sG e T nT U nU => by
      have sT := same_upd (o := .tup [.str ("place" : Str), .int (i : Int)]) nT
      have sU := same_upd (o := .tup [.non, .ref T]) nU
      refine k _ U (sG.trans (sT.trans sU)) ?_
      rw [e]
      exact .tup trivial upd_same (.cons .non (.cons (.tup trivial (sU _ _ upd_same) (.cons (.str _ (by show (5 : Nat) ≤ 1000; decide) (by decide +kernel)) (.cons (.int _) .nil))) .nil))
    refine ⟨_, rfl, a, _, rfl, .inl (SqL.of (sD _ _ ha2)), _, rfl, b, _, rfl, .inl (SqL.of (sD _ _ hb2)), _, _, rfl, _, rfl, ?_⟩
    rw [len_vals, len_vals, mn]
    refine ⟨by omega, by omega, ?_⟩
    rw [Int.toNat_natCast]
    refine for_it walk_range (fun i σ G => ∃ (x5 : Option V) (us : List V), σ = [some (.ref a), some (.ref b), some (.ref x), some (.ref y), some (.ref D), x5] ∧ partAt i ((num l).drop i) ((num m).drop i) = partAt 0 (num l) (num m) ∧ G D = some (.lst us) ∧ PrsAt G us ((mets (l.take i)).zip (mets (m.take i))) ∧ (mets (l.take i)).length = (mets (m.take i)).length ∧ Same H2 G)
      ⟨none, [], rfl, rfl, upd_same, ⟨rfl, fun j v p e => by cases e⟩, rfl, sD⟩ (fun _ _ _ _ _ => trivial) ?_ ?_
    · rintro i v σ Hx G1 hi ⟨x5, us, rfl, hp, gD, pr, el, sg⟩ ⟨rfl, rfl⟩
      have i1 : i < l.length := by omega
      have i2 : i < m.length := by omega
      have f1 : l[i]? = some l[i] := List.getElem?_eq_getElem i1
      have f2 : m[i]? = some m[i] := List.getElem?_eq_getElem i2
      have e1 := num_atM f1
      have e2 := num_atM f2
      generalize l[i] = o at f1 e1
      generalize m[i] = o' at f2 e2
      rw [part_step e1 e2] at hp
      have gx := sg _ _ hx2
      have gy := sg _ _ hy
      have ga := sg _ _ ha2
      have gb := sg _ _ hb2
      show gName 5 (V.int (0 + (i : Int))) _ _ _
      rw [Int.zero_add]
      refine ⟨_, rfl, _, rfl, x, _, _, _, rfl, rfl, SqL.of gx, atI_nat (by rw [vals_get, e1]; rfl), _, rfl, _, rfl, y, _, _, _, rfl, rfl, SqL.of gy, atI_nat (by rw [vals_get, e2]; rfl), scal_opt _ _, _, rfl, ?_⟩
      by_cases e : oneN (mets (l.take i)) o = oneN (mets (m.take i)) o'
      · rw [if_pos e] at hp
        rw [decide_eq_true (congrArg optV e)]
        refine iteF (tNext_of ?_)
        obtain ⟨t1, t2⟩ := met_turn (mets_nd _) el e
        rw [← mets_snoc f1, ← mets_snoc f2] at t1
        have lz : us.length = (mets (l.take i)).length := by rw [pr.1, List.length_zip]; omega
        refine ⟨_, rfl, _, rfl, x, _, _, _, rfl, rfl, SqL.of gx, atI_nat (by rw [vals_get, e1]; rfl), _, rfl, D, _, rfl, .inl (SqL.of gD), ?_⟩
        rw [lz]
        have stay : mets (l.take (i + 1)) = mets (l.take i) → mets (m.take (i + 1)) = mets (m.take i) → ∃ (x5 : Option V) (us' : List V), [some (V.ref a), some (.ref b), some (.ref x), some (.ref y), some (.ref D), some (.int (i : Int))] = [some (.ref a), some (.ref b), some (.ref x), some (.ref y), some (.ref D), x5] ∧ partAt (i + 1) ((num l).drop (i + 1)) ((num m).drop (i + 1)) = partAt 0 (num l) (num m) ∧ G1 D = some (.lst us') ∧ PrsAt G1 us' ((mets (l.take (i + 1))).zip (mets (m.take (i + 1)))) ∧ (mets (l.take (i + 1))).length = (mets (m.take (i + 1))).length ∧ Same H2 G1 := fun q1 q2 => ⟨_, us, rfl, hp, gD, by rw [q1, q2]; exact pr, by rw [q1, q2]; exact el, sg⟩
        rcases t2 with ⟨rfl, rfl⟩ | ⟨u, v', rfl, rfl, _⟩
        · exact ⟨rfl, _, rfl, iteF (stay (mets_snoc f1) (mets_snoc f2))⟩
        · have tl := t1
          rw [mets_snoc f1, mets_snoc f2] at tl
          by_cases hu : u ∈ mets (l.take i)
          · have o1 : oneN (mets (l.take i)) (some u) = some ((mets (l.take i)).idxOf u) := if_pos hu
            have m1 : metN (mets (l.take i)) (some u) = mets (l.take i) := if_pos hu
            have lt := List.idxOf_lt_length_of_mem hu
            have m2 : metN (mets (m.take i)) (some v') = mets (m.take i) := by
              by_cases hv : v' ∈ mets (m.take i)
              · exact if_pos hv
              · have z : metN (mets (m.take i)) (some v') = mets (m.take i) ++ [v'] := if_neg hv
                rw [m1, z, List.length_append, List.length_singleton] at tl
                omega
            rw [o1]
            refine ⟨rfl, _, rfl, ?_⟩
            rw [decide_eq_false (fun z => by have z : ((mets (l.take i)).idxOf u : Int) = ((mets (l.take i)).length : Int) := V.int.inj z; omega)]
            exact iteF (stay ((mets_snoc f1).trans m1) ((mets_snoc f2).trans m2))
          · have o1 : oneN (mets (l.take i)) (some u) = some (mets (l.take i)).length := if_neg hu
            have m1 : metN (mets (l.take i)) (some u) = mets (l.take i) ++ [u] := if_neg hu
            have m2 : metN (mets (m.take i)) (some v') = mets (m.take i) ++ [v'] := by
              by_cases hv : v' ∈ mets (m.take i)
              · have z : metN (mets (m.take i)) (some v') = mets (m.take i) := if_pos hv
                rw [m1, z, List.length_append, List.length_singleton] at tl
                omega
              · exact if_neg hv
            rw [o1]
            refine ⟨rfl, _, rfl, ?_⟩
            rw [decide_eq_true (show optV (some (mets (l.take i)).length) = V.int (((mets (l.take i)).length : Nat) : Int) from rfl)]
            refine iteT ⟨_, rfl, .inl ⟨rfl, _, SqL.of gD⟩, _, rfl, _, rfl, a, _, _, _, rfl, rfl, SqL.of ga, atI_nat (by rw [vals_get, f1]; rfl), _, rfl, _, rfl, b, _, _, _, rfl, rfl, SqL.of gb, atI_nat (by rw [vals_get, f2]; rfl), (by show 2 ≤ sizeLine; decide), fun T nT => ?_⟩
            have sT := same_upd (o := .tup [.int (u : Int), .int (v' : Int)]) nT
            refine ⟨D, us, _, rfl, rfl, sT _ _ gD, ?_, ?_⟩
            · have q1 := mets_len (l.take i)
              rw [List.length_take] at q1
              exact Nat.lt_of_le_of_lt (show us.length ≤ 41 by omega) (by decide)
            · have pr2 : PrsAt (upd G1 T (.tup [.int (u : Int), .int (v' : Int)])) (us ++ [.ref T]) ((mets (l.take (i + 1))).zip (mets (m.take (i + 1)))) := by
                rw [mets_snoc f1, mets_snoc f2, m1, m2, List.zip_append el]
                exact (pr.same sT).snoc upd_same
              refine ⟨_, us ++ [.ref T], rfl, hp, upd_same, ⟨pr2.1, fun j w p c1 c2 => ?_⟩, t1, fun z r e' => ?_⟩
              · obtain ⟨t0, e0, q0⟩ := pr2.2 j w p c1 c2
                exact ⟨t0, e0, (upd_ne (fun z => by rw [z, sT _ _ gD] at q0; cases q0)).trans q0⟩
              · rw [upd_ne (ne_of_none e' nD)]
                exact (sg.trans sT) _ _ e'
      · rw [if_neg e] at hp
        rw [decide_eq_false (fun z => e (optV_inj z))]
        refine iteT ?_
        have ed : dueD l m = plD i := by
          unfold dueD
          rw [← hp]
        refine ⟨_, rfl, (by show 2 ≤ sizeLine; decide), fun T nT => ⟨(by show 2 ≤ sizeLine; decide), fun U nU => ret i _ (s02.trans sg) ed T nT U nU⟩⟩
    · rintro σ G1 ⟨x5, us, rfl, hp, gD, pr, el, sg⟩
      rw [part_end (by omega)] at hp
      have ga := sg _ _ ha2
      have gb := sg _ _ hb2
      refine ⟨_, rfl, a, _, rfl, .inl (SqL.of ga), _, rfl, b, _, rfl, .inl (SqL.of gb), rfl, _, rfl, ?_⟩
      rw [len_vals, len_vals]
      by_cases e : l.length = m.length
      · rw [e, decide_eq_true rfl]
        refine iteF (tNext_of ?_)
        rw [← e, Nat.min_self, List.take_of_length_le (Nat.le_refl _), e, List.take_of_length_le (Nat.le_refl _)] at pr
        refine ⟨_, rfl, D, us, rfl, .inl ⟨SqL.of gD, fun T nT => ⟨(by show 2 ≤ sizeLine; decide), fun U nU => ?_⟩⟩⟩
        have sT := same_upd (o := .tup us) nT
        have sU := same_upd (o := .tup [.ref T, .non]) nU
        refine k _ U ((s02.trans sg).trans (sT.trans sU)) ?_
        unfold dueD
        rw [← hp]
        dsimp only
        rw [if_pos e]
        exact .tup trivial upd_same (.cons (.tup trivial (sU _ _ upd_same) (pr.same (sT.trans sU)).dt) (.cons .non .nil))
      · rw [decide_eq_false (fun z => e (by have := V.int.inj z; omega))]
        refine iteT ⟨_, rfl, a, _, rfl, .inl (SqL.of ga), _, rfl, b, _, rfl, .inl (SqL.of gb), _, _, rfl, ?_⟩
        rw [len_vals, len_vals, mn]
        have ed : dueD l m = plD (min l.length m.length) := by
          unfold dueD
          rw [← hp]
          dsimp only
          rw [if_neg e]
        exact ⟨(by show 2 ≤ sizeLine; decide), fun T nT => ⟨(by show 2 ≤ sizeLine; decide), fun U nU => ret _ _ (s02.trans sg) ed T nT U nU⟩⟩
end
end K27

/-! rows spoilt, rows with something odd -/
namespace K27
open PySem PySem.Spec PyProof.Rows L2
structure RowOk (q : List (Option Nat)) : Prop where
  len : q.length ≤ 40
  le : ∀ n : Nat, some n ∈ q → n ≤ 10 ^ 30
def spSpl : Sp := fun vs H Q _ => ∃ (p l a b : Addr) (x : List (Option Nat)) (ns : List Nat), vs = [.ref p, .ref a, .ref b] ∧ Hand p l H ∧ H a = some (.lst (vals x)) ∧ H b = some (.lst (nmL ns)) ∧ RowOk x ∧ NmOk ns ∧ ns.length ≤ 40 ∧ ∀ (H' : Hp) (z : Addr) (y : List (Option Nat)), Kept p H H' → Hand p l H' → H z = none → H' z = some (.lst (vals y)) → RowOk y → y.length = x.length → Q (.ref z) H'
def spOdd : Sp := fun vs H Q _ => ∃ (p l a b : Addr) (xs ys : List V), vs = [.ref p, .ref a, .ref b] ∧ Hand p l H ∧ H a = some (.lst xs) ∧ H b = some (.lst ys) ∧ a ≠ p ∧ b ≠ p ∧ xs.length ≤ 40 ∧ 0 < ys.length ∧ ys.length ≤ 100 ∧
  ∀ (H' : Hp) (t z : Addr) (k : Nat) (v : V), Kept p H H' → Hand p l H' → H z = none → k ≤ xs.length → v ∈ ys → H' z = some (.lst (xs.take k ++ [v] ++ xs.drop k)) → H' t = some (.tup [.ref z, .int (k : Int)]) → Q (.ref t) H'
theorem shaped_vals (p : List (Option Nat)) : SeqAt.shaped (.list (p.map datO)) = true :=
  shaped_of (lay_all fun d hd => by obtain ⟨o, _, rfl⟩ := List.mem_map.mp hd; cases o <;> rfl) (by
    show PyData.depthAll (p.map datO) + 1 ≤ 64
    have : PyData.depthAll (p.map datO) ≤ 8 := dep_all fun d hd => by obtain ⟨o, _, rfl⟩ := List.mem_map.mp hd; cases o <;> exact Nat.zero_le _
    omega)
theorem vals_set (x : List (Option Nat)) (j : Nat) (o : Option Nat) : (vals x).set j (optV o) = vals (x.set j o) := by
  show (x.map optV).set j (optV o) = (x.set j o).map optV
  rw [List.map_set]
theorem Hand.neq {p l a : Addr} {H : Hp} (h : Hand p l H) (x : List (Option Nat)) (e : H a = some (.lst (vals x))) : a ≠ p := fun z => by
  obtain ⟨cells, i, r, t, h1, _⟩ := h
  rw [z, h1] at e
  have e2 := HO.lst.inj (Option.some.inj e)
  cases x with
  | nil => cases e2
  | cons o x =>
    have e3 := (List.cons.inj e2).1
    cases o <;> cases e3
section
variable {P : Program} {w : World} {K : PySem.W.Frag} {mg : Str → Option Value} {base : Heap}
theorem ok_spl {f fD fP : Addr} {fd fdD fdP : FuncData} (F : FnP K "_law_spoilt" sSpoilt f fd) (z_len : mg "len" = none) (z_range : mg "range" = none) (z_list : mg "list" = none) (dD : Df P w K mg base "_law_draw" 2 ["_law_hand_here", "_law_many"] spDr fD fdD) (dP : Df P w K mg base "_law_pick" 3 ["_law_hand_here", "_law_things"] spPk fP fdP) : FnOk P w K mg base CX0 4 f fd ["_law_hand_here", "_law_row_here", "_law_pool_here"] spSpl := by
  have sc : FnScope ["_law_hand_here", "_law_row_here", "_law_pool_here", "_law_odd_here", "_law_k"] ["_law_hand_here", "_law_row_here", "_law_pool_here"] (defScope sSpoilt) := ⟨rfl, rfl, rfl, by decide +kernel, rfl, by decide +kernel, by decide +kernel⟩
  refine F.ok sc (fun vs H Q E h => ?_) (fun cdv A outer s H vs Q E hr h => ?_)
  · obtain ⟨p, l, a, b, x, ns, rfl, _⟩ := h
    rfl
  · obtain ⟨p, l, a, b, x, ns, rfl, hp, ha, hb, rx, nm, nl, q⟩ := h
    have hr3 := hr
    have hr2 := hr.mono (show 2 ≤ 3 by decide)
    have nap := hp.neq x ha
    have nbp := hp.neq (ns.map some) hb
    refine ⟨_, PSs.nox (pss_cons (ps_set (i := 3) sc.nd rfl (.inl rfl) (pe_callTy call_list_of (by rfl) z_list (by decide +kernel) (pa_cons (pv 1) pa_nil)))
    (pss_cons (ps_for PassesOwn.never rfl (pi_range1 (by rfl) z_range (pa_cons (pe_op op_add pe_int (pe_call dD.ok hr2 (by rfl) dD.gl dD.kp dD.bi .nil pass0 (pa_cons (pv 0) (pa_cons pe_int pa_nil)))) pa_nil)) (pg_name (i := 4) sc.nd rfl (.inl rfl))
      (pss_one (ps_if (pt_cmpR (op_neD hr.units) (pv 3) (pe_lst pa_nil) (nomark _))
        (pss_one (ps_asg (pe_call dP.ok hr3 (by rfl) dP.gl dP.kp dP.bi .nil pass0 (pa_cons (pv 0) (pa_cons (pe_op op_cat (pv 2) (pe_lst (pa_cons pe_non pa_nil))) pa_nil))) (pg_sub (pv 3) (pe_call dD.ok hr2 (by rfl) dD.gl dD.kp dD.bi .nil pass0 (pa_cons (pv 0) (pa_cons (pe_callB call_len_seq (by rfl) z_len boot_len (pa_cons (pv 3) pa_nil)) pa_nil))) set_list)))
        pss_nil)))
    (pss_one (ps_ret (pv 3))))), ?_⟩
    refine ⟨_, rfl, a, _, rfl, .inl (SqL.of ha), fun D nD => ?_⟩
    have sD := same_upd (o := .lst (vals x)) nD
    have Dp := hp.nn nD
    have Dl := hp.nl nD
    refine ⟨_, rfl, p, l, 3, rfl, hp.app Dp Dl, by decide, by decide +kernel, fun d1 H1 d10 d11 k1 h1 => ?_⟩
    obtain ⟨n, rfl⟩ := Int.eq_ofNat_of_zero_le d10
    have kk1 : Kept p H H1 := (Kept.same (p := p) sD).trans k1
    have eD1 := k1 _ _ Dp upd_same
    refine ⟨_, _, rfl, rfl, _, rfl, by omega, by omega, ?_⟩
    rw [show ((1 : Int) + (n : Int)).toNat = 1 + n by omega]
    refine for_it walk_range (fun i σ G => ∃ (x4 : Option V) (y : List (Option Nat)), σ = [some (.ref p), some (.ref a), some (.ref b), some (.ref D), x4] ∧ G D = some (.lst (vals y)) ∧ RowOk y ∧ y.length = x.length ∧ Kept p H G ∧ Hand p l G)
      ⟨none, x, rfl, eD1, rx, rfl, kk1, h1⟩ (fun _ _ _ _ _ => trivial) ?_ ?_
    · rintro i v σ Hx G1 hi ⟨x4, y, rfl, gD, ry, ly, gk, gh⟩ ⟨rfl, rfl⟩
      refine ⟨_, rfl, Nat.zero_le _, fun L nL => ?_⟩
      have sL := same_upd (o := .lst []) nL
      refine ⟨_, _, (Dt.lst (S := Any) trivial (sL _ _ gD) (dt_vals _)).dp, (Dt.lst (S := Any) trivial upd_same .nil).dp, shaped_vals _, by rfl, _, rfl, ?_⟩
      have gk2 := gk.trans (Kept.same sL)
      have gh2 := gh.same sL
      have gD2 := sL _ _ gD
      generalize upd G1 L (.lst []) = G2 at gk2 gh2 gD2 ⊢
      cases y with
      | nil => exact iteF ⟨_, [], rfl, gD2, ry, ly, gk2, gh2⟩
      | cons o0 y0 =>
        refine iteT ?_
        have hb2 := gk2 _ _ nbp hb
        refine ⟨_, rfl, _, rfl, (by show 1 ≤ sizeLine; decide), fun M nM => ?_⟩
        have sM := same_upd (o := .lst [.non]) nM
        refine ⟨b, M, nmL ns, [.non], rfl, rfl, sM _ _ hb2, upd_same, ?_, fun C nC => ?_⟩
        · rw [nmL_len]
          exact Nat.le_trans (show ns.length + 1 ≤ 41 by omega) (by decide)
        have sC := same_upd (o := .lst (nmL ns ++ [.non])) nC
        have h4 := (gh2.same sM).same sC
        refine ⟨p, l, C, _, rfl, h4, upd_same, (gh2.same sM).nn nC, ?_, ?_, fun v H5 hv k5 h5 => ?_⟩
        · rw [List.length_append]
          exact Nat.succ_pos _
        · rw [List.length_append, nmL_len]
          show ns.length + 1 ≤ 1000
          omega
        have k25 : Kept p G2 H5 := ((Kept.same sM).trans (Kept.same sC)).trans k5
        have gD5 := k25 _ _ Dp gD2
        refine ⟨_, rfl, _, rfl, _, rfl, D, _, rfl, .inl (SqL.of gD5), p, l, _, rfl, h5, ?_, ?_, fun d6 H6 d60 d61 k6 h6 => ?_⟩
        · rw [len_vals, List.length_cons]
          omega
        · rw [len_vals]
          exact Nat.lt_of_le_of_lt (show _ ≤ 40 by have := ry.len; omega) (by decide +kernel)
        obtain ⟨j, rfl⟩ := Int.eq_ofNat_of_zero_le d60
        rw [len_vals] at d61
        have gD6 := k6 _ _ Dp gD5
        obtain ⟨o, rfl, ho⟩ : ∃ o : Option Nat, v = optV o ∧ ∀ n, o = some n → n ≤ 10 ^ 30 := by
          rcases List.mem_append.mp hv with hv | hv
          · obtain ⟨o, ho, rfl⟩ := List.mem_map.mp hv
            obtain ⟨n, hn, rfl⟩ := List.mem_map.mp ho
            exact ⟨some n, rfl, fun n' e => by cases e; exact nm.le n hn⟩
          · rw [List.mem_singleton.mp hv]
            exact ⟨none, rfl, fun n e => by cases e⟩
        refine ⟨D, _, (j : Int), j, rfl, rfl, gD6, ?_, ?_⟩
        · rw [len_vals]
          unfold ixN
          rw [if_pos (by omega), if_pos (by omega), Int.toNat_natCast]
        · rw [vals_set]
          refine ⟨_, (o0 :: y0).set j o, rfl, upd_same, ⟨by rw [List.length_set]; exact ry.len, fun n' hn' => ?_⟩, by rw [List.length_set]; exact ly, kput nD ((gk2.trans k25).trans k6), h6.app Dp Dl⟩
          rcases List.mem_or_eq_of_mem_set hn' with h | h
          · exact ry.le n' h
          · exact ho n' h.symm
    · rintro σ G1 ⟨x4, y, rfl, gD, ry, ly, gk, gh⟩
      exact ⟨_, rfl, q G1 D y gk gh nD gD ry ly⟩
theorem ok_odd {f fD fP : Addr} {fd fdD fdP : FuncData} (F : FnP K "_law_odd" sOdd f fd) (z_len : mg "len" = none) (z_list : mg "list" = none) (dD : Df P w K mg base "_law_draw" 2 ["_law_hand_here", "_law_many"] spDr fD fdD) (dP : Df P w K mg base "_law_pick" 3 ["_law_hand_here", "_law_things"] spPk fP fdP) : FnOk P w K mg base CX0 4 f fd ["_law_hand_here", "_law_names", "_law_word_pool"] spOdd := by
  have sc : FnScope ["_law_hand_here", "_law_names", "_law_word_pool", "_law_odd_here", "_law_at"] ["_law_hand_here", "_law_names", "_law_word_pool"] (defScope sOdd) := ⟨rfl, rfl, rfl, by decide +kernel, rfl, by decide +kernel, by decide +kernel⟩
  refine F.ok sc (fun vs H Q E h => ?_) (fun cdv A outer s H vs Q E hr h => ?_)
  · obtain ⟨p, l, a, b, xs, ys, rfl, _⟩ := h
    rfl
  · obtain ⟨p, l, a, b, xs, ys, rfl, hp, ha, hb, nap, nbp, lx, ly0, ly, q⟩ := h
    have hr3 := hr
    have hr2 := hr.mono (show 2 ≤ 3 by decide)
    refine ⟨_, PSs.nox (pss_cons (ps_par (i := 3) (j := 4) rfl sc.nd rfl rfl (by decide) rfl rfl (pa_cons (pe_callTy call_list_of (by rfl) z_list (by decide +kernel) (pa_cons (pv 1) pa_nil)) (pa_cons (pe_call dD.ok hr2 (by rfl) dD.gl dD.kp dD.bi .nil pass0 (pa_cons (pv 0) (pa_cons (pe_op op_add (pe_callB call_len_seq (by rfl) z_len boot_len (pa_cons (pv 1) pa_nil)) pe_int) pa_nil))) pa_nil)) rfl)
    (pss_cons (ps_expr (pe_bm PySem.F.plainAttrs_list PySem.F.slot_list_insert PySem.F.type_list_insert mt_insert (pv 3) (pa_cons (pv 4) (pa_cons (pe_call dP.ok hr3 (by rfl) dP.gl dP.kp dP.bi .nil pass0 (pa_cons (pv 0) (pa_cons (pv 2) pa_nil))) pa_nil))))
    (pss_one (ps_ret (pe_tup (pa_cons (pv 3) (pa_cons (pv 4) pa_nil))))))), ?_⟩
    refine ⟨_, rfl, a, _, rfl, .inl (SqL.of ha), fun D nD => ?_⟩
    have sD := same_upd (o := .lst xs) nD
    have Dp := hp.nn nD
    have Dl := hp.nl nD
    have aD : a ≠ D := ne_of_none ha nD
    refine ⟨_, rfl, _, rfl, a, _, rfl, .inl (SqL.of (sD _ _ ha)), _, _, rfl, rfl, p, l, _, rfl, hp.app Dp Dl, by omega, Nat.lt_of_le_of_lt (show _ ≤ 41 by omega) (by decide +kernel), fun d H1 d0 d1 k1 h1 => ?_⟩
    obtain ⟨k, rfl⟩ := Int.eq_ofNat_of_zero_le d0
    have eD1 := k1 _ _ Dp upd_same
    refine ⟨_, _, rfl, ?_⟩
    refine ⟨_, rfl, .inl ⟨rfl, _, SqL.of eD1⟩, _, rfl, _, rfl, _, rfl, p, l, b, ys, rfl, h1, k1 _ _ nbp (sD _ _ hb), nbp, ly0, by omega, fun v H2 hv k2 h2 => ?_⟩
    have eD2 := k2 _ _ Dp eD1
    refine ⟨D, xs, (k : Int), v, rfl, rfl, eD2, Nat.lt_of_le_of_lt lx (by decide), by omega, Int.lt_trans (show (k : Int) < 42 by omega) (by decide), ?_⟩
    rw [Int.toNat_natCast]
    refine ⟨_, rfl, _, rfl, (by show 2 ≤ sizeLine; decide), fun T nT => ?_⟩
    have k3 := kput nD ((Kept.same (p := p) sD).trans (k1.trans k2)) (o := .lst (xs.take k ++ [v] ++ xs.drop k))
    have sT := same_upd (o := .tup [.ref D, .int (k : Int)]) nT
    exact q _ T D k v (k3.trans (Kept.same sT)) ((h2.app Dp Dl).same sT) nD (by omega) hv (sT _ _ upd_same) upd_same
end
end K27

/-! several clauses 'except X as e' -/
namespace TaX
open PySem PySem.Spec PyProof.Rows L2
/-- a clause: its class, its name's slot, what its suite does -/
structure Cl where
  cls : Value
  slot : Nat
  ts : Addr → Value → Option Addr → TS
/-- the slot is empty behind the suite -/
def behind (D : Ends) (i : Nat) : Ends := { nx := fun σ' H' => D.nx (σ'.set i none) H', rt := D.rt, bk := fun σ' H' => D.bk (σ'.set i none) H', ct := fun σ' H' => D.ct (σ'.set i none) H' }
def wCls (K : PySem.W.Frag) (Wout : WX) (D : Ends) : List Cl → WX
  | [] => Wout
  | k :: r => fun cls d σ H => ∃ b, PySem.W.exmOne K cls k.cls = some b ∧ (b = true → ∀ a, H a = none → k.ts a cls d (behind D k.slot) (σ.set k.slot (some (.ref a))) H) ∧ (b = false → wCls K Wout D r cls d σ H)
inductive ClsOk (X : Cx) : List ExceptHandler → List Cl → Prop
  | nil : ClsOk X [] []
  | cons {x n : Str} {k : Cl} {b₀ : Stmt} {suite : List Stmt} {np pos' : Pos} {hds : List ExceptHandler} {l : List Cl} (hc : Names X x k.cls) (hi : X.N[k.slot]? = some n) (hln : X.env.kindOf n = some .local)
      (hsu : ∀ (a : Addr) (oe : Obj) (cls : Value) (d : Option Addr) (pn : List (Addr × Obj)), Zc cls d oe → (∃ vs, oe.data = .fields vs) → PSs (X.suite a ((a, oe) :: pn)) (b₀ :: suite) (k.ts a cls d)) (r : ClsOk X hds l) :
      ClsOk X (.ExceptHandler (some (.Name x np)) (some n) (b₀ :: suite) pos' :: hds) (k :: l)
section
variable {X : Cx} {body : List Stmt} {h₀ : ExceptHandler} {hds : List ExceptHandler} {l : List Cl} {pos : Pos} {tb : WX → TS} {Wout : WX}
theorem ps_try_cls (hs : X.stack = X.env :: X.outer) (hf : X.env.frame = some X.env.locals) (hN : X.N.Nodup) (tk : Takes X Wout)
    (hb : ∀ (W : WX) (pn : List (Addr × Obj)) (xe : Value → Shared → Prop), Takes (X.tr pn xe) W → PassesOwn (model X.prog X.w) X.A X.env xe → PSs (X.tr pn xe) body (tb W))
    (hh : ClsOk X (h₀ :: hds) l) : PS X (.Try body (h₀ :: hds) [] [] pos) (fun D σ H => tb (wCls X.K Wout D l) D σ H) := by
  refine ⟨fun pins s σ H D I h => ?_⟩
  have ok := I.ok
  have frames : X.A.frames = some (X.env :: X.outer) := ok.frames.trans (congrArg some hs)
  refine wpAny_Try_except ?_
  refine wpAny_mono ((hb (wCls X.K Wout D l) (X.pn ++ pins) (fun e s₁ => wpAny (model X.prog X.w) X.A (noteFrame e X.env) (fun _ s₂ => wpAny (model X.prog X.w) X.A (setFlight e none) (fun _ s₃ =>
    wpAny (model X.prog X.w) X.A (handleBy e X.env (h₀ :: hds)) (SP X pins D) X.xe s₃) X.xe s₂) X.xe s₁) (fun u s' caught => ?_) PassesOwn.looking).run [] s σ H D (I.toTry _) h) (fun f s1 done => ?_) (fun e s1 he => he)
  · obtain ⟨a, B, sI, pins', σ', H', cls, d, rfl, J', nb, up, sky, na, os, ag, w⟩ := caught
    have J : Inv X pins σ' H' sI := J'.ofTry ok
    have sky' : Sky B (X.env :: X.outer) a (Zc cls d) X.env.locals s'.heap := hs ▸ sky
    show wpAny (model X.prog X.w) X.A (noteFrame (.ref a) X.env) _ _ _
    refine Sky.land Zc.steady frames hf sky' fun h3 fl3 up3 => ?_
    have J3 : Inv X pins σ' H' { s' with heap := h3 } := J.landed nb fl3.1 (up.trans up3) os ag
    obtain ⟨oe3, vs3, he3, hz3, hd3⟩ := fl3.there
    have nfr : a ∉ frs (X.env :: X.outer) := fun hm => by
      obtain ⟨_, o', e', hnf⟩ := fl3.2.2.1.mem hm
      obtain rfl := Option.some.inj (he3.symm.trans e')
      exact hnf _ hd3
    have nL : a ≠ X.env.locals := fun z => nfr (List.mem_filterMap.mpr ⟨X.env, List.mem_cons_self, hf.trans (congrArg some z.symm)⟩)
    have nF : a ∉ X.fs := fun hm => by
      obtain ⟨e, he, q⟩ := List.mem_filterMap.mp hm
      exact nfr (List.mem_filterMap.mpr ⟨e, List.mem_cons_of_mem _ he, q⟩)
    have S3 := J3.suite he3 hd3 na nL nF
    have look : PySem.W.Looks (model X.prog X.w) h3 (typeOf (.ref a)) cls := fun A Q E s k q => wpAny_typeOf_ref (k _ _ he3) (by rw [hz3.1]; exact q)
    suffices go : ∀ {hs' : List ExceptHandler} {l' : List Cl}, ClsOk X hs' l' → wCls X.K Wout D l' cls d σ' H' → wpAny (model X.prog X.w) X.A (handleBy (.ref a) X.env hs') (SP X pins D) X.xe { s' with heap := h3 } from go hh w
    intro hs' l' hk
    induction hk with
    | nil =>
      intro w
      refine wpAny_handleBy_nil ?_
      obtain ⟨k1, k2, k3, oe, vs, T, oT, ts', he, hz, hd, h1, hr⟩ := id fl3
      unfold PySem.passOn
      refine wpAny_bind (wpAny_field he hd h1 ?_)
      rw [if_neg (show ¬ ((Value.ref T == Value.none) = true) from by simp)]
      have fin : wpAny (model X.prog X.w) X.A (setFlight (.ref a) X.env.frame) (fun _ s4 => wpAny (model X.prog X.w) X.A (throw (.ref a) : Sem Flow) (SP X pins D) X.xe s4) X.xe { s' with heap := h3 } := by
        rw [hf]
        refine HandSPX.setFlight_upZ fl3 fun h4 hh4 up4 => wpAny_throw (tk _ _ ?_)
        exact ⟨a, B, sI, pins, σ', H', cls, d, rfl, J, nb, (up.trans up3).trans up4, .inr (.inr (by rw [hs]; exact hh4)), na, os, ag, w⟩
      first
        | exact wpAny_bind (wpAny_pure (wpAny_bind fin))
        | exact wpAny_bind fin
    | @cons x n k b₀ suite np pos' hds2 l2 hc hi hln hsu r ih =>
      intro ⟨b, hb1, yes, no⟩
      refine wpAny_handleBy_cons (codeAny_handlers_test ?_) (by intro q; cases q)
      have class_ : ∀ {Q : Value → Shared → Prop} {E : Value → Shared → Prop}, Q k.cls { s' with heap := h3 } → wpAny (model X.prog X.w) (X.A.mark (some (.ref a))) (eval (.Name x np) X.env) Q E { s' with heap := h3 } := fun {Q E} q =>
        match hc with
        | ⟨hg, hd, .inl hm⟩ => ld_glob (X := X.suite a ((a, oe3) :: (X.pn ++ pins))) S3 hg hm q hd
        | ⟨hg, hd, .inr ⟨hm, hv, hn⟩⟩ => ld_blt (X := X.suite a ((a, oe3) :: (X.pn ++ pins))) S3 hg hm hv q hn hd
      refine class_ ((PySem.W.exm_one (M := model X.prog X.w) J3.kIn look hb1).here ?_)
      cases b with
      | false =>
        show wpAny _ X.A (handleBy (.ref a) X.env hds2) _ _ _
        exact ih (no rfl)
      | true =>
        refine codeAny_handlers_suite_as ?_
        refine HandSPX.lands_againZ fl3 fun h4 fl4 up4 => ?_
        have J4 : Inv X pins σ' H' { s' with heap := h4 } := J.landed nb fl4.1 ((up.trans up3).trans up4) os ag
        obtain ⟨oe4, vs4, he4, hz4, hd4⟩ := fl4.there
        have S4 := J4.suite he4 hd4 na nL nF
        refine store_ok (X := X.suite a ((a, oe4) :: (X.pn ++ pins))) (v := .ref a) S4 hN hi (show Loc X.env.scope n from .inl hln) rfl (fun s5 S5 => ?_) (.inr hln)
        refine wpAny_mono ((hsu a oe4 cls d (X.pn ++ pins) hz4 ⟨_, hd4⟩).run [] s5 _ H' _ S5 (yes rfl a na)) (fun f s6 hsp => ?_) (fun _ _ z => False.elim z)
        have gone : ∀ {σ6 : L2.St} {H6 : Hp} {Q : Shared → Prop}, Inv (X.suite a ((a, oe4) :: (X.pn ++ pins))) [] σ6 H6 s6 → (∀ s7, Inv X pins (σ6.set k.slot none) H6 s7 → Q s7) →
            wpAny (model X.prog X.w) X.A (do bindName X.env n .none; unbindBehindTheSuite X.env n pos') (fun _ s7 => Q s7) X.xe s6 := fun S6 hq => gone_ok (S6.unsuite ok) hN hi hln hq
        match f, hsp with
        | .next, ⟨σ6, H6, S6, q6⟩ => exact gone S6 fun s7 J7 => ⟨_, _, J7, q6⟩
        | .brk, ⟨σ6, H6, S6, q6⟩ => exact gone S6 fun s7 J7 => ⟨_, _, J7, q6⟩
        | .cont, ⟨σ6, H6, S6, q6⟩ => exact gone S6 fun s7 J7 => ⟨_, _, J7, q6⟩
        | .ret u, ⟨v6, σ6, H6, S6, r6, q6⟩ => exact gone S6 fun s7 J7 => ⟨_, _, _, J7, r6, q6⟩
  · match f, done with
    | .next, ⟨σ', H', J', q⟩ => exact wpAny_execs_nil ⟨σ', H', J'.ofTry ok, q⟩
    | .brk, ⟨σ', H', J', q⟩ => exact ⟨σ', H', J'.ofTry ok, q⟩
    | .cont, ⟨σ', H', J', q⟩ => exact ⟨σ', H', J'.ofTry ok, q⟩
    | .ret u, ⟨v, σ', H', J', r, q⟩ => exact ⟨v, σ', H', J'.ofTry ok, r, q⟩
end
end TaX

/-! a lambda handed to a def that calls it in a try: what is let out is told of the very slots -/
namespace TaX
open PySem PySem.Spec PyProof.Rows L2 LamX
section
variable {X : Cx} {pins : List (Addr × Obj)} {σ : L2.St} {H : Hp} {s : Shared}
/-- the def's context, entered at s -/
abbrev cxG (X : Cx) (Ng : List Str) (qg : Str) (sg : Scope) (g : Addr) (cdg : Value) (s : Shared) (H : Hp) : Cx := cxOf C8.CX0 X.prog X.w X.K X.mg X.base Ng qg sg g cdg X.A X.stack s H C8.E0
theorem pe_actA {Ng : List Str} {qg a : Str} {sg scope : Scope} {g f cc : Addr} {cdg pm ctv : Value} {params : Arguments} {body : Expr} {k i : Nat} {more : List (Addr × Obj)} {xe : Value → Shared → Prop} {W : WX} {t : XK → TE} {p1 p2 : Pos}
    (I : Inv X pins σ H s) (L : LamS X.env.scope scope) (there : s.heap.get? f = some (PySem.W.kla_obj "<lambda>" (X.env.qual ++ "<lambda>") params body scope (cloFrom X.env.cells scope.names []) pm cc ctv)) (free : H f = none) (noFr : f ∉ frs X.stack)
    (binds : bindArgs (PySem.W.kla_fn "<lambda>" (X.env.qual ++ "<lambda>") params body scope (cloFrom X.env.cells scope.names []) pm (.ref cc) ctv) ⟨[], []⟩ = pure [])
    (tk : Takes ((cxG X Ng qg sg g cdg s H).tr more xe) W) (room : Room (k + 1) (X.A.deeper (envOfC qg sg s.heap.objs.size g cdg)))
    (reads : ∀ (E : XK) (A : Around) (outer : List Env) (s : Shared) (H : Hp), Room k (A.deeper (lamEnv X scope s.heap.objs.size f cc)) → PE (lamCx X A outer s H E scope f cc) body (t E))
    (hN : Ng[i]? = some a) (vis : Vis sg a) (n1 : (a == ("__debug__" : Str)) = false := by decide) (n2 : (a == ("__classdict__" : Str)) = false := by decide) :
    PE ((cxG X Ng qg sg g cdg s H).tr more xe) (.Call (.Name a p1) [] [] p2) (fun σg Hg Q => σg[i]? = some (some (.ref f)) ∧ Hg cc = some (CodeO cc (X.env.qual ++ "<lambda>")) ∧ ∃ E : XK, (∀ cls d H', E cls d H' → W cls d σg H') ∧ t E σ Hg Q) := by
  refine ⟨fun pinsG sG σg Hg Q J ⟨slot, code, E, passed, want⟩ => ?_⟩
  refine wpAny_Call_Name_kw (thn ((pe_var (pos := p1) (i := i) hN vis n1 n2).run pinsG sG σg Hg (fun v H1 => v = .ref f ∧ H1 = Hg) J ⟨.ref f, slot, rfl, rfl⟩) fun u s2 ⟨v, H2, J2, rel, isF, eqH⟩ => ?_)
  subst isF eqH
  obtain rfl : u = Value.ref f := rel
  have f2 := J2.base.keep f _ there free noFr (fun z => nomatch (show f ∈ ([] : List Addr) from z))
  refine PySem.W.callWith_F0 ⟨_, _, _, _, f2⟩ ?_
  obtain ⟨⟨oc, us, tg, o1, o2, o3⟩, _, _⟩ := J2.hok cc _ code
  have called : codeAny (model X.prog X.w) (X.A.deeper (envOfC qg sg s.heap.objs.size g cdg)) (.call (.ref f) ⟨[], []⟩) (CR (L2.CX X.prog X.w) (envOfC qg sg s.heap.objs.size g cdg :: X.stack) X.prog X.w H2 s2 Q E) s2 := by
    refine PySem.W.kla_callFunE room.depth f2 rfl L.co L.gen rfl ⟨cc, oc, us, tg, rfl, o1, o2, o3⟩ ?_
    rw [binds]
    refine wpAny_pure (wpAny_newFunctionEnv (fun y hy => (L.own y hy).2) (fun y hy => absurd hy (by simp)) (fun h2 ns2 same => ⟨J2.nolimit.fresh _ same, ?_⟩) L.kind)
    show codeAny _ _ (.expr body (lamEnv X scope s2.heap.objs.size f cc)) _ _
    have begun := lam_start2 (f := f) (c' := cc) (E := E) (h₁ := h2) (tk := s2.toks + ([] : List (Str × Value)).length) I L J2.env0 room.hd J2.base ns2 fun b o e => same.extBut b o (Nat.ne_of_lt (Heap.lt_size e)) (Heap.get?_push_of_some _ e)
    refine PySem.W.kla_codeExpr (wpAny_mono ((reads _ _ _ s2 H2 (room.deeper _)).run [] _ _ H2 Q begun want) (fun v s3 ⟨x, H3, K3, r3, q3⟩ => ?_) fun e s3 hq => hq)
    exact ⟨x, H3, K3.os, K3.bare, K3.base, K3.hok, r3, q3⟩
  refine wpAny_call (codeAny_mono called fun r s3 hq => ?_)
  match r, hq with
  | .error e, hq => exact tk e s3 (XE.of_call J2 (fun cls d H' h => passed cls d H' h) hq)
  | .ok (.ret u), hq => exact J2.after hq
end
/-- the def that calls what it got; T: what it makes of the lambda's reading -/
def GivesA (X : Cx) (Ng : List Str) (x : Str) (sg : Scope) (g : Addr) (cdg : Value) (bg : List Stmt) (a : Str) (q : Str) (T : (XK → Hp → VK → Prop) → Hp → VK → Prop) : Prop :=
  ∀ (f cc : Addr) (s : Shared) (H : Hp) (Q : VK) (tl : XK → Hp → VK → Prop),
    (∀ (W : WX) (more : List (Addr × Obj)) (xe : Value → Shared → Prop) (p1 p2 : Pos), Takes ((cxG X Ng x sg g cdg s H).tr more xe) W →
      PE ((cxG X Ng x sg g cdg s H).tr more xe) (.Call (.Name a p1) [] [] p2) (fun σg Hg Q => σg[0]? = some (some (.ref f)) ∧ Hg cc = some (CodeO cc q) ∧ ∃ E : XK, (∀ cls d H', E cls d H' → W cls d σg H') ∧ tl E Hg Q)) →
    H cc = some (CodeO cc q) → T tl H Q →
    ∃ t, PSs (cxG X Ng x sg g cdg s H).nox bg t ∧ t { nx := fun _ H' => Q .non H', rt := Q } (L2.start Ng [.ref f]) H
section
variable {X : Cx}
theorem pe_lamA {T : List (Addr × Str)} {TT : (XK → Hp → VK → Prop) → Hp → VK → Prop} {x a : Str} {g c Pt : Addr} {k : Nat} {pg params : Arguments} {bg : List Stmt} {sg scope : Scope} {dV kV doc pm cdv ct oc : Value} {an od : Option Addr} {osl : Array (Option Value)} {Ng : List Str} {body : Expr} {t : XK → TE} {p lpos pos : Pos}
    (hg : Gl X x) (hm : X.mg x = some (.ref g)) (hk : PySem.W.keepIn X.K (.ref g) = true) (lk : X.K.lookup g = some ⟨oc, od, .func (PySem.W.fnOf x x pg bg sg dV kV doc pm an cdv ct), osl⟩) (hcg : PySem.W.codeIn X.K cdv x = true)
    (hb : L2.Binds X.K (PySem.W.fnOf x x pg bg sg dV kV doc pm an cdv ct) [a] []) (Sg : FnScope Ng [a] sg) (hNg : Ng[0]? = some a) (hva : Vis sg a) (gives : GivesA X Ng x sg g cdv bg a (X.env.qual ++ "<lambda>") TT)
    (TB : TabB X.base X.mg c Pt) (hcode : X.env.code = .ref c) (hmT : (Pt, X.env.qual ++ "<lambda>") ∈ T) (hu : ∀ p ∈ T, p.1 = Pt → p.2 = X.env.qual ++ "<lambda>") (hr : Room (k + 2) X.A) (L : LamS X.env.scope scope) (hdef : defaultsOf params X.env = ([], []))
    (hbind : ∀ (q : Str) (cl : List (Str × Addr)) (pm cv ctv : Value), bindArgs (PySem.W.kla_fn "<lambda>" q params body scope cl pm cv ctv) ⟨[], []⟩ = pure [])
    (reads : ∀ (A : Around) (outer : List Env) (s : Shared) (H : Hp) (E : XK) (f cc : Addr), Room k (A.deeper (lamEnv X scope s.heap.objs.size f cc)) → PE (lamCx X A outer s H E scope f cc) body (t E))
    (n0 : (x == ("__debug__" : Str)) = false := by decide) (n1 : (a == ("__debug__" : Str)) = false := by decide) (n2 : (a == ("__classdict__" : Str)) = false := by decide) :
    PE X (.Call (.Name x p) [.Lambda params body scope lpos] [] pos) (tLam T TT t) := by
  refine ⟨fun pins s σ H Q I ⟨tabs, want⟩ => ?_⟩
  refine wpAny_Call_Name_kw (ld_glob I hg hm ?_ n0)
  refine PySem.W.callWith_K (h₀ := X.base) I.ok.mod.kin hk ?_ (by rfl) (by rfl)
  show wpAny _ _ (spliced ((false, eval (.Lambda params body scope lpos) X.env) :: backTo pos (starEach [] X.env))) _ _ s
  refine Calls.spliced_cons (lam_make2 I TB hcode hmT hu tabs hdef (L.has I.ok) fun f cc pm2 ctv H2 s2 J grown tabs2 there free noFr code => Calls.spliced_nil ⟨J.kIn, ?_⟩)
  have called : codeAny (model X.prog X.w) X.A (.call (.ref g) ⟨[.ref f], []⟩) (CR C8.CX0 X.stack X.prog X.w H2 s2 Q C8.E0) s2 := by
    refine run_ofS (N := Ng) (ps := [a]) (us := [.ref f]) (vs := [.ref f]) lk hcg Sg hr J.env0 (hb s2 [.ref f] J.kIn rfl) (.cons rfl .nil) rfl fun room => ?_
    obtain ⟨tt, r, q⟩ := gives f cc s2 H2 Q (fun E H' Q' => t E σ H' Q') (fun W more xe p1 p2 tk => pe_actA (i := 0) (t := t) J L there free noFr (hbind _ _ _ _ _) tk room (fun E A outer s H r2 => reads A outer s H E f cc r2) hNg hva n1 n2) code (want H2 grown tabs2)
    exact ⟨tt, r.nox, q⟩
  refine wpAny_call (codeAny_mono called fun r s3 hq => ?_)
  match r, hq with
  | .error e, hq => exact False.elim hq
  | .ok (.ret u), hq => exact J.after hq
end
end TaX

/-! a lambda called in a try: its result, or the fields of its error -/
namespace K27
open PySem PySem.Spec PyProof.Rows L2 LamX TaX
/-- the errors, caught -/
structure ErX (K : PySem.W.Frag) (mg : Str → Option Value) (CN CR : Addr) : Prop where
  gN : mg "BadNames" = some (.ref CN)
  gR : mg "NoRenaming" = some (.ref CR)
  xN : XfC K CN
  xR : XfC K CR
  nI : PySem.W.findIn K (.ref CN) "index" = some none
  nW : PySem.W.findIn K (.ref CN) "what" = some none
  nP : PySem.W.findIn K (.ref CR) "place" = some none
  eNN : PySem.W.exmOne K (.ref CN) (.ref CN) = some true
  eRN : PySem.W.exmOne K (.ref CR) (.ref CN) = some false
  eRR : PySem.W.exmOne K (.ref CR) (.ref CR) = some true
def ETold (CN CR : Addr) (Q : VK) : XK := fun cls d H' =>
  (cls = .ref CN ∧ ∃ (dd : Addr) (fs : List (Str × V)) (v w : V), d = some dd ∧ H' dd = some (.xd fs) ∧ fs.lookup ("index" : Str) = some v ∧ fs.lookup ("what" : Str) = some w ∧
    ∀ U, H' U = none → ∀ T, upd H' U (.tup [.str ("names" : Str), v, w]) T = none → Q (.ref T) (upd (upd H' U (.tup [.str ("names" : Str), v, w])) T (.tup [.non, .ref U]))) ∨
  (cls = .ref CR ∧ ∃ (dd : Addr) (fs : List (Str × V)) (v : V), d = some dd ∧ H' dd = some (.xd fs) ∧ fs.lookup ("place" : Str) = some v ∧
    ∀ U, H' U = none → ∀ T, upd H' U (.tup [.str ("place" : Str), v]) T = none → Q (.ref T) (upd (upd H' U (.tup [.str ("place" : Str), v])) T (.tup [.non, .ref U])))
def TTold (CN CR : Addr) : (XK → Hp → VK → Prop) → Hp → VK → Prop := fun tl H Q => ∀ N, H N = none → tl (ETold CN CR Q) (upd H N (.tup [.non, .non])) fun v H' => ∃ x : V, (some (some v) : Option (Option V)) = some (some x) ∧ ∃ y : V, (some (some V.non) : Option (Option V)) = some (some y) ∧ ([x, y] : List V).length ≤ sizeLine ∧ ∀ T, H' T = none → Q (.ref T) (upd H' T (.tup [x, y]))
abbrev nmT : List Str := ["_law_call", "_law_told_here", "_law_found", "e"]
theorem scTold : FnScope nmT ["_law_call"] (defScope sTold) := ⟨rfl, rfl, rfl, by decide +kernel, rfl, by decide +kernel, by decide +kernel⟩
theorem told_gives {X : Cx} {q : Str} {g CN CR : Addr} {cdg : Value} (N : ErX X.K X.mg CN CR) : GivesA X nmT "_law_told" (defScope sTold) g cdg (defBody sTold) "_law_call" q (TTold CN CR) := by
  intro f c' s H Q tl act hc h
  refine ⟨_, pss_cons (ps_asg (X := (cxOf C8.CX0 X.prog X.w X.K X.mg X.base nmT "_law_told" (defScope sTold) g cdg X.A X.stack s H C8.E0).nox) (pe_tup (pa_cons pe_non (pa_cons pe_non pa_nil))) (pg_tup (by rfl) (pgs_cons (pg_name (i := 1) scTold.nd rfl (.inl rfl)) (pgs_cons (pg_name (i := 2) scTold.nd rfl (.inl rfl)) pgs_nil))))
    (pss_cons (ps_try_cls (X := (cxOf C8.CX0 X.prog X.w X.K X.mg X.base nmT "_law_told" (defScope sTold) g cdg X.A X.stack s H C8.E0).nox)
      (l := [⟨.ref CN, 3, fun a cls d => tAsg (tTup (tCons (tC (.str ("names" : Str))) (tCons (tXf a cls d CN "index" (tVar 3)) (tCons (tXf a cls d CN "what" (tVar 3)) tNil)))) (gName 2)⟩,
        ⟨.ref CR, 3, fun a cls d => tAsg (tTup (tCons (tC (.str ("place" : Str))) (tCons (tXf a cls d CR "place" (tVar 3)) tNil))) (gName 2)⟩])
      (tb := fun W D σ H => σ[0]? = some (some (.ref f)) ∧ H c' = some (CodeO c' q) ∧ ∃ E : XK, (∀ cls d H', E cls d H' → W cls d σ H') ∧ tl E H fun v H1 => D.nx (σ.set 1 (some v)) H1)
      (Wout := fun _ _ _ _ => False) rfl rfl scTold.nd L2.takes0
      (fun W pn xe tk _ => ?_)
      (.cons ⟨rfl, by decide, .inl N.gN⟩ rfl rfl (fun a oe cls d pn hz hf => by
        show PSs _ _ (tAsg (tTup (tCons (tC (.str ("names" : Str))) (tCons (tXf a cls d CN "index" (tVar 3)) (tCons (tXf a cls d CN "what" (tVar 3)) tNil)))) (gName 2))
        exact pss_one (ps_set (i := 2) scTold.nd rfl (.inl rfl) (pe_tup (pa_cons pe_str (pa_cons (pe_xf N.xN N.nI hz hf (pv 3)) (pa_cons (pe_xf N.xN N.nW hz hf (pv 3)) pa_nil)))))) (.cons ⟨rfl, by decide, .inl N.gR⟩ rfl rfl (fun a oe cls d pn hz hf => by
        show PSs _ _ (tAsg (tTup (tCons (tC (.str ("place" : Str))) (tCons (tXf a cls d CR "place" (tVar 3)) tNil))) (gName 2))
        exact pss_one (ps_set (i := 2) scTold.nd rfl (.inl rfl) (pe_tup (pa_cons pe_str (pa_cons (pe_xf N.xR N.nP hz hf (pv 3)) pa_nil))))) .nil)))
    (pss_one (ps_ret (pe_tup (pa_cons (pv 1) (pa_cons (pv 2) pa_nil)))))), ?_⟩
  · exact pss_one (ps_set (i := 1) scTold.nd rfl (.inl rfl) (act W pn xe _ _ tk))
  · refine ⟨(by show 2 ≤ sizeLine; decide), fun N0 nN => ⟨N0, _, rfl, .inl (.inl upd_same), rfl, _, _, rfl, _, _, rfl, rfl, ?_⟩⟩
    refine ⟨rfl, (same_upd nN) _ _ hc, ETold CN CR Q, fun cls d H' z => ?_, ?_⟩
    · rcases z with ⟨rfl, dd, fs, v, w, rfl, e1, l1, l2, k⟩ | ⟨rfl, dd, fs, v, rfl, e1, l1, k⟩
      · refine ⟨true, N.eNN, fun _ a na => ?_, fun z => by cases z⟩
        refine ⟨_, rfl, rfl, rfl, dd, fs, v, rfl, e1, l1, _, rfl, rfl, rfl, dd, fs, w, rfl, e1, l2, (by show 3 ≤ sizeLine; decide), fun U nU => ?_⟩
        exact ⟨_, rfl, _, rfl, (by show 2 ≤ sizeLine; decide), fun T nT => k U nU T nT⟩
      · refine ⟨false, N.eRN, (fun z => by cases z), fun _ => ⟨true, N.eRR, fun _ a na => ?_, fun z => by cases z⟩⟩
        refine ⟨_, rfl, rfl, rfl, dd, fs, v, rfl, e1, l1, (by show 2 ≤ sizeLine; decide), fun U nU => ?_⟩
        exact ⟨_, rfl, _, rfl, (by show 2 ≤ sizeLine; decide), fun T nT => k U nU T nT⟩
    · exact h N0 nN
end K27

/-! two rows as a text -/
namespace K27
open PySem PySem.Spec PyProof.Rows L2 LamX TaX GrdX
theorem datO_short {o : Option Nat} (h : ∀ n, o = some n → n ≤ 10 ^ 30) : (datO o).leavesShort 40 = true ∧ (datO o).weight ≤ 100 ∧ (datO o).showable = true ∧ (datO o).hasDict = false ∧ (datO o).depth = 0 := by
  cases o with
  | none => exact ⟨rfl, Nat.zero_le _, rfl, rfl, rfl⟩
  | some n =>
    have hn := h n rfl
    have l1 : n.log2 < 100 := by
      by_cases z : n = 0
      · rw [z]; decide
      · exact (Nat.log2_lt z).mpr (Nat.lt_of_le_of_lt hn (by decide))
    have e : ((n : Int)).natAbs = n := Int.natAbs_natCast n
    refine ⟨?_, ?_, ?_, rfl, rfl⟩
    · show decide ((Str.ofString (toString (n : Int))).length ≤ 40) = true
      rw [decide_eq_true_iff]
      exact Nat.le_trans (toString_length_le (by omega) (k := 31) (by decide) (by
        have z : (10 : Int) ^ 31 = ((10 ^ 31 : Nat) : Int) := by decide
        rw [z]
        have z2 : (10 : Nat) ^ 30 < 10 ^ 31 := by decide
        omega)) (by decide)
    · show (if (n : Int) == 0 then 0 else (n : Int).natAbs.log2 + 1) ≤ 100
      rw [e]
      split
      · exact Nat.zero_le _
      · omega
    · show decide ((n : Int).natAbs.log2 < 1920) = true
      rw [e, decide_eq_true_iff]
      omega
theorem row_short : ∀ {l : List (Option Nat)}, (∀ n, some n ∈ l → n ≤ 10 ^ 30) → PyData.leavesShortAll 40 (l.map datO) = true ∧ PyData.weightAll (l.map datO) ≤ 101 * l.length ∧ PyData.showableAll (l.map datO) = true ∧ PyData.hasDictAll (l.map datO) = false ∧ PyData.depthAll (l.map datO) = 0
  | [], _ => ⟨rfl, Nat.le_refl _, rfl, rfl, rfl⟩
  | o :: l, h => by
    obtain ⟨a1, a2, a3, a4, a5⟩ := datO_short (o := o) fun n e => h n (by rw [e]; exact List.mem_cons_self)
    obtain ⟨b1, b2, b3, b4, b5⟩ := row_short (l := l) fun n hn => h n (List.mem_cons_of_mem _ hn)
    refine ⟨?_, ?_, ?_, ?_, ?_⟩
    · show ((datO o).leavesShort 40 && PyData.leavesShortAll 40 (l.map datO)) = true
      rw [a1, b1]
      rfl
    · show (datO o).weight + 1 + PyData.weightAll (l.map datO) ≤ 101 * (l.length + 1)
      omega
    · show ((datO o).showable && PyData.showableAll (l.map datO)) = true
      rw [a3, b3]
      rfl
    · show ((datO o).hasDict || PyData.hasDictAll (l.map datO)) = false
      rw [a4, b4]
      rfl
    · show max (datO o).depth (PyData.depthAll (l.map datO)) = 0
      rw [a5, b5]
      rfl
def rowD (l : List (Option Nat)) : PyData := .list (l.map datO)
def twoD (l m : List (Option Nat)) : PyData := .tuple [rowD l, rowD m]
theorem two_shown {l m : List (Option Nat)} (hl : RowOk l) (hm : RowOk m) : (twoD l m).showable = true ∧ (twoD l m).hasDict = false ∧ (twoD l m).shown.length ≤ sizeLine ∧ (twoD l m).depth ≤ 64 := by
  obtain ⟨a1, a2, a3, a4, a5⟩ := row_short hl.le
  obtain ⟨b1, b2, b3, b4, b5⟩ := row_short hm.le
  refine ⟨?_, ?_, ?_, ?_⟩
  · show (PyData.showableAll (l.map datO) && (PyData.showableAll (m.map datO) && true)) = true
    rw [a3, b3]
    rfl
  · show (PyData.hasDictAll (l.map datO) || (PyData.hasDictAll (m.map datO) || false)) = false
    rw [a4, b4]
    rfl
  · refine Nat.le_trans (PyData.shown_le 40 (by decide) (twoD l m) ?_) ?_
    · show (PyData.leavesShortAll 40 (l.map datO) && (PyData.leavesShortAll 40 (m.map datO) && true)) = true
      rw [a1, b1]
      rfl
    · have e : (twoD l m).weight = PyData.weightAll (l.map datO) + 1 + (PyData.weightAll (m.map datO) + 1 + 0) := rfl
      rw [e]
      have h1 := hl.len
      have h2 := hm.len
      exact Nat.le_trans (show (40 + 2) * (PyData.weightAll (l.map datO) + 1 + (PyData.weightAll (m.map datO) + 1 + 0)) + 40 ≤ 42 * 8082 + 40 by omega) (by decide)
  · show max (PyData.depthAll (l.map datO) + 1) (max (PyData.depthAll (m.map datO) + 1) 0) + 1 ≤ 64
    rw [a5, b5]
    decide
/-- repr((one, other)) -/
theorem repr_two {K : PySem.W.Frag} {H : Hp} {Q : VK} {a b : Addr} {i j : Nat} {σ : L2.St} {l m : List (Option Nat)} (e1 : σ[i]? = some (some (.ref a))) (e2 : σ[j]? = some (some (.ref b))) (ha : H a = some (.lst (vals l))) (hb : H b = some (.lst (vals m))) (hl : RowOk l) (hm : RowOk m)
    (q : ∀ H', Same H H' → Q (.str (twoD l m).shown) H') : tCB (rReprD K) (tCons (tTup (tCons (tVar i) (tCons (tVar j) tNil))) tNil) σ H Q := by
  refine ⟨_, e1, _, e2, (by show 2 ≤ sizeLine; decide), fun T nT => ?_⟩
  have sT := same_upd (o := .tup [.ref a, .ref b]) nT
  obtain ⟨p1, p2, p3, p4⟩ := two_shown hl hm
  exact ⟨T, twoD l m, rfl, (Dt.tup (S := Any) trivial upd_same (.cons (.lst trivial (sT _ _ ha) (dt_vals l)) (.cons (.lst trivial (sT _ _ hb) (dt_vals m)) .nil))).dp, p1, p2, p3, p4, q _ sT⟩
/-- a def as it stands, its code object known -/
structure FunC (K : PySem.W.Frag) (x qual : Str) (params : Arguments) (body : List Stmt) (scope : Scope) (c f : Addr) (fd : FuncData) : Prop where
  ex : ∃ (oc : Value) (od : Option Addr) (dV kV doc pm : Value) (an : Option Addr) (ct : Value) (osl : Array (Option Value)),
    fd = PySem.W.fnOf x qual params body scope dV kV doc pm an (.ref c) ct ∧ K.lookup f = some ⟨oc, od, .func fd, osl⟩ ∧ PySem.W.codeIn K (.ref c) qual = true
end K27

/-! is the change of names the one that is due -/
namespace K27
open PySem PySem.Spec PyProof.Rows L2 LamX TaX GrdX
theorem FunC.okG {P : Program} {w : World} {K : PySem.W.Frag} {mg : Str → Option Value} {base : Heap} {x qual : Str} {params : Arguments} {body : List Stmt} {scope : Scope} {c f : Addr} {fd : FuncData} {CX : CXT} {N ps : List Str} {k : Nat} {sp : Sp} (F : FunC K x qual params body scope c f fd) (S : FnScope N ps scope) (len : ∀ vs H Q E, sp vs H Q E → vs.length = ps.length)
    (hbody : ∀ (A : Around) (outer : List Env) (s : Shared) (H : Hp) (vs : List V) (Q : VK) (E : XK), Room k (A.deeper (envOfC qual scope s.heap.objs.size f (.ref c))) → Bare (A.deeper (envOfC qual scope s.heap.objs.size f (.ref c))) → sp vs H Q E →
      ∃ t, PSs (cxOf CX P w K mg base N qual scope f (.ref c) A outer s H E) body t ∧ t { nx := fun _ H' => Q .non H', rt := Q } (L2.start N vs) H) : FnG P w K mg base CX (k + 1) f fd ps sp := by
  obtain ⟨oc, od, dV, kV, doc, pm, an, ct, osl, rfl, lk, hcd⟩ := F.ex
  exact ⟨len, fun A outer s H args us vs Q E hr hg e0 hb r hsp => run_ofS lk hcd S hr e0 hb r (len _ _ _ _ hsp) fun hr' => hbody A outer s H vs Q E hr' hg hsp⟩
theorem FunC.ok {P : Program} {w : World} {K : PySem.W.Frag} {mg : Str → Option Value} {base : Heap} {x qual : Str} {params : Arguments} {body : List Stmt} {scope : Scope} {c f : Addr} {fd : FuncData} {CX : CXT} {N ps : List Str} {k : Nat} {sp : Sp} (F : FunC K x qual params body scope c f fd) (S : FnScope N ps scope) (len : ∀ vs H Q E, sp vs H Q E → vs.length = ps.length)
    (hbody : ∀ (A : Around) (outer : List Env) (s : Shared) (H : Hp) (vs : List V) (Q : VK) (E : XK), Room k (A.deeper (envOfC qual scope s.heap.objs.size f (.ref c))) → sp vs H Q E →
      ∃ t, PSs (cxOf CX P w K mg base N qual scope f (.ref c) A outer s H E) body t ∧ t { nx := fun _ H' => Q .non H', rt := Q } (L2.start N vs) H) : FnOk P w K mg base CX (k + 1) f fd ps sp := by
  obtain ⟨oc, od, dV, kV, doc, pm, an, ct, osl, rfl, lk, hcd⟩ := F.ex
  exact fn_of lk hcd S len fun A outer s H vs Q E hr hsp => hbody A outer s H vs Q E hr hsp
abbrev qRr : Str := "_law_renaming_right.<locals>.<lambda>"
theorem lamcall_told {X : Cx} {T : List (Addr × Str)} {fT CN CR c Pt : Addr} {fdT : FuncData} {k : Nat} {params : Arguments} {body : Expr} {scope : Scope} {t : XK → TE} {p lpos pos : Pos} {q : Str} (FT : FnP X.K "_law_told" sTold fT fdT) (gT : X.mg "_law_told" = some (.ref fT)) (bT : Binds X.K fdT ["_law_call"] []) (N : ErX X.K X.mg CN CR) (TB : TabB X.base X.mg c Pt) (hmT : (Pt, q) ∈ T) (huT : ∀ p ∈ T, p.1 = Pt → p.2 = q) (hr : Room (k + 2) X.A)
    (hbody : ∀ (A : Around) (outer : List Env) (s : Shared) (H : Hp) (E : XK) (f c' : Addr), Room k (A.deeper (lamEnv X scope s.heap.objs.size f c')) → PE (lamCx X A outer s H E scope f c') body (t E)) (L : lamSB X.env.scope scope = true)
    (hg : Gl X "_law_told" := by rfl) (hcode : X.env.code = .ref c := by rfl) (hq : X.env.qual ++ "<lambda>" = q := by rfl) (hdef : defaultsOf params X.env = ([], []) := by rfl)
    (hbind : ∀ (q : Str) (cl : List (Str × Addr)) (pm cv ctv : Value), bindArgs (PySem.W.kla_fn "<lambda>" q params body scope cl pm cv ctv) ⟨[], []⟩ = pure [] := by intros; rfl) :
    PE X (.Call (.Name "_law_told" p) [.Lambda params body scope lpos] [] pos) (tLam T (TTold CN CR) t) := by
  have kp := FT.kp
  obtain ⟨oc, od, dV, kV, doc, pm, an, cdv, ct, osl, rfl, lk, hcd, _, _⟩ := FT.ex
  exact pe_lamA hg gT kp lk hcd bT scTold rfl (.inl rfl) (told_gives N) TB hcode (by rw [hq]; exact hmT) (fun p hp e => by rw [hq]; exact huT p hp e) hr (lamS_by L) hdef hbind hbody
theorem tabs_same {T : List (Addr × Str)} {H H' : Hp} (h : Tabs T H) (s : Same H H') : Tabs T H' := h.ext fun b o e => s b o e
theorem ext_same {H H' : Hp} (s : Same H H') : ExtN H H' := ExtN.of fun b o e => s b o e
theorem lst_ext {H H' : Hp} {a : Addr} {xs : List V} (h : H a = some (.lst xs)) (e : ExtN H H') : H' a = some (.lst xs) := e _ _ h fun ps z => by cases z
theorem badAt_none : ∀ {l : List (Option Nat)} {i : Nat}, (∀ n, some n ∈ l → n ≤ 10 ^ 30) → badAt i (vals l) = none
  | [], _, _ => rfl
  | o :: l, i, h => by
    show (if optV o = .non ∨ nameV (optV o) = true then badAt (i + 1) (vals l) else some (i, "name")) = none
    rw [if_pos, badAt_none fun n hn => h n (List.mem_cons_of_mem _ hn)]
    cases o with
    | none => exact .inl rfl
    | some n =>
      refine .inr ?_
      have hn := h n List.mem_cons_self
      show (decide ((0 : Int) ≤ (n : Int)) && decide ((n : Int) ≤ 10 ^ 30)) = true
      have z : (10 : Int) ^ 30 = ((10 ^ 30 : Nat) : Int) := by decide
      rw [z, Bool.and_eq_true, decide_eq_true_iff, decide_eq_true_iff]
      omega
theorem nf_row {l : List (Option Nat)} (h : RowOk l) : nf (vals l) true = none := by
  unfold nf
  rw [if_pos ⟨rfl, by rw [len_vals]; exact h.len⟩]
  exact badAt_none h.le
theorem ns_row {H : Hp} {a : Addr} {l : List (Option Nat)} (h : H a = some (.lst (vals l))) (r : RowOk l) : Ns H (.ref a) (vals l) true := .seq (.inl h) (by rw [len_vals]; have := r.len; omega) fun x hx => by
  obtain ⟨o, _, rfl⟩ := List.mem_map.mp hx
  exact ⟨_, (fl_opt o).odd⟩
def GoodR (l m : List (Option Nat)) : Prop := partAt 0 (num l) (num m) = none ∧ l.length = m.length
def RoSh (H : Hp) (l m : List (Option Nat)) (v : V) : Prop := (GoodR l m → ∃ (t : Addr) (us : List V), v = .ref t ∧ H t = some (.tup us) ∧ PrsAt H us ((mets l).zip (mets m))) ∧ (¬ GoodR l m → v = .non)
theorem dueD_fail {l m : List (Option Nat)} {i : Nat} (h : partAt 0 (num l) (num m) = some i) : dueD l m = plD i := by
  unfold dueD
  rw [h]
theorem dueD_len {l m : List (Option Nat)} (h : partAt 0 (num l) (num m) = none) (n : l.length ≠ m.length) : dueD l m = plD (min l.length m.length) := by
  unfold dueD
  rw [h]
  exact if_neg n
theorem dueD_good {l m : List (Option Nat)} (h : GoodR l m) : dueD l m = .tuple [.tuple (prD ((mets l).zip (mets m))), .none] := by
  unfold dueD
  rw [h.1]
  exact if_pos h.2
theorem pl_dt {H : Hp} {U T : Addr} {i : Nat} (nU : H U = none) (nT : upd H U (.tup [.str ("place" : Str), .int (i : Int)]) T = none) : Dt Any (upd (upd H U (.tup [.str ("place" : Str), .int (i : Int)])) T (.tup [.non, .ref U])) (.ref T) (plD i) :=
  .tup trivial upd_same (.cons .non (.cons (.tup trivial (same_upd nT _ _ upd_same) (.cons (.str _ (by show (5 : Nat) ≤ 1000; decide) (by decide +kernel)) (.cons (.int _) .nil))) .nil))
theorem told_ro {CN CR a b : Addr} {l m : List (Option Nat)} {H1 : Hp} {Q : VK} {σ : L2.St} (e0 : σ[0]? = some (some (.ref a))) (e1 : σ[1]? = some (some (.ref b))) (ha : H1 a = some (.lst (vals l))) (hb : H1 b = some (.lst (vals m))) (rl : RowOk l) (rm : RowOk m)
    (q : ∀ (H2 : Hp) (T : Addr) (v w : V), Same H1 H2 → H2 T = some (.tup [v, w]) → Dt Any H2 (.ref T) (dueD l m) → RoSh H2 l m v → Q (.ref T) H2) :
    TTold CN CR (fun E H' Q' => tCallS (spRO CN CR) (fun σ => WE (fun cls d _ H => E cls d H) σ) (tCons (tVar 0) (tCons (tVar 1) tNil)) σ H' Q') H1 Q := by
  intro N0 nN
  have sN := same_upd (o := .tup [.non, .non]) nN
  have hF : ∀ (i : Nat), ¬ GoodR l m → dueD l m = plD i → FailsN CR (upd H1 N0 (.tup [.non, .non])) (fun cls d H => ETold CN CR Q cls d H) i := fun i ng ed H' d nd hd s' => by
    refine .inr ⟨rfl, d, _, .int (i : Int), rfl, hd, rfl, fun U nU T nT => ?_⟩
    refine q _ T .non (.ref U) (sN.trans (s'.trans ((same_upd nU).trans (same_upd nT)))) upd_same ?_ ⟨fun g => absurd g ng, fun _ => rfl⟩
    rw [ed]
    exact pl_dt nU nT
  refine ⟨_, e0, _, e1, .ref a, .ref b, vals l, vals m, true, true, rfl, ns_row (sN _ _ ha) rl, ns_row (sN _ _ hb) rm, fun i z e => (by rw [nf_row rl] at e; cases e), fun _ i z e => (by rw [nf_row rm] at e; cases e), fun _ _ => ?_⟩
  refine ⟨a, b, l, m, rfl, rfl, sN _ _ ha, sN _ _ hb, rl.len, rm.len, fun i ei => hF i (fun g => by rw [g.1] at ei; cases ei) (dueD_fail ei), fun ep ne => hF _ (fun g => ne g.2) (dueD_len ep ne), fun ep el H' t us s' ht pr => ?_⟩
  refine ⟨_, rfl, _, rfl, (by show 2 ≤ sizeLine; decide), fun T nT => ?_⟩
  have sT := same_upd (o := .tup [.ref t, .non]) nT
  refine q _ T (.ref t) .non (sN.trans (s'.trans sT)) upd_same ?_ ⟨fun _ => ⟨t, us, rfl, sT _ _ ht, pr.same sT⟩, fun ng => absurd ⟨ep, el⟩ ng⟩
  rw [dueD_good ⟨ep, el⟩]
  exact .tup trivial upd_same (.cons (.tup trivial (sT _ _ ht) (pr.same sT).dt) (.cons .non .nil))
mutual
theorem Dt.ext {H H' : Hp} {v : V} {d : PyData} (h : Dt Any H v d) (e : ExtN H H') : Dt Any H' v d := by
  cases h with
  | non => exact .non
  | bl b => exact .bl b
  | int i => exact .int i
  | str x h1 h2 => exact .str x h1 h2
  | lst _ h1 h2 => exact .lst trivial (e _ _ h1 fun ps z => by cases z) (h2.ext e)
  | tup _ h1 h2 => exact .tup trivial (e _ _ h1 fun ps z => by cases z) (h2.ext e)
theorem DtAll.ext {H H' : Hp} {vs : List V} {ds : List PyData} (h : DtAll Any H vs ds) (e : ExtN H H') : DtAll Any H' vs ds := by
  cases h with
  | nil => exact .nil
  | cons h1 h2 => exact .cons (h1.ext e) (h2.ext e)
end
theorem eqv_opts : ∀ l m : List (Option Nat), PyData.eqvAll (l.map datO) (m.map datO) = decide (l = m)
  | [], [] => rfl
  | [], _ :: _ => rfl
  | _ :: _, [] => rfl
  | a :: l, b :: m => by
    show (PyData.eqv (datO a) (datO b) && PyData.eqvAll (l.map datO) (m.map datO)) = _
    rw [eqv_opts l m]
    have e : PyData.eqv (datO a) (datO b) = decide (a = b) := by
      cases a with
      | none =>
        cases b with
        | none => rfl
        | some y => rfl
      | some x =>
        cases b with
        | none => rfl
        | some y =>
          show ((x : Int) == (y : Int)) = _
          by_cases h : x = y
          · rw [h, decide_eq_true rfl]
            exact beq_self_eq_true _
          · rw [decide_eq_false (fun z => h (Option.some.inj z))]
            exact beq_false_of_ne (fun z => h (by omega))
    rw [e]
    by_cases h1 : a = b <;> by_cases h2 : l = m <;> simp [h1, h2]
theorem part_self : ∀ (p : List (Option Nat)) (i : Nat), partAt i p p = none
  | [], _ => rfl
  | x :: p, i => (if_pos rfl).trans (part_self p (i + 1))
theorem num_ne {l m : List (Option Nat)} (h : ¬ GoodR l m) : num l ≠ num m := fun e => h ⟨by rw [e]; exact part_self _ _, by have := congrArg List.length e; rw [num_len, num_len] at this; exact this⟩
theorem mets_pre (l : List (Option Nat)) (j : Nat) (k x : Nat) (h : (mets (l.take j))[k]? = some x) : (mets l)[k]? = some x := by
  have g : ∀ (r : List (Option Nat)) (ms : List Nat), ms[k]? = some x → (r.foldl metN ms)[k]? = some x := by
    intro r
    induction r with
    | nil => intro ms h; exact h
    | cons o r ih =>
      intro ms h
      refine ih _ ?_
      cases o with
      | none => exact h
      | some y =>
        show (if y ∈ ms then ms else ms ++ [y])[k]? = some x
        split
        · exact h
        · rw [List.getElem?_append_left (List.getElem?_eq_some_iff.mp h).1]
          exact h
  have e : mets l = (l.drop j).foldl metN (mets (l.take j)) := by
    unfold mets
    rw [← List.foldl_append, List.take_append_drop]
  rw [e]
  exact g _ _ h
theorem oneN_at {ms : List Nat} {x k : Nat} (h : oneN ms (some x) = some k) : (metN ms (some x))[k]? = some x := by
  by_cases hx : x ∈ ms
  · have o1 : oneN ms (some x) = some (ms.idxOf x) := if_pos hx
    have m1 : metN ms (some x) = ms := if_pos hx
    rw [o1] at h
    cases h
    rw [m1]
    exact idx_of hx
  · have o1 : oneN ms (some x) = some ms.length := if_neg hx
    have m1 : metN ms (some x) = ms ++ [x] := if_neg hx
    rw [o1] at h
    cases h
    rw [m1, List.getElem?_append_right (Nat.le_refl _), Nat.sub_self]
    rfl
/-- one name is led to the other at its place -/
theorem led_at {l m : List (Option Nat)} (g : GoodR l m) (hl : (mets l).length = (mets m).length) {i : Nat} {o o' : Option Nat} (f1 : l[i]? = some o) (f2 : m[i]? = some o') :
    (o = none ∧ o' = none) ∨ ∃ x y, o = some x ∧ o' = some y ∧ valV (encZ (mets l) (mets m)) (keyI x) = some (.int (y : Int)) := by
  have i1 := (List.getElem?_eq_some_iff.mp f1).1
  have i2 := (List.getElem?_eq_some_iff.mp f2).1
  have same := part_none g.1 i (by rw [num_len]; exact i1) (by rw [num_len]; exact i2)
  rw [num_atM f1, num_atM f2] at same
  have same := Option.some.inj same
  cases o with
  | none =>
    cases o' with
    | none => exact .inl ⟨rfl, rfl⟩
    | some y =>
      have h : none = if y ∈ mets (m.take i) then some ((mets (m.take i)).idxOf y) else some (mets (m.take i)).length := same
      split at h <;> cases h
  | some x =>
    cases o' with
    | none =>
      have h : (if x ∈ mets (l.take i) then some ((mets (l.take i)).idxOf x) else some (mets (l.take i)).length) = none := same
      split at h <;> cases h
    | some y =>
      obtain ⟨k, hk⟩ : ∃ k, oneN (mets (l.take i)) (some x) = some k := by
        show ∃ k, (if x ∈ mets (l.take i) then some ((mets (l.take i)).idxOf x) else some (mets (l.take i)).length) = some k
        split
        · exact ⟨_, rfl⟩
        · exact ⟨_, rfl⟩
      have a1 := oneN_at hk
      have a2 := oneN_at (same.symm.trans hk)
      rw [← mets_snoc f1] at a1
      rw [← mets_snoc f2] at a2
      have b1 := mets_pre l _ _ _ a1
      have b2 := mets_pre m _ _ _ a2
      exact .inr ⟨x, y, rfl, rfl, valV_zip_at (mets_nd l) hl (List.getElem?_zip_eq_some.mpr ⟨b1, b2⟩)⟩
theorem mets_lens {l m : List (Option Nat)} (g : GoodR l m) : (mets l).length = (mets m).length := by
  have h : ∀ i, i ≤ l.length → (mets (l.take i)).length = (mets (m.take i)).length := by
    intro i
    induction i with
    | zero => intro _; rfl
    | succ i ih =>
      intro hi
      have i2 : i < m.length := by rw [← g.2]; exact hi
      have f1 : l[i]? = some l[i] := List.getElem?_eq_getElem hi
      have f2 : m[i]? = some m[i] := List.getElem?_eq_getElem i2
      have same := part_none g.1 i (by rw [num_len]; exact hi) (by rw [num_len]; exact i2)
      rw [num_atM f1, num_atM f2] at same
      rw [mets_snoc f1, mets_snoc f2]
      exact (met_turn (mets_nd _) (ih (Nat.le_of_lt hi)) (Option.some.inj same)).1
  have z := h l.length (Nat.le_refl _)
  rw [List.take_of_length_le (Nat.le_refl _), List.take_of_length_le (Nat.le_of_eq g.2.symm)] at z
  exact z
theorem not_before {ms : List Nat} (nd : ms.Nodup) {i x : Nat} (h : ms[i]? = some x) : ¬ x ∈ ms.take i := fun hm => by
  obtain ⟨j, hj, e⟩ := List.getElem_of_mem hm
  rw [List.length_take] at hj
  rw [List.getElem_take] at e
  obtain ⟨i1, e1⟩ := List.getElem?_eq_some_iff.mp h
  have q1 := nd.idxOf_getElem i i1
  have q2 := nd.idxOf_getElem j (by omega)
  rw [e1] at q1
  rw [e] at q2
  omega
theorem pr_depth : ∀ ps : List (Nat × Nat), PyData.depthAll (prD ps) ≤ 1
  | [] => Nat.zero_le _
  | p :: ps => Nat.max_le.mpr ⟨by show max 0 (max 0 0) + 1 ≤ 1; decide, pr_depth ps⟩
theorem due_depth (l m : List (Option Nat)) : (dueD l m).depth ≤ 64 := by
  have hp : ∀ i, (plD i).depth ≤ 64 := fun i => by show max 0 (max (max 0 (max 0 0) + 1) 0) + 1 ≤ 64; decide
  unfold dueD
  cases partAt 0 (num l) (num m) with
  | some i => exact hp i
  | none =>
    show (if l.length = m.length then PyData.tuple [.tuple (prD ((mets l).zip (mets m))), .none] else plD (min l.length m.length)).depth ≤ 64
    split
    · have z := pr_depth ((mets l).zip (mets m))
      show max (PyData.depthAll (prD ((mets l).zip (mets m))) + 1) (max 0 0) + 1 ≤ 64
      omega
    · exact hp _
def spRr (T : List (Addr × Str)) : Sp := fun vs H Q _ => ∃ (a b : Addr) (l m : List (Option Nat)), vs = [.ref a, .ref b] ∧ H a = some (.lst (vals l)) ∧ H b = some (.lst (vals m)) ∧ RowOk l ∧ RowOk m ∧ Tabs T H ∧
  ∀ H', ExtN H H' → Tabs T H' → Q (.bl true) H'
section
variable {P : Program} {w : World} {K : PySem.W.Frag} {mg : Str → Option Value} {base : Heap}
theorem ok_rr {f c Tb fT fO fN fD CN CR : Addr} {fd fdT fdO fdN fdD : FuncData} (F : FunC K "_law_renaming_right" "_law_renaming_right" (defArgs sRenamingRight) (defBody sRenamingRight) (defScope sRenamingRight) c f fd) (TB : TabB base mg c Tb) {T0 : List (Addr × Str)} (hm : (Tb, qRr) ∈ T0) (hu1 : ∀ p ∈ T0, p.1 = Tb → p.2 = qRr) (z_repr : mg "repr" = none) (z_tuple : mg "tuple" = none) (z_isinstance : mg "isinstance" = none)
    (FT : FnP K "_law_told" sTold fT fdT) (gT : mg "_law_told" = some (.ref fT)) (bT : Binds K fdT ["_law_call"] []) (N : ErX K mg CN CR) (dRO : DfE P w K mg base "renaming_of" 4 ["one", "other"] (spRO CN CR) fO fdO)
    (dNu : Df P w K mg base "_law_numbers" 1 ["_law_things"] spNumI fN fdN) (dDu : Df P w K mg base "_law_due_pairs" 2 ["_law_one", "_law_other"] spDue fD fdD) : FnG P w K mg base CX0 7 f fd ["_law_one", "_law_other"] (spRr T0) := by
  have sc : FnScope ["_law_one", "_law_other", "_law_kept", "_law_due", "_law_told_here", "_law_led", "_law_pair", "_law_name"] ["_law_one", "_law_other"] (defScope sRenamingRight) := ⟨rfl, rfl, rfl, by decide +kernel, rfl, by decide +kernel, by decide +kernel⟩
  refine F.okG sc (fun vs H Q E h => ?_) (fun A outer s H vs Q E hr hG h => ?_)
  · obtain ⟨a, b, l, m, rfl, _⟩ := h
    rfl
  · obtain ⟨a, b, l, m, rfl, ha, hb, rl, rm, tb, q⟩ := h
    have hu := hu_of hr
    have hr1 := hr.mono (show 1 ≤ 6 by decide)
    have hr2 := hr.mono (show 2 ≤ 6 by decide)
    refine ⟨_, PSs.nox (pss_cons (ps_set (i := 2) sc.nd rfl (.inl rfl) (pe_callB (call_reprD hr hG) (by rfl) z_repr boot_repr (pa_cons (pe_tup (pa_cons (pv 0) (pa_cons (pv 1) pa_nil))) pa_nil)))
    (pss_cons (ps_set (i := 3) sc.nd rfl (.inl rfl) (pe_call dDu.ok hr2 (by rfl) dDu.gl dDu.kp dDu.bi .nil pass0 (pa_cons (pv 0) (pa_cons (pv 1) pa_nil))))
    (pss_cons (ps_set (i := 4) sc.nd rfl (.inl rfl) (lamcall_told (q := qRr) (t := fun E => tCallS (spRO CN CR) (fun σ => WE (fun cls d _ H => E cls d H) σ) (tCons (tVar 0) (tCons (tVar 1) tNil))) FT gT bT N TB hm hu1 hr (fun A outer s H E f c2 hr2 => (pe_callS dRO.ok hr2 (by rfl) dRO.gl dRO.kp dRO.bi (fun σ => passAt (takes_of rfl rfl rfl rfl) σ) (pa_cons (pv 0) (pa_cons (pv 1) pa_nil)))) (show lamSB (defScope sRenamingRight) _ = true by decide +kernel)))
    (pss_cons (ps_if (PW.pt (pw_or (pt_cmpR (op_neD hr.units) (pv 4) (pv 3) (nomark _)) (pw_or1 (pt_cmpR op_ne (pe_callB (call_reprD hr hG) (by rfl) z_repr boot_repr (pa_cons (pe_tup (pa_cons (pv 0) (pa_cons (pv 1) pa_nil))) pa_nil)) (pv 2) (nomark _)))))
      (pss_one (ps_ret pe_bl))
      pss_nil)
    (pss_cons (ps_if (pt_cmpR op_isN (pe_ix ix_seq (pv 4) pe_int (fun _ _ => rfl)) pe_non (nomark _))
      (pss_one (ps_ret (pe_cmpR (op_neD hr.units) (pe_call dNu.ok hr1 (by rfl) dNu.gl dNu.kp dNu.bi .nil pass0 (pa_cons (pv 0) pa_nil)) (pe_call dNu.ok hr1 (by rfl) dNu.gl dNu.kp dNu.bi .nil pass0 (pa_cons (pv 1) pa_nil)) (nomark _))))
      pss_nil)
    (pss_cons (ps_set (i := 5) sc.nd rfl (.inr rfl) pe_dnewK)
    (pss_cons (ps_for PassesOwn.never rfl (pi_tup (pe_ix ix_seq (pv 4) pe_int (fun _ _ => rfl))) (pg_name (i := 6) sc.nd rfl (.inl rfl))
      (pss_one (ps_dput hu (pv 5) (pe_ix ix_tup (pv 6) pe_int (fun _ _ => rfl)) (pe_ix ix_tup (pv 6) pe_int (fun _ _ => rfl)) rfl)))
    (pss_one (ps_ret (pe_and (pe_cmpR (op_eqD hr.units) (pe_lc (own := [("_law_name", 7)]) (g := gName 7) (tt := tYes) (te := tIf (tTest (tOp (fun x y H Q => y = V.non ∧ Q (V.bl (decide (x = V.non))) H) (tVar 7) (tC .non))) (tC .non) (tDGet (tVar 5) (tVar 7))) rfl sc.nd (pi_list (pv 0)) (blkOk_by (N := ["_law_one", "_law_other", "_law_kept", "_law_due", "_law_told_here", "_law_led", "_law_pair", "_law_name"]) (sc := defScope sRenamingRight) (by decide +kernel)) (fun _ _ _ _ _ => pg_name (i := 7) sc.nd rfl (Or.inl rfl)) (fun _ _ _ _ _ => pts_nil) (fun _ _ _ _ _ => (pe_ifExp (pt_cmpR op_isN (pv 7) pe_non (nomark _)) pe_non (pe_dget hu (pv 5) (pv 7) (fun _ _ => rfl))))) (pv 1) (nomark _)) (pe_one (pe_callB call_isi (by rfl) z_isinstance (by decide +kernel) (pa_cons (pe_ix ix_seq (pv 4) pe_int (fun _ _ => rfl)) (pa_cons (pe_bltn (by rfl) z_tuple (by decide +kernel) (v := .ty "tuple") rfl) pa_nil)))))))))))))), ?_⟩
    refine repr_two rfl rfl ha hb rl rm fun H1 s1 => ?_
    have ha1 := s1 _ _ ha
    have hb1 := s1 _ _ hb
    refine ⟨_, rfl, _, rfl, a, b, l, m, rfl, ha1, hb1, by have := rl.len; omega, by have := rm.len; omega, fun H2 D s2 dD => ?_⟩
    have s02 := s1.trans s2
    have ha2 := s02 _ _ ha
    have hb2 := s02 _ _ hb
    refine ⟨tabs_same tb s02, fun H3 x3 t3 => ?_⟩
    have ha3 := lst_ext ha2 x3
    have hb3 := lst_ext hb2 x3
    refine told_ro rfl rfl ha3 hb3 rl rm fun H4 T v w s4 hT dT sh => ?_
    have ha4 := s4 _ _ ha3
    have hb4 := s4 _ _ hb3
    have x04 : ExtN H H4 := (ext_same s02).trans (x3.trans (ext_same s4))
    have t4 := tabs_same t3 s4
    have dD4 := (dD.ext x3).same s4
    have shp := shaped_of dT.lay (due_depth l m)
    refine ⟨_, rfl, _, rfl, dueD l m, dueD l m, dT.dp, dD4.dp, shp, shp, _, rfl, ?_⟩
    rw [SeqAt.eqv_refl _ dT.lay]
    refine iteF (repr_two rfl rfl ha4 hb4 rl rm fun H5 s5 => ⟨_, rfl, rfl, _, rfl, ?_⟩)
    rw [decide_eq_true rfl]
    refine iteF (tNext_of ?_)
    have ha5 := s5 _ _ ha4
    have hb5 := s5 _ _ hb4
    have hT5 := s5 _ _ hT
    have x05 := x04.trans (ext_same s5)
    have t5 := tabs_same t4 s5
    refine ⟨_, rfl, .inr (.inl ⟨T, _, (0 : Int), v, rfl, rfl, SqT.of hT5, rfl, ?_⟩)⟩
    by_cases g : GoodR l m
    · obtain ⟨t, us, rfl, ht, pr⟩ := sh.1 g
      refine ⟨rfl, _, rfl, iteF (tNext_of ?_)⟩
      have el := mets_lens g
      have ht5 := s5 _ _ ht
      have pr5 := pr.same s5
      have lz : ((mets l).zip (mets m)).length = (mets l).length := by rw [List.length_zip]; omega
      have lml := mets_len l
      have rll := rl.len
      intro d nd
      have sd := same_upd (o := .dK []) nd
      refine ⟨_, rfl, .inr (.inl ⟨T, _, (0 : Int), .ref t, rfl, rfl, SqT.of (sd _ _ hT5), rfl, t, rfl, ⟨_, SqT.of (sd _ _ ht5)⟩, for_it walk_tup (fun i σ G => ∃ (x6 : Option V), σ = [some (.ref a), some (.ref b), some (.str (twoD l m).shown), some (.ref D), some (.ref T), some (.ref d), x6, none] ∧ G d = some (.dK (encZ ((mets l).take i) ((mets m).take i))) ∧ Same H5 G)
        ⟨none, rfl, upd_same, sd⟩ (fun i σ G _ ⟨_, _, _, sg⟩ => SqT.of (sg _ _ ht5)) ?_ ?_⟩)⟩
      · rintro i y σ Hx G1 hi ⟨x6, rfl, gd, sg⟩ ⟨rfl, ev⟩
        have ip : i < ((mets l).zip (mets m)).length := by rw [← pr.1]; exact hi
        have ep := List.getElem?_eq_getElem ip
        generalize ((mets l).zip (mets m))[i] = p at ep
        obtain ⟨px, py⟩ := p
        obtain ⟨t0, rfl, e0⟩ := pr5.2 i y (px, py) ev ep
        obtain ⟨z1, z2⟩ := List.getElem?_zip_eq_some.mp ep
        have z1 : (mets l)[i]? = some px := z1
        have z2 : (mets m)[i]? = some py := z2
        have g0 := sg _ _ e0
        have lt : ((mets l).take i).length = ((mets m).take i).length := by rw [List.length_take, List.length_take, el]
        refine ⟨_, rfl, t0, _, (1 : Int), .int (py : Int), rfl, rfl, SqT.of g0, rfl, _, rfl, _, rfl, t0, _, (0 : Int), .int (px : Int), rfl, rfl, SqT.of g0, rfl, d, _, rfl, DPut.k (k := keyI px) gd ?_, ?_⟩
        · unfold encZ
          rw [List.length_map, List.length_zip, List.length_take]
          exact Nat.lt_of_le_of_lt (show _ ≤ 40 by omega) (by decide)
        · rw [putK_zip_new lt (not_before (mets_nd l) z1), ← take_snoc' z1, ← take_snoc' z2]
          refine ⟨_, rfl, upd_same, fun q u e' => ?_⟩
          rw [upd_ne (ne_of_none e' nd)]
          exact sg _ _ e'
      · rintro σ G1 ⟨x6, rfl, gd, sg⟩
        rw [pr.1, lz, List.take_of_length_le (Nat.le_refl _), List.take_of_length_le (Nat.le_of_eq el.symm)] at gd
        have ga := sg _ _ ha5
        have gb := sg _ _ hb5
        have gT := sg _ _ hT5
        refine ⟨_, rfl, a, rfl, ⟨_, SqL.of ga⟩, fun D2 nD2 => lc_N walk_list (fun i acc _ => acc = vals (m.take i)) (lcR_pure fun i => by rw [len_vals]; exact List.length_take_le _ _) nD2 (by rw [len_vals]; exact Nat.lt_of_le_of_lt rll (by decide)) rfl (fun H' s' => SqL.of (s' _ _ ga)) (fun _ => rfl) ?_ (fun _ _ _ _ h q => h _ _ q)
          (mE_if (mT_test (mE_op mR_isN mE_var mE_c)) mE_c (mE_dget mE_var mE_var)) ?_⟩
        · rintro i v' acc H' ev s' eD rfl
          rw [vals_get] at ev
          obtain ⟨o, eo, rfl⟩ := Option.map_eq_some_iff.mp ev
          have i2 : i < m.length := by rw [← g.2]; exact (List.getElem?_eq_some_iff.mp eo).1
          have eo2 : m[i]? = some m[i] := List.getElem?_eq_getElem i2
          generalize m[i] = o' at eo2
          refine ⟨Same.refl _, iteT ?_⟩
          rw [take_snoc' eo2, vals_app]
          rcases led_at g el eo eo2 with ⟨rfl, rfl⟩ | ⟨x, y, rfl, rfl, ev⟩
          · exact ⟨_, rfl, rfl, _, rfl, iteT ⟨Same.refl _, rfl⟩⟩
          · exact ⟨_, rfl, rfl, _, rfl, iteF ⟨_, rfl, _, rfl, d, .int (y : Int), rfl, .inl ⟨_, keyI x, .inl (s' _ _ gd), rfl, ev.symm⟩, Same.refl _, rfl⟩⟩
        · rintro G2 acc s2' eD rfl
          rw [len_vals, List.take_of_length_le (Nat.le_of_eq g.2.symm)] at eD
          have gb2 := s2' _ _ gb
          have gT2 := s2' _ _ gT
          refine ⟨_, rfl, _, _, (Dt.lst (S := Any) trivial eD (dt_vals _)).dp, (Dt.lst (S := Any) trivial gb2 (dt_vals _)).dp, shaped_vals _, shaped_vals _, ?_⟩
          have e : PyData.eqv (.list (m.map datO)) (.list (m.map datO)) = true := by
            show PyData.eqvAll (m.map datO) (m.map datO) = true
            rw [eqv_opts, decide_eq_true rfl]
          rw [e]
          refine ⟨true, rfl, iteT ?_⟩
          have ht2 := s2' _ _ (sg _ _ ht5)
          have sF := (sg.trans s2')
          refine ⟨_, rfl, .inr (.inl ⟨T, _, (0 : Int), .ref t, rfl, rfl, SqT.of gT2, rfl, _, _, _, _, true, rfl, .ty _, (Odd.tup ht2).ty, kit_ty (by decide), ?_⟩)⟩
          exact q _ (x05.trans (ext_same sF)) (tabs_same t5 sF)
    · obtain rfl := sh.2 g
      refine ⟨rfl, _, rfl, iteT ?_⟩
      refine ⟨_, rfl, a, l, rfl, ha5, by have := rl.len; omega, fun H6 z1 s6 n6 h6 => ⟨_, rfl, b, m, rfl, s6 _ _ hb5, by have := rm.len; omega, fun H7 z2 s7 n7 h7 => ⟨_, _, (Dt.lst (S := Any) trivial (s7 _ _ h6) (dt_vals _)).dp, (Dt.lst (S := Any) trivial h7 (dt_vals _)).dp, shaped_vals _, shaped_vals _, ?_⟩⟩⟩
      have e : PyData.eqv (.list ((num l).map datO)) (.list ((num m).map datO)) = false := by
        show PyData.eqvAll ((num l).map datO) ((num m).map datO) = false
        rw [eqv_opts, decide_eq_false (num_ne g)]
      rw [e]
      exact q H7 (x05.trans (ext_same (s6.trans s7))) (tabs_same t5 (s6.trans s7))
end
end K27

/-! calls that are refused, told -/
namespace K27
open PySem PySem.Spec PyProof.Rows L2 LamX TaX GrdX
def nmD (i : Nat) (z : Str) : PyData := .tuple [.none, .tuple [.str ("names" : Str), .int (i : Int), .str z]]
theorem nm_dt {H : Hp} {U T : Addr} {i : Nat} {z : Str} (hz : z.length ≤ 1000) (cz : (PyData.str z).canLay0 = true) (hU : H U = some (.tup [.str ("names" : Str), .int (i : Int), .str z])) (hT : H T = some (.tup [.non, .ref U])) : Dt Any H (.ref T) (nmD i z) :=
  .tup trivial hT (.cons .non (.cons (.tup trivial hU (.cons (.str _ (by show (5 : Nat) ≤ 1000; decide) (by decide +kernel)) (.cons (.int _) (.cons (.str z hz cz) .nil)))) .nil))
theorem nm_depth (i : Nat) (z : Str) : (nmD i z).depth ≤ 64 := by
  show max 0 (max (max 0 (max 0 (max 0 0)) + 1) 0) + 1 ≤ 64
  decide
/-- the word of a BadNames is told -/
theorem told_err {CN CR : Addr} {i : Nat} {z : Str} {H1 : Hp} {Q : VK} {tl : XK → Hp → VK → Prop} (hz : z.length ≤ 1000) (cz : (PyData.str z).canLay0 = true) (h : ∀ (H2 : Hp) (E : XK) (R : VK), Same H1 H2 → Fails CN H2 E i z → tl E H2 R)
    (q : ∀ (H2 : Hp) (T : Addr), Same H1 H2 → Dt Any H2 (.ref T) (nmD i z) → Q (.ref T) H2) : TTold CN CR tl H1 Q := by
  intro N0 nN
  have sN := same_upd (o := .tup [.non, .non]) nN
  refine h _ _ _ sN fun H' d nd hd s' => .inl ⟨rfl, d, _, .int (i : Int), .str z, rfl, hd, rfl, rfl, fun U nU T nT => ?_⟩
  exact q _ T (sN.trans (s'.trans ((same_upd nU).trans (same_upd nT)))) (nm_dt hz cz (same_upd nT _ _ upd_same) upd_same)
/-- a value that is read without a change -/
def Rdn (ti : TE) (σ : L2.St) (H : Hp) (v : V) : Prop := ∀ Q : VK, Q v H → ti σ H Q
abbrev tNm (ti : TE) (z : Str) : TE := tTup (tCons (tC .non) (tCons (tTup (tCons (tC (.str ("names" : Str))) (tCons ti (tCons (tC (.str z)) tNil)))) tNil))
/-- the call is refused by these fields: told != (None, ("names", i, z)) does not hold -/
theorem ne_told {K : PySem.W.Frag} {TL : List (Addr × Str)} {CN CR : Addr} {z : Str} {i : Nat} {t : XK → TE} {ti : TE} {σ : L2.St} {H : Hp} {Q : Bool → Hp → Prop} (hz : z.length ≤ 1000) (cz : (PyData.str z).canLay0 = true) (hT : Tabs TL H)
    (h : ∀ (H2 : Hp) (E : XK) (R : VK), ExtN H H2 → Fails CN H2 E i z → t E σ H2 R) (hi : ∀ H2, ExtN H H2 → Rdn ti σ H2 (.int (i : Int))) (g : ∀ H', ExtN H H' → Tabs TL H' → Q false H') :
    tTest (tOp (rNeD K) (tLam TL (TTold CN CR) t) (tNm ti z)) σ H Q := by
  refine ⟨hT, fun H1 x1 t1 => told_err hz cz (fun H2 E R s2 f => h H2 E R (x1.trans (ext_same s2)) f) fun H3 T s3 dT => ?_⟩
  have x3 := x1.trans (ext_same s3)
  refine hi H3 x3 _ ⟨(by show 3 ≤ sizeLine; decide), fun U nU => ?_⟩
  have sU := same_upd (o := .tup [.str ("names" : Str), .int (i : Int), .str z]) nU
  refine ⟨(by show 2 ≤ sizeLine; decide), fun W nW => ?_⟩
  have sW := same_upd (o := .tup [.non, .ref U]) nW
  have d2 := nm_dt (H := upd (upd H3 U (.tup [.str ("names" : Str), .int (i : Int), .str z])) W (.tup [.non, .ref U])) hz cz (sW _ _ upd_same) upd_same
  have d1 := dT.same (sU.trans sW)
  have sh := shaped_of d1.lay (nm_depth i z)
  refine ⟨_, _, d1.dp, d2.dp, sh, sh, _, rfl, ?_⟩
  rw [SeqAt.eqv_refl _ d1.lay]
  exact g _ (x3.trans (ext_same (sU.trans sW))) (tabs_same t1 (s3.trans (sU.trans sW)))
theorem seq_told {K : PySem.W.Frag} {TL : List (Addr × Str)} {CN CR : Addr} {z : Str} {i : Nat} {t : XK → TE} {ti : TE} {a u : TS} {D : Ends} {σ : L2.St} {H : Hp} (hz : z.length ≤ 1000) (cz : (PyData.str z).canLay0 = true) (hT : Tabs TL H)
    (h : ∀ (H2 : Hp) (E : XK) (R : VK), ExtN H H2 → Fails CN H2 E i z → t E σ H2 R) (hi : ∀ H2, ExtN H H2 → Rdn ti σ H2 (.int (i : Int))) (g : ∀ H', ExtN H H' → Tabs TL H' → u D σ H') :
    tSeq (tIfS (tTest (tOp (rNeD K) (tLam TL (TTold CN CR) t) (tNm ti z))) a tNext) u D σ H :=
  ne_told hz cz hT h hi fun H' x t => iteF (g H' x t)
/-! ### odd rows -/
def OddV (v : V) : Prop := v ≠ .non ∧ nameV v = false
theorem badAt_odd {v : V} (hv : OddV v) (ys : List V) : ∀ {l : List (Option Nat)} {i : Nat}, (∀ n, some n ∈ l → n ≤ 10 ^ 30) → badAt i (vals l ++ [v] ++ ys) = some (i + l.length, ("name" : Str))
  | [], i, _ => if_neg (fun z => z.elim hv.1 fun e => by rw [hv.2] at e; cases e)
  | o :: l, i, h => by
    show (if optV o = .non ∨ nameV (optV o) = true then badAt (i + 1) (vals l ++ [v] ++ ys) else some (i, "name")) = some (i + (l.length + 1), ("name" : Str))
    rw [if_pos, badAt_odd hv ys fun n hn => h n (List.mem_cons_of_mem _ hn)]
    · rw [show i + 1 + l.length = i + (l.length + 1) by omega]
    · cases o with
      | none => exact .inl rfl
      | some n =>
        refine .inr ?_
        have hn := h n List.mem_cons_self
        show (decide ((0 : Int) ≤ (n : Int)) && decide ((n : Int) ≤ 10 ^ 30)) = true
        have z : (10 : Int) ^ 30 = ((10 ^ 30 : Nat) : Int) := by decide
        rw [z, Bool.and_eq_true, decide_eq_true_iff, decide_eq_true_iff]
        omega
theorem RowOk.take {l : List (Option Nat)} (h : RowOk l) (k : Nat) : RowOk (l.take k) := ⟨Nat.le_trans (List.length_take_le' ..) h.len, fun n hn => h.le n (List.mem_of_mem_take hn)⟩
theorem RowOk.drop {l : List (Option Nat)} (h : RowOk l) (k : Nat) : RowOk (l.drop k) := ⟨by rw [List.length_drop]; have := h.len; omega, fun n hn => h.le n (List.mem_of_mem_drop hn)⟩
end K27

/-! odd rows, odd lists: what stands all the while, and how each call is refused -/
namespace K27
open PySem PySem.Spec PyProof.Rows L2 LamX TaX GrdX
abbrev qOr : Str := "_law_odd_right.<locals>.<lambda>"
/-- kept, but for the hand and the tables -/
def KeptT (p : Addr) (H H' : Hp) : Prop := ∀ b o, b ≠ p → H b = some o → (∀ ps, o ≠ .tbl ps) → H' b = some o
theorem KeptT.trans {p : Addr} {H H1 H2 : Hp} (a : KeptT p H H1) (b : KeptT p H1 H2) : KeptT p H H2 := fun c o n e t => b c o n (a c o n e t) t
theorem KeptT.ext {p : Addr} {H H1 : Hp} (e : ExtN H H1) : KeptT p H H1 := fun c o n h t => e c o h t
theorem KeptT.kept {p : Addr} {H H1 : Hp} (k : Kept p H H1) : KeptT p H H1 := fun c o n h _ => k c o n h
theorem tabs_kept {T : List (Addr × Str)} {H H' : Hp} {p l : Addr} (h : Tabs T H) (hp : Hand p l H) (k : Kept p H H') : Tabs T H' := fun t ht => by
  obtain ⟨xs, e⟩ := hp.at_
  obtain ⟨ps, h1, h2, h3⟩ := h t ht
  refine ⟨ps, k _ _ (fun z => by rw [z, e] at h1; cases h1) h1, h2, fun pos cv hc => ?_⟩
  obtain ⟨c, e1, e2⟩ := h3 pos cv hc
  exact ⟨c, e1, k _ _ (fun z => by rw [z, e] at e2; unfold CodeO at e2; cases e2) e2⟩
theorem hand_ext {p l : Addr} {H H' : Hp} (h : Hand p l H) (e : ExtN H H') : Hand p l H' := by
  obtain ⟨cells, i, r, t, h1, h2, h3⟩ := h
  exact ⟨cells, i, r, t, e _ _ h1 (fun ps z => by unfold handO at z; cases z), e _ _ h2 (fun ps z => by cases z), h3⟩
theorem hand_ne {p l a : Addr} {H : Hp} {o : HO} (h : Hand p l H) (e : H a = some o) (n : ∀ i r t, handO l i r t ≠ o) : a ≠ p := fun z => by
  obtain ⟨cells, i, r, t, h1, _⟩ := h
  rw [z, h1] at e
  exact n i r t (Option.some.inj e)
/-- what the law takes for names -/
def thL (G : Addr) : List V := [.int (-1), .bl true, .str ("1" : Str), .int ((10 : Int) ^ (30 : Int).toNat + 1), .ref G]
theorem th_odd {G : Addr} {v : V} (h : v ∈ thL G) : OddV v := by
  rcases List.mem_cons.mp h with rfl | h
  · exact ⟨(fun z => by cases z), by decide⟩
  rcases List.mem_cons.mp h with rfl | h
  · exact ⟨(fun z => by cases z), rfl⟩
  rcases List.mem_cons.mp h with rfl | h
  · exact ⟨(fun z => by cases z), rfl⟩
  rcases List.mem_cons.mp h with rfl | h
  · exact ⟨(fun z => by cases z), by decide +kernel⟩
  rcases List.mem_cons.mp h with rfl | h
  · exact ⟨(fun z => by cases z), rfl⟩
  cases h
theorem th_kind {G : Addr} {H : Hp} {xs : List V} (hG : H G = some (.tup xs)) {v : V} (h : v ∈ thL G) : ∃ t, Odd H v t := by
  rcases List.mem_cons.mp h with rfl | h
  · exact ⟨_, .int _⟩
  rcases List.mem_cons.mp h with rfl | h
  · exact ⟨_, .bl _⟩
  rcases List.mem_cons.mp h with rfl | h
  · exact ⟨_, .str _ (by show (1 : Nat) ≤ 1000; decide) (by decide +kernel)⟩
  rcases List.mem_cons.mp h with rfl | h
  · exact ⟨_, .int _⟩
  rcases List.mem_cons.mp h with rfl | h
  · exact ⟨_, .tup hG⟩
  cases h
structure OrI (CP : Addr) (TL : List (Addr × Str)) (p l x a b G L : Addr) (y : List (Option Nat)) (ns : List Nat) (H0 H : Hp) : Prop where
  hp : Hand p l H
  hx : PatAt CP H x y
  ha : H a = some (.lst (vals y))
  hb : H b = some (.lst (nmL ns))
  hL : H L = some (.lst (thL G))
  hG : H G = some (.tup [.int 2])
  tb : Tabs TL H
  k : KeptT p H0 H
section
variable {CP p l x a b G L : Addr} {TL : List (Addr × Str)} {y : List (Option Nat)} {ns : List Nat} {H0 H H1 : Hp}
theorem OrI.ext (I : OrI CP TL p l x a b G L y ns H0 H) (e : ExtN H H1) (t : Tabs TL H1) : OrI CP TL p l x a b G L y ns H0 H1 :=
  ⟨hand_ext I.hp e, I.hx.same e, lst_ext I.ha e, lst_ext I.hb e, lst_ext I.hL e, e _ _ I.hG (fun ps z => by cases z), t, I.k.trans (.ext e)⟩
theorem OrI.same (I : OrI CP TL p l x a b G L y ns H0 H) (s : Same H H1) : OrI CP TL p l x a b G L y ns H0 H1 := I.ext (ext_same s) (tabs_same I.tb s)
theorem kept_lst {l0 : Addr} {xs : List V} (hp : Hand p l H) (k : Kept p H H1) (h : H l0 = some (.lst xs)) (n : ∀ r, xs.head? ≠ some (.ref r)) : H1 l0 = some (.lst xs) := k _ _ (hand_ne hp h fun i r t z => by
  have z := HO.lst.inj z
  rw [← z] at n
  exact n l rfl) h
theorem vals_head {y : List (Option Nat)} (r : Addr) : (vals y).head? ≠ some (.ref r) := fun z => by
  cases y with
  | nil => cases z
  | cons o y => cases o <;> cases z
theorem OrI.kept (I : OrI CP TL p l x a b G L y ns H0 H) (k : Kept p H H1) (h : Hand p l H1) : OrI CP TL p l x a b G L y ns H0 H1 := by
  obtain ⟨dx, t, c, e1, e2, e3, e4⟩ := I.hx
  exact ⟨h, ⟨dx, t, c, k _ _ (hand_ne I.hp e1 fun i r t z => by unfold handO at z; cases z) e1, k _ _ (hand_ne I.hp e2 fun i r t z => by unfold handO at z; cases z) e2, e3, e4⟩,
    kept_lst I.hp k I.ha vals_head, kept_lst I.hp k I.hb vals_head, kept_lst I.hp k I.hL (fun r z => by cases z), k _ _ (hand_ne I.hp I.hG fun i r t z => by unfold handO at z; cases z) I.hG, tabs_kept I.tb I.hp k, I.k.trans (.kept k)⟩
end
theorem cut_upto (vs : List V) (k : Nat) : cutV vs none (some (k : Int)) = vs.take k := by
  show (vs.drop 0).take (HT.sIx vs.length vs.length (some (k : Int)) - 0) = _
  rw [List.drop_zero, HT.sIx_nat, Nat.sub_zero]
  by_cases h : k ≤ vs.length
  · rw [Nat.min_eq_left h]
  · rw [Nat.min_eq_right (by omega), List.take_of_length_le (Nat.le_refl _), List.take_of_length_le (by omega)]
theorem cut_off (vs : List V) (k : Nat) : cutV vs (some (k : Int)) none = vs.drop k := by
  show (vs.drop (HT.sIx vs.length 0 (some (k : Int)))).take (vs.length - HT.sIx vs.length 0 (some (k : Int))) = _
  rw [HT.sIx_nat]
  by_cases h : k ≤ vs.length
  · rw [Nat.min_eq_left h]
    exact List.take_of_length_le (by rw [List.length_drop]; exact Nat.le_refl _)
  · rw [Nat.min_eq_right (by omega), List.drop_of_length_le (Nat.le_refl _), List.drop_of_length_le (by omega)]
    exact List.take_nil
section
variable {CP CN CR : Addr} {H : Hp} {R : VK} {E : XK} {i : Nat} {z : Str}
theorem fd_fails {x : Addr} {v : V} {y : List (Option Nat)} {xs : List V} {b : Bool} (hx : PatAt CP H x y) (n : Ns H v xs b) (e : nf xs b = some (i, z)) (f : Fails CN H E i z) : spFD CP CN [.ref x, v] H R E :=
  ⟨x, v, y, xs, b, rfl, hx, n, fun i' z' e' => (by rw [e] at e'; cases e'; exact f), fun e' => (by rw [e] at e'; cases e'), fun _ e' => (by rw [e] at e'; cases e')⟩
theorem fd_length {x : Addr} {v : V} {y : List (Option Nat)} {xs : List V} {b : Bool} (hx : PatAt CP H x y) (n : Ns H v xs b) (e : nf xs b = none) (ne : xs.length ≠ y.length) (f : Fails CN H E xs.length "length") : spFD CP CN [.ref x, v] H R E :=
  ⟨x, v, y, xs, b, rfl, hx, n, fun i' z' e' => (by rw [e] at e'; cases e'), fun _ _ => f, fun l _ ex el => absurd (by rw [ex, len_vals]; exact el) ne⟩
theorem ro_first {v1 v2 : V} {xs ys : List V} {b1 b2 : Bool} (n1 : Ns H v1 xs b1) (n2 : Ns H v2 ys b2) (e : nf xs b1 = some (i, z)) (f : Fails CN H E i z) : spRO CN CR [v1, v2] H R E :=
  ⟨v1, v2, xs, ys, b1, b2, rfl, n1, n2, fun i' z' e' => (by rw [e] at e'; cases e'; exact f), fun e' => (by rw [e] at e'; cases e'), fun e' => (by rw [e] at e'; cases e')⟩
theorem ro_second {v1 v2 : V} {xs ys : List V} {b1 b2 : Bool} (n1 : Ns H v1 xs b1) (n2 : Ns H v2 ys b2) (e1 : nf xs b1 = none) (e : nf ys b2 = some (i, z)) (f : Fails CN H E i z) : spRO CN CR [v1, v2] H R E :=
  ⟨v1, v2, xs, ys, b1, b2, rfl, n1, n2, fun i' z' e' => (by rw [e1] at e'; cases e'), fun _ i' z' e' => (by rw [e] at e'; cases e'; exact f), fun _ e' => (by rw [e] at e'; cases e')⟩
theorem nf_fails {x a : Addr} {y : List (Option Nat)} {xs : List V} (hx : PatAt CP H x y) (ha : H a = some (.lst xs)) (hl : xs.length ≤ 1000) (od : ∀ x ∈ xs, ∃ t, Odd H x t) (e : uf xs = some (i, z)) (f : Fails CN H E i z) : spNF CP CN [.ref x, .ref a] H R E := by
  obtain ⟨dx, t, c, e1, e2, e3, e4⟩ := id hx
  exact ⟨x, a, y, xs, c, rfl, hx, e4, ha, hl, od, fun i' z' e' => (by rw [e] at e'; cases e'; exact f), fun e' => (by rw [e] at e'; cases e'), fun e' => (by rw [e] at e'; cases e')⟩
theorem nf_few {x a : Addr} {y : List (Option Nat)} {xs : List V} {c : Nat} (hx : PatAt CP H x y) (ha : H a = some (.lst xs)) (hl : xs.length ≤ 1000) (od : ∀ x ∈ xs, ∃ t, Odd H x t) (e : uf xs = none) (ec : cnt 0 (vals y) = some c) (lt : xs.length < c) (f : Fails CN H E xs.length "few") : spNF CP CN [.ref x, .ref a] H R E :=
  ⟨x, a, y, xs, c, rfl, hx, ec, ha, hl, od, fun i' z' e' => (by rw [e] at e'; cases e'), fun _ _ => f, fun _ h => absurd h (by omega)⟩
end
theorem vals_odd {H : Hp} {r : List (Option Nat)} : ∀ v ∈ vals r, ∃ t, Odd H v t := fun v hv => by
  obtain ⟨o, _, rfl⟩ := List.mem_map.mp hv
  exact ⟨_, (fl_opt o).odd⟩
/-- a row with something odd in it -/
def oddL (xs : List V) (k : Nat) (v : V) : List V := xs.take k ++ [v] ++ xs.drop k
theorem oddL_len {xs : List V} {k : Nat} {v : V} (h : k ≤ xs.length) : (oddL xs k v).length = xs.length + 1 := by
  unfold oddL
  rw [List.length_append, List.length_append, List.length_take, List.length_drop]
  show min k xs.length + 1 + (xs.length - k) = _
  omega
theorem oddL_mem {xs : List V} {k : Nat} {v w : V} (h : w ∈ oddL xs k v) : w = v ∨ w ∈ xs := by
  unfold oddL at h
  rcases List.mem_append.mp h with h | h
  · rcases List.mem_append.mp h with h | h
    · exact .inr (List.mem_of_mem_take h)
    · exact .inl (List.mem_singleton.mp h)
  · exact .inr (List.mem_of_mem_drop h)
theorem nf_odd {r : List (Option Nat)} {v : V} {k : Nat} (hr : RowOk r) (l39 : r.length ≤ 39) (hk : k ≤ r.length) (ho : OddV v) : nf (oddL (vals r) k v) true = some (k, ("name" : Str)) := by
  unfold nf
  rw [if_pos ⟨rfl, by rw [oddL_len (by rw [len_vals]; exact hk), len_vals]; omega⟩]
  unfold oddL
  have z := badAt_odd (i := 0) ho ((vals r).drop k) (RowOk.take hr k).le
  rw [List.length_take, Nat.min_eq_left hk, Nat.zero_add] at z
  show badAt 0 ((vals r).take k ++ [v] ++ (vals r).drop k) = _
  rw [show (vals r).take k = vals (r.take k) from List.map_take.symm]
  exact z
theorem ns_odd {H : Hp} {a : Addr} {r : List (Option Nat)} {v : V} {k : Nat} (h : H a = some (.lst (oddL (vals r) k v))) (l39 : r.length ≤ 39) (hk : k ≤ r.length) (ho : ∃ t, Odd H v t) : Ns H (.ref a) (oddL (vals r) k v) true :=
  .seq (.inl h) (by rw [oddL_len (by rw [len_vals]; exact hk), len_vals]; omega) fun w hw => by
    rcases oddL_mem hw with rfl | hw
    · exact ho
    · exact vals_odd w hw
/-- forty-one times nobody -/
theorem flat_rep (n : Nat) : (List.replicate n [V.non]).flatten = vals (List.replicate n none) := by
  induction n with
  | zero => rfl
  | succ n ih =>
    show V.non :: (List.replicate n [V.non]).flatten = _
    rw [ih]
    rfl
theorem row_ok {y : List (Option Nat)} {ns : List Nat} (nm : NmOk ns) (ly : y.length ≤ 40) : RowOk (rowL y ns) := ⟨by unfold rowL; rw [List.length_map]; exact ly, fun n hn => by
  obtain ⟨o, _, e⟩ := List.mem_map.mp hn
  cases o with
  | none => cases e
  | some k =>
    have e : ns.getD k 0 = n := Option.some.inj e
    rw [← e, List.getD_eq_getElem?_getD]
    cases g : ns[k]? with
    | none => exact Nat.zero_le _
    | some m => exact nm.le m (List.mem_of_getElem? g)⟩
theorem cnt_top : ∀ {p : List (Option Nat)} {c0 c : Nat}, cnt c0 (vals p) = some c → c ≤ c0 + p.length
  | [], _, _, h => by cases h; exact Nat.le_refl _
  | o :: p, c0, c, h => by
    have h : (match stepE c0 (optV o) with | some d => cnt d (vals p) | none => none) = some c := h
    have st : ∀ d, stepE c0 (optV o) = some d → d ≤ c0 + 1 := fun d e => by
      cases o with
      | none => cases (show some c0 = some d from e); omega
      | some k =>
        rw [stepE_some] at e
        split at e
        · cases e
        · split at e <;> cases e <;> omega
    cases e : stepE c0 (optV o) with
    | none => rw [e] at h; cases h
    | some d =>
      rw [e] at h
      have z := cnt_top h
      have z2 := st d e
      rw [List.length_cons]
      omega
section
variable {K : PySem.W.Frag} {σ : L2.St} {H : Hp} {D : Ends} {u : TS} {a b : Addr} {y : List (Option Nat)} {ns : List Nat} {c i : Nat}
/-- row(entries, names)[:k] -/
theorem seq_row_to (k : Nat) (ea : σ[2]? = some (some (.ref a))) (eb : σ[3]? = some (some (.ref b))) (ha : H a = some (.lst (vals y))) (hb : H b = some (.lst (nmL ns))) (ec : cnt 0 (vals y) = some c) (hc : c ≤ ns.length) (hy : y.length ≤ 40)
    (q : ∀ (H' : Hp) (R : Addr), Same H H' → H R = none → H' R = some (.lst (vals ((rowL y ns).take k))) → u D (σ.set i (some (.ref R))) H') :
    tSeq (tAsg (tSl (rSlL K) (tCall spRow [] E0 (tCons (tVar 2) (tCons (tVar 3) tNil))) tNoPart (tPart (tC (.int (k : Int))))) (gName i)) u D σ H := by
  refine ⟨_, ea, _, eb, a, b, y, ns, c, rfl, ha, hb, ec, hc, hy, fun H3 R0 s3 nR hR => ⟨_, rfl, R0, _, rfl, SqL.of hR, fun R nR2 => ?_⟩⟩
  rw [cut_upto]
  refine q _ R (s3.trans (same_upd nR2)) (none_of s3 nR2) ?_
  rw [upd_same, show (vals (rowL y ns)).take k = vals ((rowL y ns).take k) from List.map_take.symm]
/-- row(entries, names)[k:] -/
theorem seq_row_from (k : Nat) (ea : σ[2]? = some (some (.ref a))) (eb : σ[3]? = some (some (.ref b))) (ha : H a = some (.lst (vals y))) (hb : H b = some (.lst (nmL ns))) (ec : cnt 0 (vals y) = some c) (hc : c ≤ ns.length) (hy : y.length ≤ 40)
    (q : ∀ (H' : Hp) (R : Addr), Same H H' → H R = none → H' R = some (.lst (vals ((rowL y ns).drop k))) → u D (σ.set i (some (.ref R))) H') :
    tSeq (tAsg (tSl (rSlL K) (tCall spRow [] E0 (tCons (tVar 2) (tCons (tVar 3) tNil))) (tPart (tC (.int (k : Int)))) tNoPart) (gName i)) u D σ H := by
  refine ⟨_, ea, _, eb, a, b, y, ns, c, rfl, ha, hb, ec, hc, hy, fun H3 R0 s3 nR hR => ⟨_, rfl, R0, _, rfl, SqL.of hR, fun R nR2 => ?_⟩⟩
  rw [cut_off]
  refine q _ R (s3.trans (same_upd nR2)) (none_of s3 nR2) ?_
  rw [upd_same, show (vals (rowL y ns)).drop k = vals ((rowL y ns).drop k) from List.map_drop.symm]
/-- names[:k] -/
theorem seq_names_to {j : Nat} (k : Nat) (eb : σ[j]? = some (some (.ref b))) (hb : H b = some (.lst (nmL ns))) (q : ∀ (H' : Hp) (R : Addr), Same H H' → H R = none → H' R = some (.lst (nmL (ns.take k))) → u D (σ.set i (some (.ref R))) H') :
    tSeq (tAsg (tSl (rSlL K) (tVar j) tNoPart (tPart (tC (.int (k : Int))))) (gName i)) u D σ H := by
  refine ⟨_, eb, _, rfl, b, _, rfl, SqL.of hb, fun R nR => ?_⟩
  rw [cut_upto]
  refine q _ R (same_upd nR) nR ?_
  rw [upd_same]
  show some (HO.lst (((ns.map some).map optV).take k)) = some (.lst (((ns.take k).map some).map optV))
  rw [List.map_take, List.map_take]
/-- odd, at = odd(hand, row, things) -/
theorem seq_odd {te : TE} {p l : Addr} {j i1 i2 : Nat} {xs ys : List V} {r : Addr} (ep : σ[0]? = some (some (.ref p))) (er : σ[j]? = some (some (.ref r))) (ht : ∀ R : VK, (∀ (H' : Hp) (t : Addr), Same H H' → H' t = some (.lst ys) → t ≠ p → R (.ref t) H') → te σ H R) (hp : Hand p l H) (hr : H r = some (.lst xs)) (nr : r ≠ p) (lx : xs.length ≤ 40) (l0 : 0 < ys.length) (l1 : ys.length ≤ 100)
    (q : ∀ (H' : Hp) (z : Addr) (k : Nat) (v : V), Kept p H H' → Hand p l H' → H z = none → k ≤ xs.length → v ∈ ys → H' z = some (.lst (oddL xs k v)) → u D ((σ.set i1 (some (.ref z))).set i2 (some (.int (k : Int)))) H') :
    tSeq (tAsg (tCall spOdd [] E0 (tCons (tVar 0) (tCons (tVar j) (tCons te tNil)))) (gTup K 2 (gCons (gName i1) (gCons (gName i2) gNil)))) u D σ H :=
  ⟨_, ep, _, er, ht _ fun H1 t s1 et nt => ⟨p, l, r, t, xs, ys, rfl, hp.same s1, s1 _ _ hr, et, nr, nt, lx, l0, l1, fun H' t' z k v k1 h1 nz hk hv hz ht' => ⟨t', _, rfl, SqT.of ht', rfl, _, _, rfl, _, _, rfl, rfl, q H' z k v ((Kept.same s1).trans k1) h1 (none_of s1 nz) hk hv hz⟩⟩⟩
/-- [None] * k -/
theorem rep_none {te : TE} {k : Int} {Q : VK} (hk : ∀ (H1 : Hp) (R : VK), Same H H1 → R (.int k) H1 → te σ H1 R) (b1 : -(2 ^ 63) ≤ k) (b2 : k < 2 ^ 63) (b3 : k.toNat ≤ 1000) (q : ∀ (H' : Hp) (M : Addr), Same H H' → H M = none → H' M = some (.lst (vals (List.replicate k.toNat none))) → Q (.ref M) H') :
    tOp rRep (tLst (tCons (tC .non) tNil)) te σ H Q := by
  refine ⟨(by show 1 ≤ sizeLine; decide), fun A nA => hk _ _ (same_upd nA) ⟨A, k, [.non], rfl, rfl, upd_same, b1, b2, ?_, fun M nM => ?_⟩⟩
  · exact Nat.le_trans (show 1 * k.toNat ≤ 1000 by omega) (by decide)
  · refine q _ M ((same_upd nA).trans (same_upd nM)) (none_of (same_upd nA) nM) ?_
    rw [upd_same, flat_rep]
end
/-- names are unlike -/
theorem in_nm {n : Nat} {pre : List Nat} (h : ¬ n ∈ pre) : inV (.int (n : Int)) (nmL pre) = false := by
  unfold inV
  rw [List.any_eq_false]
  intro v hv
  obtain ⟨o, ho, rfl⟩ := List.mem_map.mp hv
  obtain ⟨m, hm, rfl⟩ := List.mem_map.mp ho
  show ¬ (decide ((m : Int) = (n : Int))) = true
  rw [decide_eq_true_iff]
  exact fun z => h (by rw [show n = m by omega]; exact hm)
theorem in_nmT {n : Nat} {pre : List Nat} (h : n ∈ pre) : inV (.int (n : Int)) (nmL pre) = true := by
  unfold inV
  rw [List.any_eq_true]
  refine ⟨.int (n : Int), List.mem_map.mpr ⟨some n, List.mem_map.mpr ⟨n, h, rfl⟩, rfl⟩, ?_⟩
  show decide ((n : Int) = (n : Int)) = true
  exact decide_eq_true rfl
theorem nameV_nat {n : Nat} (h : n ≤ 10 ^ 30) : nameV (.int (n : Int)) = true := by
  show (decide ((0 : Int) ≤ (n : Int)) && decide ((n : Int) ≤ 10 ^ 30)) = true
  have z : (10 : Int) ^ 30 = ((10 ^ 30 : Nat) : Int) := by decide
  rw [z, Bool.and_eq_true, decide_eq_true_iff, decide_eq_true_iff]
  omega
theorem badU_nm : ∀ (ms pre : List Nat) (rest : List V), (pre ++ ms).Nodup → (∀ n ∈ ms, n ≤ 10 ^ 30) → badU (nmL pre) (nmL ms ++ rest) = badU (nmL (pre ++ ms)) rest
  | [], pre, rest, _, _ => by rw [List.append_nil]; rfl
  | n :: ms, pre, rest, nd, le => by
    show (if nameV (.int (n : Int)) = true then (if inV (.int (n : Int)) (nmL pre) = true then some ((nmL pre).length, ("double" : Str)) else badU (nmL pre ++ [V.int (n : Int)]) (nmL ms ++ rest)) else some ((nmL pre).length, ("name" : Str))) = _
    have nn : ¬ n ∈ pre := fun z => (List.nodup_append.mp nd).2.2 n z n List.mem_cons_self rfl
    rw [if_pos (nameV_nat (le n List.mem_cons_self)), if_neg (by rw [in_nm nn]; exact Bool.false_ne_true)]
    have e : nmL pre ++ [V.int (n : Int)] = nmL (pre ++ [n]) := (nmL_app pre [n]).symm
    rw [e, badU_nm ms (pre ++ [n]) rest (by rw [List.append_assoc]; exact nd) fun m hm => le m (List.mem_cons_of_mem _ hm), List.append_assoc]
    rfl
theorem uf_nm {ms : List Nat} (h : NmOk ms) (l : ms.length ≤ 40) : uf (nmL ms) = none := by
  unfold uf
  rw [if_pos (by rw [nmL_len]; exact l)]
  have z := badU_nm ms [] [] h.nd h.le
  rw [List.append_nil] at z
  exact z
theorem uf_odd {ms : List Nat} {v : V} {k : Nat} (h : NmOk ms) (l : ms.length ≤ 39) (hk : k ≤ ms.length) (hv : nameV v = false) : uf (oddL (nmL ms) k v) = some (k, ("name" : Str)) := by
  unfold uf
  rw [if_pos (by rw [oddL_len (by rw [nmL_len]; exact hk), nmL_len]; omega)]
  unfold oddL
  have et : (nmL ms).take k = nmL (ms.take k) := by
    show ((ms.map some).map optV).take k = ((ms.take k).map some).map optV
    rw [List.map_take, List.map_take]
  rw [et, List.append_assoc]
  have z := badU_nm (ms.take k) [] ([v] ++ (nmL ms).drop k) (h.nd.sublist (List.take_sublist k ms)) fun n hn => h.le n (List.mem_of_mem_take hn)
  refine z.trans ?_
  show (if nameV v = true then _ else some ((nmL ([] ++ ms.take k)).length, ("name" : Str))) = _
  rw [if_neg (by rw [hv]; exact Bool.false_ne_true), nmL_len, List.nil_append, List.length_take, Nat.min_eq_left hk]
theorem uf_twice {ms : List Nat} {n : Nat} (h : NmOk ms) (l : ms.length ≤ 39) (hn : n ∈ ms) : uf (nmL ms ++ [.int (n : Int)]) = some (ms.length, ("double" : Str)) := by
  unfold uf
  rw [if_pos (by rw [List.length_append, nmL_len]; exact Nat.succ_le_succ l)]
  have z := badU_nm ms [] [.int (n : Int)] h.nd h.le
  refine z.trans ?_
  rw [List.nil_append]
  show (if nameV (.int (n : Int)) = true then (if inV (.int (n : Int)) (nmL ms) = true then some ((nmL ms).length, ("double" : Str)) else _) else _) = _
  rw [if_pos (nameV_nat (h.le n hn)), if_pos (in_nmT hn), nmL_len]
/-- told != (None, ("names", i, z)) does not hold -/
theorem ne_nm {K : PySem.W.Frag} {j i : Nat} {T : Addr} {z : Str} {ti : TE} {σ : L2.St} {H : Hp} {Q : Bool → Hp → Prop} (e : σ[j]? = some (some (.ref T))) (dT : Dt Any H (.ref T) (nmD i z)) (hz : z.length ≤ 1000) (cz : (PyData.str z).canLay0 = true) (hi : ∀ Q : VK, Q (.int (i : Int)) H → ti σ H Q) (g : ∀ H', Same H H' → Q false H') :
    tTest (tOp (rNeD K) (tVar j) (tNm ti z)) σ H Q := by
  refine ⟨_, e, hi _ ⟨(by show 3 ≤ sizeLine; decide), fun U nU => ?_⟩⟩
  have sU := same_upd (o := .tup [.str ("names" : Str), .int (i : Int), .str z]) nU
  refine ⟨(by show 2 ≤ sizeLine; decide), fun W nW => ?_⟩
  have sW := same_upd (o := .tup [.non, .ref U]) nW
  have d2 := nm_dt (H := upd (upd H U (.tup [.str ("names" : Str), .int (i : Int), .str z])) W (.tup [.non, .ref U])) hz cz (sW _ _ upd_same) upd_same
  have d1 := dT.same (sU.trans sW)
  have sh := shaped_of d1.lay (nm_depth i z)
  refine ⟨_, _, d1.dp, d2.dp, sh, sh, _, rfl, ?_⟩
  rw [SeqAt.eqv_refl _ d1.lay]
  exact g _ (sU.trans sW)
theorem seq_asg {e : TE} {g : TG} {u : TS} {D : Ends} {σ : L2.St} {H : Hp} (h : e σ H fun v H1 => g v σ H1 fun σ2 H2 => u D σ2 H2) : tSeq (tAsg e g) u D σ H := h
theorem seq_and3 {A B C : TT} {a u : TS} {D : Ends} {σ : L2.St} {H : Hp} {b1 b2 : Bool} (hA : ∀ R : Bool → Hp → Prop, R b1 H → A σ H R) (hB : ∀ R : Bool → Hp → Prop, R b2 H → B σ H R) (hC : b1 = true → b2 = true → ∀ R : Bool → Hp → Prop, (∀ H', Same H H' → R false H') → C σ H R) (g : ∀ H', Same H H' → u D σ H') : tSeq (tIfS (tAnd A (tAnd B C)) a tNext) u D σ H := by
  have gf : ∀ H', Same H H' → (if (false : Bool) = true then a { D with nx := u D } σ H' else tNext { D with nx := u D } σ H') := fun H' s => iteF (g H' s)
  refine hA _ ?_
  cases b1 with
  | false => exact iteF (gf H (Same.refl _))
  | true =>
    refine iteT (hB _ ?_)
    cases b2 with
    | false => exact iteF (gf H (Same.refl _))
    | true => exact iteT (hC rfl rfl _ gf)
theorem seq_and2 {T : List (Addr × Str)} {A C : TT} {a u : TS} {D : Ends} {σ : L2.St} {H : Hp} {b1 : Bool} (hA : ∀ R : Bool → Hp → Prop, R b1 H → A σ H R) (hC : b1 = true → ∀ R : Bool → Hp → Prop, (∀ H', ExtN H H' → Tabs T H' → R false H') → C σ H R) (hT : Tabs T H) (g : ∀ H', ExtN H H' → Tabs T H' → u D σ H') : tSeq (tIfS (tAnd A C) a tNext) u D σ H := by
  have gf : ∀ H', ExtN H H' → Tabs T H' → (if (false : Bool) = true then a { D with nx := u D } σ H' else tNext { D with nx := u D } σ H') := fun H' s t => iteF (g H' s t)
  refine hA _ ?_
  cases b1 with
  | false => exact iteF (gf H (ext_same (Same.refl _)) hT)
  | true => exact iteT (hC rfl _ gf)
/-- the row that is too long by one -/
def longL (ns : List Nat) (n : Nat) : List (Option Nat) := (ns.take 3).map some ++ List.replicate (((n : Int) - 2).toNat) none
theorem long_len {ns : List Nat} (n : Nat) (h : ns.length = 40) : (longL ns n).length = 3 + ((n : Int) - 2).toNat := by
  unfold longL
  rw [List.length_append, List.length_map, List.length_take, List.length_replicate, h]
  rfl
theorem long_key {CP CN x : Addr} {y : List (Option Nat)} {ns : List Nat} (nm : NmOk ns) (nl : ns.length = 40) (ly : y.length ≤ 40) : ∃ (i : Nat) (z : Str), z.length ≤ 1000 ∧ (PyData.str z).canLay0 = true ∧ (3 ≤ y.length → y.length < 40 → i = y.length + 1 ∧ z = "length") ∧
    ∀ (H : Hp) (M : Addr) (E : XK) (R : VK), PatAt CP H x y → H M = some (.lst (vals (longL ns y.length))) → Fails CN H E i z → spFD CP CN [.ref x, .ref M] H R E := by
  have ll := long_len y.length nl
  have nsM : ∀ {H : Hp} {M : Addr}, H M = some (.lst (vals (longL ns y.length))) → Ns H (.ref M) (vals (longL ns y.length)) true := fun e => .seq (.inl e) (by rw [len_vals]; omega) vals_odd
  by_cases h40 : (longL ns y.length).length ≤ 40
  · have e : nf (vals (longL ns y.length)) true = none := by
      unfold nf
      rw [if_pos ⟨rfl, by rw [len_vals]; exact h40⟩]
      refine badAt_none fun n hn => ?_
      unfold longL at hn
      rcases List.mem_append.mp hn with hn | hn
      · obtain ⟨m, hm, e⟩ := List.mem_map.mp hn
        cases e
        exact nm.le _ (List.mem_of_mem_take hm)
      · cases (List.mem_replicate.mp hn).2
    refine ⟨(vals (longL ns y.length)).length, "length", by show 6 ≤ 1000; decide, by decide +kernel, fun h3 _ => ⟨?_, rfl⟩, fun H M E R hx hM f => fd_length hx (nsM hM) e ?_ f⟩
    · rw [len_vals]
      omega
    · rw [len_vals]
      omega
  · refine ⟨0, "names", by show 5 ≤ 1000; decide, by decide +kernel, fun h3 h4 => absurd ll (by omega), fun H M E R hx hM f => fd_fails hx (nsM hM) ?_ f⟩
    unfold nf
    rw [if_neg]
    rw [len_vals]
    exact fun z => h40 z.2
theorem told_ok {CN CR : Addr} {H1 : Hp} {Q : VK} {tl : XK → Hp → VK → Prop} (Pr : V → Hp → Prop) (mono : ∀ v H H', Pr v H → Same H H' → Pr v H') (h : ∀ (H2 : Hp) (E : XK) (R : VK), Same H1 H2 → (∀ v H3, Same H2 H3 → Pr v H3 → R v H3) → tl E H2 R)
    (q : ∀ (H3 : Hp) (T : Addr) (v : V), Same H1 H3 → Pr v H3 → H3 T = some (.tup [v, .non]) → Q (.ref T) H3) : TTold CN CR tl H1 Q := by
  intro N0 nN
  have sN := same_upd (o := .tup [.non, .non]) nN
  refine h _ _ _ sN fun v H3 s3 pv => ⟨_, rfl, _, rfl, (by show 2 ≤ sizeLine; decide), fun T nT => ?_⟩
  have sT := same_upd (o := .tup [v, .non]) nT
  exact q _ T v ((sN.trans s3).trans sT) (mono _ _ _ pv sT) upd_same
end K27

/-! odd rows, odd lists: lists that the law makes for them -/
namespace K27
open PySem PySem.Spec PyProof.Rows L2 LamX TaX GrdX
abbrev rTupOf (K : PySem.W.Frag) : List V → Hp → VK → Prop := fun xs H Q => ∃ p ys, xs = [V.ref p] ∧ ((SqL K H p ys ∧ ∀ l, H l = none → Q (.ref l) (upd H l (.tup ys))) ∨ (SqT K H p ys ∧ Q (.ref p) H))
abbrev rListOf (K : PySem.W.Frag) : List V → Hp → VK → Prop := fun xs H Q => ∃ p ys, xs = [V.ref p] ∧ (SqL K H p ys ∨ SqT K H p ys) ∧ ∀ l, H l = none → Q (.ref l) (upd H l (.lst ys))
abbrev rLenOf (K : PySem.W.Frag) : List V → Hp → VK → Prop := fun xs H Q => ∃ p ys, xs = [V.ref p] ∧ (SqL K H p ys ∨ SqT K H p ys) ∧ Q (.int ys.length) H
abbrev tLen (K : PySem.W.Frag) (i : Nat) : TE := tCB (rLenOf K) (tCons (tVar i) tNil)
section
variable {K : PySem.W.Frag} {σ : L2.St} {H : Hp} {a b : Addr} {y : List (Option Nat)} {ns : List Nat}
theorem nmL_take (k : Nat) : (nmL ns).take k = nmL (ns.take k) := by
  show ((ns.map some).map optV).take k = ((ns.take k).map some).map optV
  rw [List.map_take, List.map_take]
theorem len_at {i : Nat} {Q : VK} (e : σ[i]? = some (some (.ref a))) (ha : H a = some (.lst (vals y))) (h : Q (.int (y.length : Int)) H) : tLen K i σ H Q := ⟨_, e, a, _, rfl, .inl (SqL.of ha), by rw [len_vals]; exact h⟩
theorem len_nm {i : Nat} {Q : VK} (e : σ[i]? = some (some (.ref b))) (hb : H b = some (.lst (nmL ns))) (h : Q (.int (ns.length : Int)) H) : tLen K i σ H Q := ⟨_, e, b, _, rfl, .inl (SqL.of hb), by rw [nmL_len]; exact h⟩
theorem op_len {i : Nat} {r : R2} {v : V} {Q : VK} (e : σ[i]? = some (some (.ref a))) (ha : H a = some (.lst (vals y))) (h : r (.int (y.length : Int)) v H Q) : tOp r (tLen K i) (tC v) σ H Q := len_at (Q := fun x H1 => tC v σ H1 fun z H2 => r x z H2 Q) e ha h
theorem tst_len {i : Nat} {r : R2} {v : V} {R : Bool → Hp → Prop} (e : σ[i]? = some (some (.ref a))) (ha : H a = some (.lst (vals y))) (h : r (.int (y.length : Int)) v H fun x H' => ∃ k, x = .bl k ∧ R k H') : tTest (tOp r (tLen K i) (tC v)) σ H R := op_len e ha h
theorem asg_told {TL : List (Addr × Str)} {CN CR : Addr} {z : Str} {i j : Nat} {t : XK → TE} {u : TS} {D : Ends} (hz : z.length ≤ 1000) (cz : (PyData.str z).canLay0 = true) (hT : Tabs TL H) (h : ∀ (H2 : Hp) (E : XK) (R : VK), ExtN H H2 → Fails CN H2 E i z → t E σ H2 R)
    (g : ∀ (H' : Hp) (T : Addr), ExtN H H' → Tabs TL H' → Dt Any H' (.ref T) (nmD i z) → u D (σ.set j (some (.ref T))) H') : tSeq (tAsg (tLam TL (TTold CN CR) t) (gName j)) u D σ H :=
  seq_asg ⟨hT, fun H1 x1 t1 => told_err hz cz (fun H2 E R s2 f => h H2 E R (x1.trans (ext_same s2)) f) fun H3 T s3 dT => g H3 T (x1.trans (ext_same s3)) (tabs_same t1 s3) dT⟩
theorem state_eq {u : TS} {D : Ends} {σ' : L2.St} (e : σ = σ') (h : u D σ' H) : u D σ H := e ▸ h
theorem ret_of {te : TE} {D : Ends} (h : te σ H D.rt) : tRet te D σ H := h
/-- list(names[:3]) + [None] * (len(entries) - 2) -/
theorem long_made {Q : VK} (ea : σ[2]? = some (some (.ref a))) (eb : σ[3]? = some (some (.ref b))) (ha : H a = some (.lst (vals y))) (hb : H b = some (.lst (nmL ns))) (ly : y.length ≤ 40) (nl : ns.length ≤ 40)
    (q : ∀ (H' : Hp) (M : Addr), Same H H' → H' M = some (.lst (vals (longL ns y.length))) → Q (.ref M) H') :
    tOp rCat (tCB (rListOf K) (tCons (tSl (rSlL K) (tVar 3) tNoPart (tPart (tC (.int 3)))) tNil)) (tOp rRep (tLst (tCons (tC .non) tNil)) (tOp (rI0 fun i j => V.int (i - j)) (tLen K 2) (tC (.int 2)))) σ H Q := by
  have e3 : cutV (nmL ns) none (some 3) = nmL (ns.take 3) := (cut_upto _ 3).trans (nmL_take 3)
  refine ⟨_, eb, _, rfl, b, _, rfl, SqL.of hb, fun p1 n1 => ⟨p1, _, rfl, .inl (SqL.of upd_same), fun p2 n2 => ?_⟩⟩
  have s2 := (same_upd n1).trans (same_upd (o := .lst (cutV (nmL ns) none (some 3))) n2)
  refine rep_none (k := (y.length : Int) - 2) (fun H1 R s h => len_at ea ((s2.trans s) _ _ ha) ⟨_, _, rfl, rfl, h⟩) (by omega) (by omega) (by omega) fun H12 M s12 nM hM => ?_
  refine ⟨p2, M, _, _, rfl, rfl, s12 _ _ upd_same, hM, ?_, fun p3 n3 => ?_⟩
  · rw [e3, nmL_len, len_vals, List.length_take, List.length_replicate]
    exact Nat.le_trans (show min 3 ns.length + _ ≤ 100 by omega) (by decide)
  · refine q _ p3 ((s2.trans s12).trans (same_upd n3)) ?_
    rw [upd_same, e3]
    unfold longL
    rw [vals_app]
/-- things -/
theorem seq_things {u : TS} {D : Ends} {i : Nat} (q : ∀ (H' : Hp) (G L : Addr), Same H H' → H' G = some (.tup [.int 2]) → H' L = some (.lst (thL G)) → u D (σ.set i (some (.ref L))) H') :
    tSeq (tAsg (tLst (tCons (tUn (rU fun i => V.int (-i)) (tC (V.int 1))) (tCons (tC (V.bl true)) (tCons (tC (V.str ("1" : Str))) (tCons (tOp (rI0 fun i j => V.int (i + j)) (tOp (rI CPow fun i j => V.int (i ^ j.toNat)) (tC (V.int 10)) (tC (V.int 30))) (tC (V.int 1))) (tCons (tTup (tCons (tC (V.int 2)) tNil)) tNil)))))) (gName i)) u D σ H := by
  refine ⟨_, rfl, _, _, rfl, rfl, ⟨by decide, by decide, by decide⟩, _, _, rfl, rfl, (by show 1 ≤ sizeLine; decide), fun G nG => ⟨(by show 5 ≤ sizeLine; decide), fun L nL => ?_⟩⟩
  exact q _ G L ((same_upd nG).trans (same_upd nL)) (same_upd nL _ _ upd_same) upd_same
/-- things + [None] -/
theorem things_more {G L p l : Addr} {Q : VK} (e : σ[4]? = some (some (.ref L))) (hL : H L = some (.lst (thL G))) (hp : Hand p l H) (q : ∀ (H' : Hp) (t : Addr), Same H H' → H' t = some (.lst (thL G ++ [.non])) → t ≠ p → Q (.ref t) H') : tOp rCat (tVar 4) (tLst (tCons (tC .non) tNil)) σ H Q := by
  refine ⟨_, e, (by show 1 ≤ sizeLine; decide), fun M nM => ⟨L, M, thL G, [.non], rfl, rfl, same_upd nM _ _ hL, upd_same, (by show 6 ≤ sizeLine; decide), fun M2 nM2 => ?_⟩⟩
  exact q _ M2 ((same_upd nM).trans (same_upd nM2)) upd_same ((hp.same (same_upd nM)).nn nM2)
/-- some + [pick(hand, some)] -/
theorem seq_twice {u : TS} {D : Ends} {p l S : Addr} {i j : Nat} {ms : List Nat} (ep : σ[0]? = some (some (.ref p))) (eS : σ[i]? = some (some (.ref S))) (hp : Hand p l H) (hS : H S = some (.lst (nmL ms))) (l0 : 0 < ms.length) (l1 : ms.length ≤ 39)
    (q : ∀ (H' : Hp) (W : Addr) (n : Nat), Kept p H H' → Hand p l H' → n ∈ ms → H' W = some (.lst (nmL ms ++ [.int (n : Int)])) → H' S = some (.lst (nmL ms)) → u D (σ.set j (some (.ref W))) H') :
    tSeq (tAsg (tOp rCat (tVar i) (tLst (tCons (tCall spPk [] E0 (tCons (tVar 0) (tCons (tVar i) tNil))) tNil))) (gName j)) u D σ H := by
  have nSp := hp.neq (ms.map some) hS
  refine ⟨_, eS, _, ep, _, eS, p, l, S, nmL ms, rfl, hp, hS, nSp, by rw [nmL_len]; exact l0, by rw [nmL_len]; omega, fun v3 H18 hv3 k18 h18 => ⟨(by show 1 ≤ sizeLine; decide), fun M nM => ?_⟩⟩
  have hS18 := k18 _ _ nSp hS
  obtain ⟨n3, hn3, rfl⟩ : ∃ n3 : Nat, n3 ∈ ms ∧ v3 = .int (n3 : Int) := by
    obtain ⟨o, ho, rfl⟩ := List.mem_map.mp hv3
    obtain ⟨n3, h3, rfl⟩ := List.mem_map.mp ho
    exact ⟨n3, h3, rfl⟩
  have sM := same_upd (o := .lst [.int (n3 : Int)]) nM
  refine ⟨S, M, nmL ms, [.int (n3 : Int)], rfl, rfl, sM _ _ hS18, upd_same, ?_, fun W nW => ?_⟩
  · rw [nmL_len]
    exact Nat.le_trans (show ms.length + 1 ≤ 40 by omega) (by decide)
  · have s2 := sM.trans (same_upd (o := .lst (nmL ms ++ [.int (n3 : Int)])) nW)
    exact q _ W n3 (k18.trans (Kept.same s2)) (h18.same s2) hn3 upd_same (s2 _ _ hS18)
/-- names[:max(0, count(entries) - 1)] -/
theorem seq_few {u : TS} {D : Ends} {i c : Nat} (ea : σ[2]? = some (some (.ref a))) (eb : σ[3]? = some (some (.ref b))) (ha : H a = some (.lst (vals y))) (hb : H b = some (.lst (nmL ns))) (ec : cnt 0 (vals y) = some c) (ly : y.length ≤ 40)
    (q : ∀ (H' : Hp) (S : Addr), Same H H' → H' S = some (.lst (nmL (ns.take (c - 1)))) → u D (σ.set i (some (.ref S))) H') :
    tSeq (tAsg (tSl (rSlL K) (tVar 3) tNoPart (tPart (tCB (fun xs H Q => ∃ i j, xs = [V.int i, V.int j] ∧ Q (V.int (if j > i then j else i)) H) (tCons (tC (V.int 0)) (tCons (tOp (rI0 fun i j => V.int (i - j)) (tCall spCnt [] E0 (tCons (tVar 2) tNil)) (tC (V.int 1))) tNil))))) (gName i)) u D σ H := by
  refine ⟨_, eb, _, ea, a, y, c, rfl, ha, ec, ly, fun H1 s1 => ⟨_, _, rfl, rfl, _, _, rfl, _, rfl, b, _, rfl, SqL.of (s1 _ _ hb), fun S nS => ?_⟩⟩
  have e : cutV (nmL ns) none (some (if (c : Int) - 1 > 0 then (c : Int) - 1 else 0)) = nmL (ns.take (c - 1)) := by
    have z : (if (c : Int) - 1 > 0 then (c : Int) - 1 else 0) = ((c - 1 : Nat) : Int) := by
      split <;> omega
    rw [z, cut_upto, nmL_take]
  rw [e]
  exact q _ S (s1.trans (same_upd nS)) upd_same
end
/-- the last call of odd_right, as it is due -/
def fewD (y : List (Option Nat)) (c : Nat) : PyData := if 0 < c then nmD (c - 1) "few" else .tuple [.tuple (y.map datO), .none]
theorem few_depth (y : List (Option Nat)) (c : Nat) : (fewD y c).depth ≤ 64 := by
  unfold fewD
  split
  · exact nm_depth _ _
  · show max (PyData.depthAll (y.map datO) + 1) (max 0 0) + 1 ≤ 64
    have : PyData.depthAll (y.map datO) ≤ 8 := dep_all fun d hd => by obtain ⟨o, _, rfl⟩ := List.mem_map.mp hd; cases o <;> exact Nat.zero_le _
    omega
section
variable {K : PySem.W.Frag} {σ : L2.St} {H : Hp} {a b : Addr} {y : List (Option Nat)} {ns : List Nat}
theorem seq_due {u : TS} {D : Ends} {i j c : Nat} {S : Addr} {ms : List Nat} (ea : σ[2]? = some (some (.ref a))) (eS : σ[j]? = some (some (.ref S))) (ha : H a = some (.lst (vals y))) (hS : H S = some (.lst (nmL ms))) (lm : 0 < c → ms.length = c - 1) (ec : cnt 0 (vals y) = some c) (ly : y.length ≤ 40)
    (q : ∀ (H' : Hp) (T : Addr), Same H H' → Dt Any H' (.ref T) (fewD y c) → u D (σ.set i (some (.ref T))) H') :
    tSeq (tAsg (tIf (tTest (tOp (rI0 fun i j => V.bl (decide (j < i))) (tCall spCnt [] E0 (tCons (tVar 2) tNil)) (tC (V.int 0)))) (tTup (tCons (tC V.non) (tCons (tTup (tCons (tC (V.str ("names" : Str))) (tCons (tLen K j) (tCons (tC (V.str ("few" : Str))) tNil)))) tNil)))
      (tTup (tCons (tCB (rTupOf K) (tCons (tVar 2) tNil)) (tCons (tC V.non) tNil)))) (gName i)) u D σ H := by
  refine ⟨_, ea, a, y, c, rfl, ha, ec, ly, fun H1 s1 => ⟨_, _, rfl, rfl, _, rfl, ?_⟩⟩
  by_cases h0 : 0 < c
  · rw [decide_eq_true (show (0 : Int) < (c : Int) by omega)]
    refine iteT (len_nm eS (s1 _ _ hS) ⟨(by show 3 ≤ sizeLine; decide), fun U nU => ⟨(by show 2 ≤ sizeLine; decide), fun T nT => ?_⟩⟩)
    rw [lm h0] at nT ⊢
    refine q _ T (s1.trans ((same_upd nU).trans (same_upd nT))) ?_
    unfold fewD
    rw [if_pos h0]
    exact nm_dt (by show 3 ≤ 1000; decide) (by decide +kernel) (same_upd nT _ _ upd_same) upd_same
  · rw [decide_eq_false (show ¬ (0 : Int) < (c : Int) by omega)]
    refine iteF ⟨_, ea, a, _, rfl, .inl ⟨SqL.of (s1 _ _ ha), fun t nt => ⟨(by show 2 ≤ sizeLine; decide), fun T nT => ?_⟩⟩⟩
    refine q _ T (s1.trans ((same_upd nt).trans (same_upd nT))) ?_
    unfold fewD
    rw [if_neg h0]
    exact .tup trivial upd_same (.cons (.tup trivial (same_upd nT _ _ upd_same) (dt_vals y)) (.cons .non .nil))
/-- told(lambda: names_for(pattern, few)) == due -/
theorem few_right {TL : List (Addr × Str)} {CP CN CR x S T : Addr} {j i c : Nat} {ms : List Nat} {Q : VK} (hT : Tabs TL H) (ex : σ[1]? = some (some (.ref x))) (eS : σ[j]? = some (some (.ref S))) (eT : σ[i]? = some (some (.ref T))) (hx : PatAt CP H x y) (hS : H S = some (.lst (nmL ms))) (nm : NmOk ms) (l40 : ms.length ≤ 40) (lm : ms.length = c - 1) (ec : cnt 0 (vals y) = some c)
    (dT : Dt Any H (.ref T) (fewD y c)) (q : ∀ H', ExtN H H' → Tabs TL H' → Q (.bl true) H') :
    tOp (rEqD K) (tLam TL (TTold CN CR) fun E => tCallS (spNF CP CN) (fun σ => WE (fun cls d _ H => E cls d H) σ) (tCons (tVar 1) (tCons (tVar j) tNil))) (tVar i) σ H Q := by
  refine ⟨hT, fun H1 x1 t1 => ?_⟩
  have fin : ∀ (H3 : Hp) (T2 : Addr), Same H1 H3 → Dt Any H3 (.ref T2) (fewD y c) → tVar i σ H3 fun y_1 H2 => rEqD K (.ref T2) y_1 H2 Q := fun H3 T2 s3 d2 => by
    have d1 := (dT.ext x1).same s3
    have sh := shaped_of d1.lay (few_depth y c)
    refine ⟨_, eT, _, _, d2.dp, d1.dp, sh, sh, ?_⟩
    rw [SeqAt.eqv_refl _ d1.lay]
    exact q _ (x1.trans (ext_same s3)) (tabs_same t1 s3)
  have hx1 := hx.same x1
  have hS1 := lst_ext hS x1
  by_cases h0 : 0 < c
  · refine told_err (i := c - 1) (z := "few") (by show 3 ≤ 1000; decide) (by decide +kernel) (fun H2 E R s2 f => ⟨_, ex, _, eS, ?_⟩) fun H3 T2 s3 d2 => fin H3 T2 s3 (by unfold fewD; rw [if_pos h0]; exact d2)
    have z := nf_few (CN := CN) (R := R) (E := E) (hx1.sm s2) (s2 _ _ hS1) (by rw [nmL_len]; omega) vals_odd (uf_nm nm l40) ec (by rw [nmL_len]; omega)
    rw [nmL_len, lm] at z
    exact z f
  · have c0 : c = 0 := by omega
    subst c0
    have ms0 : ms = [] := List.eq_nil_of_length_eq_zero lm
    subst ms0
    have yn : ∀ o ∈ y, o = none := fun o ho => by
      cases o with
      | none => rfl
      | some k =>
        obtain ⟨i, hi⟩ := List.getElem?_of_mem ho
        exact absurd (((pt_of_cnt ec).classes ec k).mp ⟨i, hi⟩) (Nat.not_lt_zero _)
    have ev : y.map (nmV (nmL [])) = vals y := List.map_congr_left fun o ho => by rw [yn o ho]; rfl
    refine told_ok (fun v H => ∃ t, v = .ref t ∧ H t = some (.tup (vals y))) (fun v H H' ⟨t, e, h⟩ s => ⟨t, e, s _ _ h⟩) (fun H2 E R s2 k => ⟨_, ex, _, eS, ?_⟩) fun H3 T2 v s3 ⟨t, e, ht⟩ hT2 => ?_
    · refine ⟨x, S, y, _, 0, rfl, hx1.sm s2, ec, s2 _ _ hS1, Nat.zero_le _, vals_odd, fun i' z' e' => (by rw [uf_nm nm l40] at e'; cases e'), fun _ h => absurd h (Nat.not_lt_zero _), fun _ _ H' t s' ht => k _ H' s' ⟨t, rfl, by rw [ht, ev]⟩⟩
    · subst e
      refine fin H3 T2 s3 ?_
      unfold fewD
      rw [if_neg h0]
      exact .tup trivial hT2 (.cons (.tup trivial ht (dt_vals y)) (.cons .non .nil))
end
end K27

/-! odd rows, odd lists are refused -/
namespace K27
open PySem PySem.Spec PyProof.Rows L2 LamX TaX GrdX
def spOr (CP : Addr) (TL : List (Addr × Str)) : Sp := fun vs H Q _ => ∃ (p l x a b : Addr) (y : List (Option Nat)) (ns : List Nat), vs = [.ref p, .ref x, .ref a, .ref b] ∧ Hand p l H ∧ PatAt CP H x y ∧ H a = some (.lst (vals y)) ∧ H b = some (.lst (nmL ns)) ∧ NmOk ns ∧ ns.length = 40 ∧ Tabs TL H ∧
  ∀ H', KeptT p H H' → Tabs TL H' → Hand p l H' → Q (.bl true) H'
section
variable {P : Program} {w : World} {K : PySem.W.Frag} {mg : Str → Option Value} {base : Heap}
theorem ok_or {f c Tb fT fFD fRO fNF fOd fRw fCn fP CP CN CR : Addr} {fd fdT fdFD fdRO fdNF fdOd fdRw fdCn fdP : FuncData} (F : FunC K "_law_odd_right" "_law_odd_right" (defArgs sOddRight) (defBody sOddRight) (defScope sOddRight) c f fd) (TB : TabB base mg c Tb) {TL : List (Addr × Str)} (hm : (Tb, qOr) ∈ TL) (hu1 : ∀ p ∈ TL, p.1 = Tb → p.2 = qOr) (z_tuple : mg "tuple" = none) (z_list : mg "list" = none) (z_len : mg "len" = none) (z_max : mg "max" = none)
    (FT : FnP K "_law_told" sTold fT fdT) (gT : mg "_law_told" = some (.ref fT)) (bT : Binds K fdT ["_law_call"] []) (N : ErX K mg CN CR) (dFD : DfE P w K mg base "first_difference" 4 ["pattern", "names"] (spFD CP CN) fFD fdFD) (dRO : DfE P w K mg base "renaming_of" 4 ["one", "other"] (spRO CN CR) fRO fdRO)
    (dNF : DfE P w K mg base "names_for" 4 ["pattern", "names"] (spNF CP CN) fNF fdNF) (dOd : Df P w K mg base "_law_odd" 4 ["_law_hand_here", "_law_names", "_law_word_pool"] spOdd fOd fdOd) (dRw : Df P w K mg base "_law_row" 1 ["_law_entries_here", "_law_names"] spRow fRw fdRw)
    (dCn : Df P w K mg base "_law_count" 1 ["_law_entries_here"] spCnt fCn fdCn) (dP : Df P w K mg base "_law_pick" 3 ["_law_hand_here", "_law_things"] spPk fP fdP) : FnOk P w K mg base CX0 7 f fd ["_law_hand_here", "_law_pattern", "_law_entries_here", "_law_names"] (spOr CP TL) := by
  have sc : FnScope ["_law_hand_here", "_law_pattern", "_law_entries_here", "_law_names", "_law_things", "_law_row_here", "_law_odd_here", "_law_at", "_law_short", "_law_less", "_law_some", "_law_bad", "_law_twice", "_law_few", "_law_due"] ["_law_hand_here", "_law_pattern", "_law_entries_here", "_law_names"] (defScope sOddRight) := ⟨rfl, rfl, rfl, by decide +kernel, rfl, by decide +kernel, by decide +kernel⟩
  refine F.ok sc (fun vs H Q E h => ?_) (fun A outer s H vs Q E hr h => ?_)
  · obtain ⟨p, l, x, a, b, y, ns, rfl, _⟩ := h
    rfl
  · obtain ⟨p, l, x, a, b, y, ns, rfl, hp, hx, ha, hb, nm, nl, tb, q⟩ := h
    have hr4 := hr.mono (show 4 ≤ 6 by decide)
    have hr3 := hr.mono (show 3 ≤ 6 by decide)
    have hr1 := hr.mono (show 1 ≤ 6 by decide)
    refine ⟨_, PSs.nox (pss_cons (ps_set (i := 4) sc.nd rfl (.inl rfl) (pe_lst (pa_cons (pe_un un_neg pe_int) (pa_cons pe_bl (pa_cons pe_str (pa_cons (pe_op op_add (pe_op op_pow pe_int pe_int) pe_int) (pa_cons (pe_tup (pa_cons pe_int pa_nil)) pa_nil)))))))
    (pss_cons (ps_set (i := 5) sc.nd rfl (.inr rfl) (pe_slice sl_list (pe_call dRw.ok hr1 (by rfl) dRw.gl dRw.kp dRw.bi .nil pass0 (pa_cons (pv 2) (pa_cons (pv 3) pa_nil))) po_none (po_some pe_int)))
    (pss_cons (ps_asg (pe_call dOd.ok hr4 (by rfl) dOd.gl dOd.kp dOd.bi .nil pass0 (pa_cons (pv 0) (pa_cons (pv 5) (pa_cons (pv 4) pa_nil)))) (pg_tup (by rfl) (pgs_cons (pg_name (i := 6) sc.nd rfl (Or.inr rfl)) (pgs_cons (pg_name (i := 7) sc.nd rfl (Or.inl rfl)) pgs_nil))))
    (pss_cons (ps_if (pt_cmpR (op_neD hr.units) (lamcall_told (q := qOr) FT gT bT N TB hm hu1 hr (fun A outer s H E f c2 hr2 => (pe_callS dFD.ok hr2 (by rfl) dFD.gl dFD.kp dFD.bi (fun σ => passAt (takes_of rfl rfl rfl rfl) σ) (pa_cons (pv 1) (pa_cons (pv 6) pa_nil)))) (show lamSB (defScope sOddRight) _ = true by decide +kernel)) (pe_tup (pa_cons pe_non (pa_cons (pe_tup (pa_cons pe_str (pa_cons (pv 7) (pa_cons pe_str pa_nil)))) pa_nil))) (nomark _))
      (pss_one (ps_ret pe_bl))
      pss_nil)
    (pss_cons (ps_if (pt_cmpR (op_neD hr.units) (lamcall_told (q := qOr) FT gT bT N TB hm hu1 hr (fun A outer s H E f c2 hr2 => (pe_callS dRO.ok hr2 (by rfl) dRO.gl dRO.kp dRO.bi (fun σ => passAt (takes_of rfl rfl rfl rfl) σ) (pa_cons (pv 6) (pa_cons (pe_op op_rep (pe_lst (pa_cons pe_non pa_nil)) pe_int) pa_nil)))) (show lamSB (defScope sOddRight) _ = true by decide +kernel)) (pe_tup (pa_cons pe_non (pa_cons (pe_tup (pa_cons pe_str (pa_cons (pv 7) (pa_cons pe_str pa_nil)))) pa_nil))) (nomark _))
      (pss_one (ps_ret pe_bl))
      pss_nil)
    (pss_cons (ps_if (pt_cmpR (op_neD hr.units) (lamcall_told (q := qOr) FT gT bT N TB hm hu1 hr (fun A outer s H E f c2 hr2 => (pe_callS dRO.ok hr2 (by rfl) dRO.gl dRO.kp dRO.bi (fun σ => passAt (takes_of rfl rfl rfl rfl) σ) (pa_cons (pe_callTy (T := "tuple") (r := rTupOf K) call_tuple_of (by rfl) z_tuple (by decide +kernel) (pa_cons (pv 5) pa_nil)) (pa_cons (pv 6) pa_nil)))) (show lamSB (defScope sOddRight) _ = true by decide +kernel)) (pe_tup (pa_cons pe_non (pa_cons (pe_tup (pa_cons pe_str (pa_cons (pv 7) (pa_cons pe_str pa_nil)))) pa_nil))) (nomark _))
      (pss_one (ps_ret pe_bl))
      pss_nil)
    (pss_cons (ps_if (pt_cmpR (op_neD hr.units) (lamcall_told (q := qOr) FT gT bT N TB hm hu1 hr (fun A outer s H E f c2 hr2 => (pe_callS dRO.ok hr2 (by rfl) dRO.gl dRO.kp dRO.bi (fun σ => passAt (takes_of rfl rfl rfl rfl) σ) (pa_cons (pv 5) (pa_cons pe_str pa_nil)))) (show lamSB (defScope sOddRight) _ = true by decide +kernel)) (pe_tup (pa_cons pe_non (pa_cons (pe_tup (pa_cons pe_str (pa_cons pe_int (pa_cons pe_str pa_nil)))) pa_nil))) (nomark _))
      (pss_one (ps_ret pe_bl))
      pss_nil)
    (pss_cons (ps_if (pt_cmpR (op_neD hr.units) (lamcall_told (q := qOr) FT gT bT N TB hm hu1 hr (fun A outer s H E f c2 hr2 => (pe_callS dFD.ok hr2 (by rfl) dFD.gl dFD.kp dFD.bi (fun σ => passAt (takes_of rfl rfl rfl rfl) σ) (pa_cons (pv 1) (pa_cons (pe_op op_rep (pe_lst (pa_cons pe_non pa_nil)) pe_int) pa_nil)))) (show lamSB (defScope sOddRight) _ = true by decide +kernel)) (pe_tup (pa_cons pe_non (pa_cons (pe_tup (pa_cons pe_str (pa_cons pe_int (pa_cons pe_str pa_nil)))) pa_nil))) (nomark _))
      (pss_one (ps_ret pe_bl))
      pss_nil)
    (pss_cons (ps_set (i := 8) sc.nd rfl (.inl rfl) (lamcall_told (q := qOr) FT gT bT N TB hm hu1 hr (fun A outer s H E f c2 hr2 => (pe_callS dFD.ok hr2 (by rfl) dFD.gl dFD.kp dFD.bi (fun σ => passAt (takes_of rfl rfl rfl rfl) σ) (pa_cons (pv 1) (pa_cons (pe_op op_cat (pe_callTy (T := "list") (r := rListOf K) call_list_of (by rfl) z_list (by decide +kernel) (pa_cons (pe_slice (r := rSlL K) sl_list (pv 3) po_none (po_some pe_int)) pa_nil)) (pe_op op_rep (pe_lst (pa_cons pe_non pa_nil)) (pe_op op_sub (pe_callB (r := rLenOf K) call_len_seq (by rfl) z_len boot_len (pa_cons (pv 2) pa_nil)) pe_int))) pa_nil)))) (show lamSB (defScope sOddRight) _ = true by decide +kernel)))
    (pss_cons (ps_if (PW.pt (pw_and (pt_cmpR op_ge (pe_callB call_len_seq (by rfl) z_len boot_len (pa_cons (pv 2) pa_nil)) pe_int (nomark _)) (pw_and (pt_cmpR op_lt (pe_callB call_len_seq (by rfl) z_len boot_len (pa_cons (pv 2) pa_nil)) pe_int (nomark _)) (pw_and1 (pt_cmpR (op_neD hr.units) (pv 8) (pe_tup (pa_cons pe_non (pa_cons (pe_tup (pa_cons pe_str (pa_cons (pe_op op_add (pe_callB call_len_seq (by rfl) z_len boot_len (pa_cons (pv 2) pa_nil)) pe_int) (pa_cons pe_str pa_nil)))) pa_nil))) (nomark _))))))
      (pss_one (ps_ret pe_bl))
      pss_nil)
    (pss_cons (ps_set (i := 9) sc.nd rfl (.inr rfl) (pe_slice sl_list (pe_call dRw.ok hr1 (by rfl) dRw.gl dRw.kp dRw.bi .nil pass0 (pa_cons (pv 2) (pa_cons (pv 3) pa_nil))) (po_some pe_int) po_none))
    (pss_cons (ps_if (PW.pt (pw_and (pt_cmpR op_gt (pe_callB call_len_seq (by rfl) z_len boot_len (pa_cons (pv 2) pa_nil)) pe_int (nomark _)) (pw_and1 (pt_cmpR (op_neD hr.units) (lamcall_told (q := qOr) FT gT bT N TB hm hu1 hr (fun A outer s H E f c2 hr2 => (pe_callS dFD.ok hr2 (by rfl) dFD.gl dFD.kp dFD.bi (fun σ => passAt (takes_of rfl rfl rfl rfl) σ) (pa_cons (pv 1) (pa_cons (pv 9) pa_nil)))) (show lamSB (defScope sOddRight) _ = true by decide +kernel)) (pe_tup (pa_cons pe_non (pa_cons (pe_tup (pa_cons pe_str (pa_cons (pe_callB call_len_seq (by rfl) z_len boot_len (pa_cons (pv 9) pa_nil)) (pa_cons pe_str pa_nil)))) pa_nil))) (nomark _)))))
      (pss_one (ps_ret pe_bl))
      pss_nil)
    (pss_cons (ps_set (i := 10) sc.nd rfl (.inl rfl) (pe_slice sl_list (pv 3) po_none (po_some pe_int)))
    (pss_cons (ps_asg (pe_call dOd.ok hr4 (by rfl) dOd.gl dOd.kp dOd.bi .nil pass0 (pa_cons (pv 0) (pa_cons (pv 10) (pa_cons (pe_op op_cat (pv 4) (pe_lst (pa_cons pe_non pa_nil))) pa_nil)))) (pg_tup (by rfl) (pgs_cons (pg_name (i := 11) sc.nd rfl (Or.inr rfl)) (pgs_cons (pg_name (i := 7) sc.nd rfl (Or.inl rfl)) pgs_nil))))
    (pss_cons (ps_if (pt_cmpR (op_neD hr.units) (lamcall_told (q := qOr) FT gT bT N TB hm hu1 hr (fun A outer s H E f c2 hr2 => (pe_callS dNF.ok hr2 (by rfl) dNF.gl dNF.kp dNF.bi (fun σ => passAt (takes_of rfl rfl rfl rfl) σ) (pa_cons (pv 1) (pa_cons (pv 11) pa_nil)))) (show lamSB (defScope sOddRight) _ = true by decide +kernel)) (pe_tup (pa_cons pe_non (pa_cons (pe_tup (pa_cons pe_str (pa_cons (pv 7) (pa_cons pe_str pa_nil)))) pa_nil))) (nomark _))
      (pss_one (ps_ret pe_bl))
      pss_nil)
    (pss_cons (ps_set (i := 12) sc.nd rfl (.inr rfl) (pe_op op_cat (pv 10) (pe_lst (pa_cons (pe_call dP.ok hr3 (by rfl) dP.gl dP.kp dP.bi .nil pass0 (pa_cons (pv 0) (pa_cons (pv 10) pa_nil))) pa_nil))))
    (pss_cons (ps_if (pt_cmpR (op_neD hr.units) (lamcall_told (q := qOr) FT gT bT N TB hm hu1 hr (fun A outer s H E f c2 hr2 => (pe_callS dNF.ok hr2 (by rfl) dNF.gl dNF.kp dNF.bi (fun σ => passAt (takes_of rfl rfl rfl rfl) σ) (pa_cons (pv 1) (pa_cons (pv 12) pa_nil)))) (show lamSB (defScope sOddRight) _ = true by decide +kernel)) (pe_tup (pa_cons pe_non (pa_cons (pe_tup (pa_cons pe_str (pa_cons (pe_callB call_len_seq (by rfl) z_len boot_len (pa_cons (pv 10) pa_nil)) (pa_cons pe_str pa_nil)))) pa_nil))) (nomark _))
      (pss_one (ps_ret pe_bl))
      pss_nil)
    (pss_cons (ps_set (i := 13) sc.nd rfl (.inr rfl) (pe_slice sl_list (pv 3) po_none (po_some (pe_callB (call_max2 rfl) (by rfl) z_max (by decide +kernel) (pa_cons pe_int (pa_cons (pe_op op_sub (pe_call dCn.ok hr1 (by rfl) dCn.gl dCn.kp dCn.bi .nil pass0 (pa_cons (pv 2) pa_nil)) pe_int) pa_nil))))))
    (pss_cons (ps_set (i := 14) sc.nd rfl (.inl rfl) (pe_ifExp (pt_cmpR op_gt (pe_call dCn.ok hr1 (by rfl) dCn.gl dCn.kp dCn.bi .nil pass0 (pa_cons (pv 2) pa_nil)) pe_int (nomark _)) (pe_tup (pa_cons pe_non (pa_cons (pe_tup (pa_cons pe_str (pa_cons (pe_callB call_len_seq (by rfl) z_len boot_len (pa_cons (pv 13) pa_nil)) (pa_cons pe_str pa_nil)))) pa_nil))) (pe_tup (pa_cons (pe_callTy call_tuple_of (by rfl) z_tuple (by decide +kernel) (pa_cons (pv 2) pa_nil)) (pa_cons pe_non pa_nil)))))
    (pss_one (ps_ret (pe_cmpR (op_eqD hr.units) (lamcall_told (q := qOr) FT gT bT N TB hm hu1 hr (fun A outer s H E f c2 hr2 => (pe_callS dNF.ok hr2 (by rfl) dNF.gl dNF.kp dNF.bi (fun σ => passAt (takes_of rfl rfl rfl rfl) σ) (pa_cons (pv 1) (pa_cons (pv 13) pa_nil)))) (show lamSB (defScope sOddRight) _ = true by decide +kernel)) (pv 14) (nomark _))))))))))))))))))))))), ?_⟩
    refine seq_things fun H2 G L s2 hG2 hL2 => ?_
    have I0 : OrI CP TL p l x a b G L y ns H H2 := ⟨hp.same s2, hx.sm s2, s2 _ _ ha, s2 _ _ hb, hL2, hG2, tabs_same tb s2, .ext (ext_same s2)⟩
    obtain ⟨dx, tx, cc, ex, etx, ly, ecc⟩ := id hx
    have ccy := cnt_top ecc
    rw [Nat.zero_add] at ccy
    have ccn : cc ≤ ns.length := by omega
    refine seq_row_to 38 rfl rfl I0.ha I0.hb ecc ccn ly fun H3 R s3 nR hR => ?_
    have I3 := I0.same s3
    have ry : RowOk (rowL y ns) := row_ok nm ly
    have rok := ry.take 38
    have r38 : ((rowL y ns).take 38).length ≤ 38 := List.length_take_le _ _
    generalize (rowL y ns).take 38 = r at hR rok r38
    refine seq_odd (i1 := 6) (i2 := 7) (ys := thL G) rfl rfl (fun R0 h => ⟨_, rfl, h H3 L (Same.refl _) I3.hL (hand_ne I3.hp I3.hL fun i r t z => by cases (HO.lst.inj z))⟩) I3.hp hR (I3.hp.neq _ hR) (by rw [len_vals]; omega) (by show 0 < 5; decide) (by show 5 ≤ 100; decide) fun H4 Z k v k4 h4 nZ hk hv hZ => ?_
    refine state_eq (σ' := [some (.ref p), some (.ref x), some (.ref a), some (.ref b), some (.ref L), some (.ref R), some (.ref Z), some (.int (k : Int)), none, none, none, none, none, none, none]) rfl ?_
    have I4 := I3.kept k4 h4
    have hR4 := kept_lst I3.hp k4 hR vals_head
    have ov := th_odd hv
    have ko := th_kind I4.hG hv
    rw [len_vals] at hk
    have nfo := nf_odd (v := v) rok (by omega) hk ov
    have nsZ : ∀ {H5 : Hp}, ExtN H4 H5 → Ns H5 (.ref Z) (oddL (vals r) k v) true := fun e5 => ns_odd (lst_ext hZ e5) (by omega) hk (th_kind (e5 _ _ I4.hG fun ps z => by cases z) hv)
    have nsR : ∀ {H5 : Hp}, ExtN H4 H5 → Ns H5 (.ref R) (vals r) true := fun e5 => ns_row (lst_ext hR4 e5) rok
    have n41 : ∀ {H5 : Hp} {M : Addr}, H5 M = some (.lst (vals (List.replicate 41 none))) → Ns H5 (.ref M) (vals (List.replicate 41 none)) true := fun e => .seq (.inl e) (by rw [len_vals, List.length_replicate]; decide) vals_odd
    have nf41 : nf (vals (List.replicate 41 none)) true = some (0, ("names" : Str)) := by unfold nf; rw [if_neg]; rw [len_vals, List.length_replicate]; exact fun z => absurd z.2 (by decide)
    refine seq_told (i := k) (by show 4 ≤ 1000; decide) (by decide +kernel) I4.tb (fun H5 E R0 e5 f => ⟨_, rfl, _, rfl, fd_fails (I4.hx.same e5) (nsZ e5) nfo f⟩) (fun _ _ _ h => ⟨_, rfl, h⟩) fun H5 e5 t5 => ?_
    refine seq_told (i := k) (by show 4 ≤ 1000; decide) (by decide +kernel) t5 (fun H6 E R0 e6 f => ⟨_, rfl, rep_none (fun H1 R s h => h) (by decide) (by decide) (by decide) fun H7 M s7 nM hM => ro_first ((nsZ (e5.trans e6)).same s7) (n41 hM) nfo (f.same s7)⟩) (fun _ _ _ h => ⟨_, rfl, h⟩) fun H6 e6 t6 => ?_
    have e46 := e5.trans e6
    refine seq_told (i := k) (by show 4 ≤ 1000; decide) (by decide +kernel) t6 (fun H7 E R0 e7 f => ⟨_, rfl, R, _, rfl, .inl ⟨SqL.of (lst_ext hR4 (e46.trans e7)), fun t nt => ⟨_, rfl, ro_second (.seq (.inr upd_same) (by rw [len_vals]; omega) vals_odd) ((nsZ (e46.trans e7)).same (same_upd nt)) (nf_row rok) nfo (f.same (same_upd nt))⟩⟩⟩) (fun _ _ _ h => ⟨_, rfl, h⟩) fun H7 e7 t7 => ?_
    have e47 := e46.trans e7
    refine seq_told (i := 0) (by show 5 ≤ 1000; decide) (by decide +kernel) t7 (fun H8 E R0 e8 f => ⟨_, rfl, ro_second (nsR (e47.trans e8)) (.bad (.str _ (by show 2 ≤ 1000; decide) (by decide +kernel)) (by decide)) (nf_row rok) rfl f⟩) (fun _ _ _ h => h) fun H8 e8 t8 => ?_
    have e48 := e47.trans e8
    refine seq_told (i := 0) (by show 5 ≤ 1000; decide) (by decide +kernel) t8 (fun H9 E R0 e9 f => ⟨_, rfl, rep_none (fun H1 R s h => h) (by decide) (by decide) (by decide) fun H7 M s7 nM hM => fd_fails ((I4.hx.same (e48.trans e9)).sm s7) (n41 hM) nf41 (f.same s7)⟩) (fun _ _ _ h => h) fun H9 e9 t9 => ?_
    have I9 := I4.ext (e48.trans e9) t9
    have hR9 := lst_ext hR4 (e48.trans e9)
    obtain ⟨i1, z1, hz1, cz1, h1is, hkey⟩ := long_key (CP := CP) (CN := CN) (x := x) nm nl ly
    refine asg_told (i := i1) (j := 8) hz1 cz1 I9.tb (fun H2 E R0 e2 f => ⟨_, rfl, long_made rfl rfl (lst_ext I9.ha e2) (lst_ext I9.hb e2) ly (by omega) fun H12 M s12 hM => hkey _ _ _ _ ((I9.hx.same e2).sm s12) hM (f.same s12)⟩) fun H11 T e11 t11 dT => ?_
    have I11 := I9.ext e11 t11
    have hR11 := lst_ext hR9 e11
    refine seq_and3 (b1 := decide ((3 : Int) ≤ (y.length : Int))) (b2 := decide ((y.length : Int) < 40)) (fun R h => tst_len rfl I11.ha ⟨_, _, rfl, rfl, _, rfl, h⟩) (fun R h => tst_len rfl I11.ha ⟨_, _, rfl, rfl, _, rfl, h⟩) (fun g1 g2 R h => ?_) fun H12 s12 => ?_
    · obtain ⟨rfl, rfl⟩ := h1is (by have := of_decide_eq_true g1; omega) (by have := of_decide_eq_true g2; omega)
      exact ne_nm rfl dT hz1 cz1 (fun Q h => op_len rfl I11.ha ⟨_, _, rfl, rfl, h⟩) h
    refine state_eq (σ' := [some (.ref p), some (.ref x), some (.ref a), some (.ref b), some (.ref L), some (.ref R), some (.ref Z), some (.int (k : Int)), some (.ref T), none, none, none, none, none, none]) rfl ?_
    have I12 := I11.same s12
    refine seq_row_from 1 rfl rfl I12.ha I12.hb ecc ccn ly fun H13 L9 s13 n9 h9 => ?_
    have I13 := I12.same s13
    have r9 : RowOk ((rowL y ns).drop 1) := ry.drop 1
    have l9 : ((rowL y ns).drop 1).length = y.length - 1 := by rw [List.length_drop]; unfold rowL; rw [List.length_map]
    generalize (rowL y ns).drop 1 = r1 at h9 r9 l9
    refine seq_and2 (T := TL) (b1 := decide ((0 : Int) < (y.length : Int))) (fun R h => tst_len rfl I13.ha ⟨_, _, rfl, rfl, _, rfl, h⟩) (fun g1 R h => ?_) I13.tb fun H14 e14 t14 => ?_
    · have g1 : 0 < y.length := by have := of_decide_eq_true g1; omega
      refine ne_told (i := r1.length) (by show 6 ≤ 1000; decide) (by decide +kernel) I13.tb (fun H5 E R0 e5 f => ⟨_, rfl, _, rfl, ?_⟩) (fun H2 e2 Q h => len_at rfl (lst_ext h9 e2) h) h
      have z := fd_length (CN := CN) (R := R0) (E := E) (I13.hx.same e5) (ns_row (lst_ext h9 e5) r9) (nf_row r9) (by rw [len_vals]; omega)
      rw [len_vals] at z
      exact z f
    have I14 := I13.ext e14 t14
    refine seq_names_to 38 rfl I14.hb fun H15 S s15 n15 hS => ?_
    have I15 := I14.same s15
    have nm38 : NmOk (ns.take 38) := ⟨nm.nd.sublist (List.take_sublist _ _), fun n hn => nm.le n (List.mem_of_mem_take hn)⟩
    have l38 : (ns.take 38).length = 38 := by rw [List.length_take, nl]; rfl
    generalize ns.take 38 = ms at hS nm38 l38
    have hnm : ∀ (r : Addr), (nmL ms).head? ≠ some (.ref r) := fun r => vals_head r
    refine seq_odd (i1 := 11) (i2 := 7) (xs := nmL ms) (ys := thL G ++ [.non]) rfl rfl (fun R0 h => things_more rfl I15.hL I15.hp h) I15.hp hS (I15.hp.neq (ms.map some) hS) (by rw [nmL_len]; omega) (by show 0 < 6; decide) (by show 6 ≤ 100; decide) fun H16 B k2 v2 k16 h16 nB hk2 hv2 hB => ?_
    refine state_eq (σ' := [some (.ref p), some (.ref x), some (.ref a), some (.ref b), some (.ref L), some (.ref R), some (.ref Z), some (.int (k2 : Int)), some (.ref T), some (.ref L9), some (.ref S), some (.ref B), none, none, none]) rfl ?_
    have I16 := I15.kept k16 h16
    have hS16 := kept_lst I15.hp k16 hS hnm
    rw [nmL_len] at hk2
    have bad2 : nameV v2 = false := by
      rcases List.mem_append.mp hv2 with h | h
      · exact (th_odd h).2
      · rw [List.mem_singleton.mp h]
        rfl
    have ko2 : ∀ {H5 : Hp}, ExtN H16 H5 → ∀ w ∈ oddL (nmL ms) k2 v2, ∃ t, Odd H5 w t := fun e5 w hw => by
      rcases oddL_mem hw with rfl | hw
      · rcases List.mem_append.mp hv2 with h | h
        · exact th_kind (e5 _ _ I16.hG fun ps z => by cases z) h
        · rw [List.mem_singleton.mp h]
          exact ⟨_, .non⟩
      · exact vals_odd w hw
    have ufo := uf_odd (v := v2) nm38 (by omega) hk2 bad2
    have lo2 : (oddL (nmL ms) k2 v2).length ≤ 1000 := by rw [oddL_len (by rw [nmL_len]; exact hk2), nmL_len]; omega
    refine seq_told (i := k2) (by show 4 ≤ 1000; decide) (by decide +kernel) I16.tb (fun H5 E R0 e5 f => ⟨_, rfl, _, rfl, nf_fails (I16.hx.same e5) (lst_ext hB e5) lo2 (ko2 e5) ufo f⟩) (fun _ _ _ h => ⟨_, rfl, h⟩) fun H17 e17 t17 => ?_
    have I17 := I16.ext e17 t17
    have hS17 := lst_ext hS16 e17
    refine seq_twice (j := 12) rfl rfl I17.hp hS17 (by omega) (by omega) fun H19 W n3 k19 h19 hn3 hW hS19 => ?_
    have I19 := I17.kept k19 h19
    have uft := uf_twice nm38 (by omega) hn3
    have ltw : (nmL ms ++ [V.int (n3 : Int)]).length ≤ 1000 := by rw [List.length_append, nmL_len]; show ms.length + 1 ≤ 1000; omega
    refine seq_told (i := ms.length) (by show 6 ≤ 1000; decide) (by decide +kernel) I19.tb (fun H5 E R0 e5 f => ⟨_, rfl, _, rfl, nf_fails (I19.hx.same e5) (lst_ext hW e5) ltw (fun w hw => by
      rcases List.mem_append.mp hw with hw | hw
      · exact vals_odd w hw
      · rw [List.mem_singleton.mp hw]
        exact ⟨_, .int _⟩) uft f⟩) (fun H2 e2 Q h => len_nm rfl (lst_ext hS19 e2) h) fun H20 e20 t20 => ?_
    have I20 := I19.ext e20 t20
    refine seq_few (i := 13) rfl rfl I20.ha I20.hb ecc ly fun H21 S2 s21 hS2 => ?_
    have I21 := I20.same s21
    have nmf : NmOk (ns.take (cc - 1)) := ⟨nm.nd.sublist (List.take_sublist _ _), fun n hn => nm.le n (List.mem_of_mem_take hn)⟩
    have lf : (ns.take (cc - 1)).length = cc - 1 := by rw [List.length_take]; omega
    generalize ns.take (cc - 1) = fs at hS2 nmf lf
    refine seq_due (i := 14) rfl rfl I21.ha hS2 (fun _ => lf) ecc ly fun H22 T2 s22 d22 => ?_
    refine state_eq (σ' := [some (.ref p), some (.ref x), some (.ref a), some (.ref b), some (.ref L), some (.ref R), some (.ref Z), some (.int (k2 : Int)), some (.ref T), some (.ref L9), some (.ref S), some (.ref B), some (.ref W), some (.ref S2), some (.ref T2)]) rfl ?_
    have I22 := I21.same s22
    refine ret_of ?_
    exact few_right (j := 13) (i := 14) I22.tb rfl rfl rfl I22.hx (s22 _ _ hS2) nmf (by omega) lf ecc d22 fun H' x t => q H' (I22.k.trans (.ext x)) t (hand_ext I22.hp x)
end
end K27

/-! what the law needs -/
namespace K27
open PySem PySem.Spec PyProof.Rows L2 LamX TaX GrdX
theorem rowL_at {y : List (Option Nat)} {ns : List Nat} {i : Nat} : (rowL y ns)[i]? = (y[i]?).map fun o => o.map fun k => ns.getD k 0 := by
  unfold rowL
  rw [List.getElem?_map]
theorem passX0 {X : Cx} : Passes (L2.CX X.prog X.w) X E0 := fun _ _ _ _ _ _ _ h => by
  obtain ⟨_, _, _, _, _, _, _, _, _, _, _, _, e⟩ := h
  exact e.elim
structure PatMk (P : Program) (w : World) (K : PySem.W.Frag) (mg : Str → Option Value) (base : Heap) (CP CE fI : Addr) (fd : FuncData) : Prop where
  mks : Mk K CP fI
  gl : mg "Pattern" = some (.ref CP)
  ok : FnOk P w K mg base (L2.CX P w) 3 fI fd ["self", "entries"] (spPat CP CE)
  bi : Binds K fd ["self", "entries"] []
theorem same_ins {H : Hp} {x dx C : Addr} {fs : List (Str × V)} (nx : H x = none) (nd : H dx = none) (ne : dx ≠ x) : Same H (upd (upd H dx (.own x)) x (.ins C dx fs)) := fun b o e => by
  rw [upd_ne (ne_of_none e nx), upd_ne (ne_of_none e nd)]
  exact e
/-- a pattern is made of numbered entries -/
theorem pat_make {CP CE : Addr} {H : Hp} {a : Addr} {r : List (Option Nat)} {Q : VK} (ha : Sq H a (vals r)) (hp : Pt r) (hl : r.length ≤ 40) (q : ∀ (H' : Hp) (z : Addr), Same H H' → PatAt CP H' z r → Q (.ref z) H') :
    ∀ x dx, H x = none → H dx = none → dx ≠ x → spPat CP CE (.ref x :: [.ref a]) (upd (upd H dx (.own x)) x (.ins CP dx [])) (fun v H2 => v = .non ∧ Q (.ref x) H2) E0 := fun x dx nx nd ne => by
  obtain ⟨c, hc⟩ := hp.cnt
  have s0 := same_ins (C := CP) (fs := []) nx nd ne
  refine ⟨x, dx, .ref a, vals r, cnt 0 (vals r), rfl, upd_same, .seq (ha.same s0) (by rw [List.length_map]; exact hl) fl_vals, fun c' ec H' t h1 h2 k => ⟨rfl, ?_⟩, fun e => by rw [hc] at e; cases e⟩
  have s1 : Same H H' := fun y o e => k y o (s0 _ _ e) (ne_of_none e nx)
  exact q H' x s1 ⟨dx, t, c', h1, h2, hl, ec⟩
theorem make_pat {CP CE a : Addr} {i : Nat} {σ : L2.St} {H : Hp} {r : List (Option Nat)} {Q : VK} (e : σ[i]? = some (some (.ref a))) (ha : H a = some (.lst (vals r))) (hp : Pt r) (hl : r.length ≤ 40) (q : ∀ (H' : Hp) (z : Addr), Same H H' → PatAt CP H' z r → Q (.ref z) H') :
    tMake CP (spPat CP CE) [] E0 (tCons (tVar i) tNil) σ H Q := ⟨_, e, show ∀ x dx, H x = none → H dx = none → dx ≠ x → spPat CP CE (.ref x :: [.ref a]) (upd (upd H dx (.own x)) x (.ins CP dx [])) (fun v H2 => v = .non ∧ Q (.ref x) H2) E0 from pat_make (.inl ha) hp hl q⟩
/-- a row of names shows the pattern that it was made of -/
theorem num_row {y : List (Option Nat)} {ns : List Nat} {c : Nat} (ec : cnt 0 (vals y) = some c) (hc : c ≤ ns.length) (nd : ns.Nodup) : num (rowL y ns) = y := by
  have py := pt_of_cnt ec
  have kl := py.classes ec
  have at_ : ∀ {i x : Nat}, (rowL y ns)[i]? = some (some x) ↔ ∃ k, y[i]? = some (some k) ∧ ns[k]? = some x := fun {i x} => by
    rw [rowL_at]
    constructor
    · intro h
      obtain ⟨o, e1, e2⟩ := Option.map_eq_some_iff.mp h
      cases o with
      | none => cases e2
      | some k =>
        have hk : k < ns.length := Nat.lt_of_lt_of_le ((kl k).mp ⟨i, e1⟩) hc
        have e2 : ns.getD k 0 = x := Option.some.inj e2
        refine ⟨k, e1, ?_⟩
        rw [List.getD_eq_getElem?_getD, List.getElem?_eq_getElem hk] at e2
        rw [List.getElem?_eq_getElem hk]
        exact congrArg some e2
    · rintro ⟨k, e1, e2⟩
      rw [e1]
      show some (some (ns.getD k 0)) = _
      rw [List.getD_eq_getElem?_getD, e2]
      rfl
  refine (num_ext (m := y) ?_ fun i j => ?_).trans py
  · show (rowL y ns).map Option.isSome = y.map Option.isSome
    unfold rowL
    rw [List.map_map]
    refine List.map_congr_left fun o _ => ?_
    cases o <;> rfl
  · constructor
    · rintro ⟨x, h1, h2⟩
      obtain ⟨k, a1, a2⟩ := at_.mp h1
      obtain ⟨m, b1, b2⟩ := at_.mp h2
      obtain rfl := nodup_get nd a2 b2
      exact ⟨k, a1, b1⟩
    · rintro ⟨k, h1, h2⟩
      have hk : k < ns.length := Nat.lt_of_lt_of_le ((kl k).mp ⟨i, h1⟩) hc
      have e := List.getElem?_eq_getElem hk
      exact ⟨_, at_.mpr ⟨k, h1, e⟩, at_.mpr ⟨k, h2, e⟩⟩
theorem cons_of {t : TE} {ta : TA} {σ : L2.St} {H : Hp} {Q : List V → Hp → Prop} (h : t σ H fun x H1 => ta σ H1 fun xs H2 => Q (x :: xs) H2) : tCons t ta σ H Q := h
theorem seq_par3 {i j l : Nat} {ta : TA} {U : TS} {D : Ends} {σ : L2.St} {H : Hp} (h : ta σ H fun vs H1 => ∃ u v w, vs = [u, v, w] ∧ U D (((σ.set i (some u)).set j (some v)).set l (some w)) H1) : tSeq (tPar3 i j l ta) U D σ H := h
theorem seq_for {K : PySem.W.Frag} {ta : TA} {g : TG} {t U : TS} {D : Ends} {σ : L2.St} {H : Hp} (h : ta σ H fun xs H1 => xs.length ≤ sizeLine ∧ ∀ p, H1 p = none → tSeq (tFor (iList K fun σ H Q => Q (.ref p) H) g t) U D σ (upd H1 p (.lst xs))) : tSeq (tFor (iList K (tLst ta)) g t) U D σ H := h
def Ts (H0 : Hp) (t : TT) (σ : L2.St) (b : Bool) : Prop := ∀ H1, Same H0 H1 → ∀ Q : Bool → Hp → Prop, (∀ H', Same H1 H' → Q b H') → t σ H1 Q
section
variable {K : PySem.W.Frag} {CP CN : Addr} {H0 : Hp} {σ : L2.St}
theorem ts_or {t u : TT} {b : Bool} (h : Ts H0 t σ false) (g : Ts H0 u σ b) : Ts H0 (tOr t u) σ b := fun H1 s1 Q q => h H1 s1 _ fun H2 s2 => iteF (g H2 (s1.trans s2) Q fun H3 s3 => q H3 (s2.trans s3))
theorem seq_not {t : TT} {a u : TS} {D : Ends} {H : Hp} (h : Ts H0 t σ false) (s : Same H0 H) (g : ∀ H', Same H0 H' → u D σ H') : tSeq (tIfS t a tNext) u D σ H := h H s _ fun H2 s2 => iteF (g H2 (s.trans s2))
/-- the names handed, in a pattern's order -/
theorem nmV_row {y : List (Option Nat)} {ns hs : List Nat} {c k : Nat} (ec : cnt 0 (vals y) = some c) (hh : hs = ns.take k) (ck : c ≤ k) (kn : k ≤ ns.length) : y.map (nmV (nmL hs)) = vals (rowL y ns) := by
  show _ = (y.map fun o => o.map fun k => ns.getD k 0).map optV
  rw [List.map_map]
  refine List.map_congr_left fun o ho => ?_
  cases o with
  | none => rfl
  | some j =>
    obtain ⟨i, hi⟩ := List.getElem?_of_mem ho
    have hj : j < c := ((pt_of_cnt ec).classes ec j).mp ⟨i, hi⟩
    have hn : j < ns.length := by omega
    show (nmL hs).getD j .non = V.int ((ns.getD j 0 : Nat) : Int)
    rw [List.getD_eq_getElem?_getD, nmL_get, hh, List.getElem?_take, if_pos (by omega), List.getD_eq_getElem?_getD, List.getElem?_eq_getElem hn]
    rfl
theorem ts_handed {x h r : Addr} {y : List (Option Nat)} {ns hs : List Nat} {c k : Nat} (ex : σ[4]? = some (some (.ref x))) (eh : σ[9]? = some (some (.ref h))) (er : σ[7]? = some (some (.ref r))) (hx : PatAt CP H0 x y) (hh : H0 h = some (.lst (nmL hs))) (hr : H0 r = some (.lst (vals (rowL y ns)))) (nm : NmOk ns) (ec : cnt 0 (vals y) = some c) (eq : hs = ns.take k) (ck : c ≤ k) (kn : k ≤ ns.length) (k40 : k ≤ 40) (ly : y.length ≤ 40) :
    Ts H0 (tTest (tOp (rNeD K) (tCall (spNF CP CN) [] E0 (tCons (tVar 4) (tCons (tVar 9) tNil))) (tCB (rTupOf K) (tCons (tVar 7) tNil)))) σ false := fun H1 s1 Q q => by
  have lh : hs.length = k := by rw [eq, List.length_take]; omega
  have nmh : NmOk hs := eq ▸ ⟨nm.nd.sublist (List.take_sublist _ _), fun n hn => nm.le n (List.mem_of_mem_take hn)⟩
  have uf0 := uf_nm nmh (by omega)
  refine ⟨_, ex, _, eh, x, h, y, nmL hs, c, rfl, hx.sm s1, ec, s1 _ _ hh, by rw [nmL_len]; omega, vals_odd, fun i z e => (by rw [uf0] at e; cases e), fun _ lt => absurd lt (by rw [nmL_len]; omega), fun _ _ H2 t s2 ht => ?_⟩
  refine ⟨_, er, r, _, rfl, .inl ⟨SqL.of ((s1.trans s2) _ _ hr), fun t2 nt2 => ?_⟩⟩
  have s3 := same_upd (o := .tup (vals (rowL y ns))) nt2
  rw [nmV_row ec eq ck kn] at ht
  have d1 : Dt Any (upd H2 t2 (.tup (vals (rowL y ns)))) (.ref t) (.tuple ((rowL y ns).map datO)) := .tup trivial (s3 _ _ ht) (dt_vals _)
  have d2 : Dt Any (upd H2 t2 (.tup (vals (rowL y ns)))) (.ref t2) (.tuple ((rowL y ns).map datO)) := .tup trivial upd_same (dt_vals _)
  have sh := shaped_of d1.lay (by
    show PyData.depthAll ((rowL y ns).map datO) + 1 ≤ 64
    have : PyData.depthAll ((rowL y ns).map datO) ≤ 8 := dep_all fun d hd => by obtain ⟨o, _, rfl⟩ := List.mem_map.mp hd; cases o <;> exact Nat.zero_le _
    omega)
  refine ⟨_, _, d1.dp, d2.dp, sh, sh, _, rfl, ?_⟩
  rw [SeqAt.eqv_refl _ d1.lay]
  exact q _ (s2.trans s3)
theorem ts_names {a h : Addr} {ns : List Nat} {k : Nat} (eh : σ[9]? = some (some (.ref h))) (ea : σ[5]? = some (some (.ref a))) (ek : σ[8]? = some (some (.int (k : Int)))) (hh : H0 h = some (.lst (nmL (ns.take k)))) (ha : H0 a = some (.lst (nmL ns))) :
    Ts H0 (tTest (tOp (rNeD K) (tVar 9) (tSl (rSlL K) (tVar 5) tNoPart (tPart (tVar 8))))) σ false := fun H1 s1 Q q => by
  refine ⟨_, eh, _, ea, _, ek, _, rfl, a, _, rfl, SqL.of (s1 _ _ ha), fun t nt => ?_⟩
  rw [cut_upto, nmL_take] at *
  have s2 := same_upd (o := .lst (nmL (ns.take k))) nt
  have d1 : Dt Any (upd H1 t (.lst (nmL (ns.take k)))) (.ref h) (.list (((ns.take k).map some).map datO)) := .lst trivial ((s1.trans s2) _ _ hh) (dt_vals _)
  have d2 : Dt Any (upd H1 t (.lst (nmL (ns.take k)))) (.ref t) (.list (((ns.take k).map some).map datO)) := .lst trivial upd_same (dt_vals _)
  have sh := shaped_vals ((ns.take k).map some)
  refine ⟨_, _, d1.dp, d2.dp, sh, sh, _, rfl, ?_⟩
  rw [SeqAt.eqv_refl _ d1.lay]
  exact q _ s2
/-- a value that is a row of names, told wherever the heap has only grown -/
def Rv (H0 : Hp) (te : TE) (σ : L2.St) (r : List (Option Nat)) : Prop := ∀ H1, Same H0 H1 → ∀ Q : VK, (∀ v H', Same H1 H' → Ns H' v (vals r) true → Q v H') → te σ H1 Q
theorem rv_var {i : Nat} {a : Addr} {r : List (Option Nat)} (e : σ[i]? = some (some (.ref a))) (h : H0 a = some (.lst (vals r))) (ok : RowOk r) : Rv H0 (tVar i) σ r := fun H1 s1 Q q => ⟨_, e, q _ H1 (Same.refl _) (ns_row (s1 _ _ h) ok)⟩
theorem rv_tup {i : Nat} {a : Addr} {r : List (Option Nat)} (e : σ[i]? = some (some (.ref a))) (h : H0 a = some (.lst (vals r))) (ok : RowOk r) : Rv H0 (tCB (rTupOf K) (tCons (tVar i) tNil)) σ r := fun H1 s1 Q q =>
  ⟨_, e, a, _, rfl, .inl ⟨SqL.of (s1 _ _ h), fun t nt => q _ _ (same_upd nt) (.seq (.inr upd_same) (by rw [len_vals]; have := ok.len; omega) vals_odd)⟩⟩
theorem fd_call {x : Addr} {i : Nat} {te : TE} {y r : List (Option Nat)} {H : Hp} {Q : VK} (ex : σ[i]? = some (some (.ref x))) (hx : PatAt CP H0 x y) (hr : Rv H0 te σ r) (ok : RowOk r) (len : r.length = y.length) (s : Same H0 H) (q : ∀ H', Same H H' → Q (optV (partAt 0 y (num r))) H') :
    tCall (spFD CP CN) [] E0 (tCons (tVar i) (tCons te tNil)) σ H Q := by
  have nf0 : nf (vals r) true = none := nf_row ok
  refine ⟨_, ex, hr H s _ fun v H1 s1 n => ?_⟩
  refine ⟨x, v, y, vals r, true, rfl, hx.sm (s.trans s1), n, fun i z e => (by rw [nf0] at e; cases e), fun _ ne => absurd (by rw [len_vals]; exact len) ne, fun l _ e _ H' s' => ?_⟩
  rw [← vals_inj e]
  exact q H' (s1.trans s')
theorem ts_fd {x : Addr} {te : TE} {y r : List (Option Nat)} (ex : σ[4]? = some (some (.ref x))) (hx : PatAt CP H0 x y) (hr : Rv H0 te σ r) (ok : RowOk r) (len : r.length = y.length) (e : num r = y) :
    Ts H0 (tTest (tOp (fun x y H Q => y = V.non ∧ Q (V.bl !decide (x = V.non)) H) (tCall (spFD CP CN) [] E0 (tCons (tVar 4) (tCons te tNil))) (tC V.non))) σ false := fun H1 s1 Q q =>
  fd_call ex hx hr ok len s1 fun H2 s2 => ⟨rfl, _, rfl, by
    rw [e, part_self]
    exact q H2 s2⟩
/-- spare -/
theorem seq_spare {u : TS} {D : Ends} {p l e : Addr} {y : List (Option Nat)} {c i : Nat} {H : Hp} (ep : σ[1]? = some (some (.ref p))) (ee : σ[3]? = some (some (.ref e))) (hp : Hand p l H) (he : H e = some (.lst (vals y))) (ec : cnt 0 (vals y) = some c) (ly : y.length ≤ 40)
    (q : ∀ (H' : Hp) (k : Nat), Kept p H H' → Hand p l H' → c ≤ k → k ≤ 40 → u D (σ.set i (some (.int (k : Int)))) H') :
    tSeq (tAsg (tOp (rI0 fun i j => V.int (i + j)) (tCall spCnt [] E0 (tCons (tVar 3) tNil)) (tCall spDr [] E0 (tCons (tVar 1) (tCons (tOp (rI0 fun i j => V.int (i - j)) (tC (V.int 41)) (tCall spCnt [] E0 (tCons (tVar 3) tNil))) tNil)))) (gName i)) u D σ H := by
  have ct := cnt_top ec
  rw [Nat.zero_add] at ct
  refine ⟨_, ee, e, y, c, rfl, he, ec, ly, fun H1 s1 => ⟨_, ep, _, ee, e, y, c, rfl, s1 _ _ he, ec, ly, fun H2 s2 => ⟨_, _, rfl, rfl, p, l, (41 : Int) - (c : Int), rfl, (hp.same s1).same s2, by omega, ?_, fun d H3 d0 d1 k3 h3 => ⟨_, _, rfl, rfl, ?_⟩⟩⟩⟩
  · exact Nat.lt_of_le_of_lt (show ((41 : Int) - (c : Int)).natAbs ≤ 41 by omega) (by decide +kernel)
  · obtain ⟨n, rfl⟩ := Int.eq_ofNat_of_zero_le d0
    have z := q H3 (c + n) ((Kept.same (s1.trans s2)).trans k3) h3 (by omega) (by omega)
    rw [Int.natCast_add] at z
    exact z
end
structure LI (CP : Addr) (TL : List (Addr × Str)) (p l e x a b : Addr) (y : List (Option Nat)) (ns ms : List Nat) (H : Hp) : Prop where
  hp : Hand p l H
  he : H e = some (.lst (vals y))
  hx : PatAt CP H x y
  ha : H a = some (.lst (nmL ns))
  hb : H b = some (.lst (nmL ms))
  tb : Tabs TL H
section
variable {CP p l e x a b : Addr} {TL : List (Addr × Str)} {y : List (Option Nat)} {ns ms : List Nat} {H H1 : Hp}
theorem LI.ext (I : LI CP TL p l e x a b y ns ms H) (s : ExtN H H1) (t : Tabs TL H1) : LI CP TL p l e x a b y ns ms H1 := ⟨hand_ext I.hp s, lst_ext I.he s, I.hx.same s, lst_ext I.ha s, lst_ext I.hb s, t⟩
theorem LI.same (I : LI CP TL p l e x a b y ns ms H) (s : Same H H1) : LI CP TL p l e x a b y ns ms H1 := I.ext (ext_same s) (tabs_same I.tb s)
theorem keptT_lst {r : Addr} {q : List (Option Nat)} (hp : Hand p l H) (k : KeptT p H H1) (h : H r = some (.lst (vals q))) : H1 r = some (.lst (vals q)) := k _ _ (hp.neq q h) h fun ps z => by cases z
theorem keptT_pat (hp : Hand p l H) (k : KeptT p H H1) (hx : PatAt CP H x y) : PatAt CP H1 x y := by
  obtain ⟨dx, t, c, e1, e2, e3, e4⟩ := hx
  exact ⟨dx, t, c, k _ _ (hand_ne hp e1 fun i r t z => by unfold handO at z; cases z) e1 (fun ps z => by cases z), k _ _ (hand_ne hp e2 fun i r t z => by unfold handO at z; cases z) e2 (fun ps z => by cases z), e3, e4⟩
theorem LI.kept (I : LI CP TL p l e x a b y ns ms H) (k : Kept p H H1) (h : Hand p l H1) : LI CP TL p l e x a b y ns ms H1 :=
  ⟨h, keptT_lst I.hp (.kept k) I.he, keptT_pat I.hp (.kept k) I.hx, keptT_lst (q := ns.map some) I.hp (.kept k) I.ha, keptT_lst (q := ms.map some) I.hp (.kept k) I.hb, tabs_kept I.tb I.hp k⟩
end
/-- two rows of names, side by side -/
def PairV (v : V) (H : Hp) : Prop := ∃ (t a b : Addr) (q r : List (Option Nat)), v = .ref t ∧ H t = some (.tup [.ref a, .ref b]) ∧ H a = some (.lst (vals q)) ∧ H b = some (.lst (vals r)) ∧ RowOk q ∧ RowOk r
theorem PairV.ext {v : V} {H H1 : Hp} (h : PairV v H) (s : ExtN H H1) : PairV v H1 := by
  obtain ⟨t, a, b, q, r, rfl, h1, h2, h3, h4, h5⟩ := h
  exact ⟨t, a, b, q, r, rfl, s _ _ h1 (fun ps z => by cases z), lst_ext h2 s, lst_ext h3 s, h4, h5⟩
/-- a row that stands in a slot -/
def RowAt (σ : L2.St) (i : Nat) (H : Hp) : Prop := ∃ (a : Addr) (q : List (Option Nat)), σ[i]? = some (some (.ref a)) ∧ H a = some (.lst (vals q)) ∧ RowOk q
theorem RowAt.same {σ : L2.St} {i : Nat} {H H1 : Hp} (h : RowAt σ i H) (s : Same H H1) : RowAt σ i H1 := by
  obtain ⟨a, q, h1, h2, h3⟩ := h
  exact ⟨a, q, h1, s _ _ h2, h3⟩
theorem pair_made {σ : L2.St} {i j : Nat} {H : Hp} {Q : VK} (hi : RowAt σ i H) (hj : RowAt σ j H) (g : ∀ v H', Same H H' → PairV v H' → Q v H') : tTup (tCons (tVar i) (tCons (tVar j) tNil)) σ H Q := by
  obtain ⟨a, q, a1, a2, a3⟩ := hi
  obtain ⟨b, r, b1, b2, b3⟩ := hj
  refine ⟨_, a1, _, b1, (by show 2 ≤ sizeLine; decide), fun t nt => ?_⟩
  have s := same_upd (o := .tup [.ref a, .ref b]) nt
  exact g _ _ s ⟨t, a, b, q, r, rfl, upd_same, s _ _ a2, s _ _ b2, a3, b3⟩
section
variable {K : PySem.W.Frag} {CP CN : Addr} {σ : L2.St} {H : Hp} {u : TS} {D : Ends}
theorem seq_handed {a : Addr} {ns : List Nat} {k i : Nat} (ea : σ[5]? = some (some (.ref a))) (ek : σ[8]? = some (some (.int (k : Int)))) (ha : H a = some (.lst (nmL ns))) (q : ∀ (H' : Hp) (h : Addr), Same H H' → H' h = some (.lst (nmL (ns.take k))) → u D (σ.set i (some (.ref h))) H') :
    tSeq (tAsg (tSl (rSlL K) (tVar 5) tNoPart (tPart (tVar 8))) (gName i)) u D σ H := by
  refine ⟨_, ea, _, ek, _, rfl, a, _, rfl, SqL.of ha, fun h nh => ?_⟩
  rw [cut_upto, nmL_take]
  exact q _ h (same_upd nh) upd_same
/-- spoilt -/
theorem seq_spoilt {p l r a : Addr} {x : List (Option Nat)} {ns : List Nat} {i : Nat} (ep : σ[1]? = some (some (.ref p))) (er : σ[7]? = some (some (.ref r))) (ea : σ[5]? = some (some (.ref a))) (hp : Hand p l H) (hr : H r = some (.lst (vals x))) (ha : H a = some (.lst (nmL ns))) (ok : RowOk x) (nm : NmOk ns)
    (q : ∀ (H' : Hp) (z : Addr) (y : List (Option Nat)), Kept p H H' → Hand p l H' → H' z = some (.lst (vals y)) → RowOk y → y.length = x.length → u D (σ.set i (some (.ref z))) H') :
    tSeq (tAsg (tCall spSpl [] E0 (tCons (tVar 1) (tCons (tVar 7) (tCons (tSl (rSlL K) (tVar 5) tNoPart (tPart (tC (V.int 4)))) tNil)))) (gName i)) u D σ H := by
  refine ⟨_, ep, _, er, _, ea, _, rfl, a, _, rfl, SqL.of ha, fun h nh => ?_⟩
  rw [show cutV (nmL ns) none (some 4) = nmL (ns.take 4) from (cut_upto _ 4).trans (nmL_take 4)]
  have s := same_upd (o := .lst (nmL (ns.take 4))) nh
  refine ⟨p, l, r, h, x, ns.take 4, rfl, hp.same s, s _ _ hr, upd_same, ok, ⟨nm.nd.sublist (List.take_sublist _ _), fun n hn => nm.le n (List.mem_of_mem_take hn)⟩, ?_, fun H' z y k h' _ hz oy ly => q H' z y ((Kept.same s).trans k) h' hz oy ly⟩
  exact Nat.le_trans (List.length_take_le _ _) (by decide)
/-- told, due -/
theorem seq_told_due {x e z : Addr} {y q : List (Option Nat)} {i j : Nat} (ex : σ[4]? = some (some (.ref x))) (ee : σ[3]? = some (some (.ref e))) (ez : σ[10]? = some (some (.ref z))) (hx : PatAt CP H x y) (he : H e = some (.lst (vals y))) (hz : H z = some (.lst (vals q))) (ok : RowOk q) (len : q.length = y.length) (py : Pt y) (ly : y.length ≤ 40)
    (g : ∀ H', Same H H' → u D ((σ.set i (some (optV (partAt 0 y (num q))))).set j (some (optV (partAt 0 y (num q))))) H') :
    tSeq (tPar i j (tCons (tCall (spFD CP CN) [] E0 (tCons (tVar 4) (tCons (tVar 10) tNil))) (tCons (tCall spDiff [] E0 (tCons (tVar 3) (tCons (tVar 10) tNil))) tNil))) u D σ H :=
  fd_call ex hx (rv_var ez hz ok) ok len (Same.refl _) fun H1 s1 => ⟨_, ee, _, ez, e, z, y, q, rfl, s1 _ _ he, s1 _ _ hz, len.symm, ly, fun H2 s2 => ⟨_, _, rfl, by
    rw [show num y = y from py]
    exact g H2 (s1.trans s2)⟩⟩
/-- told != due or (told is None) != (due is None) or isinstance(told, bool) -/
theorem ts_alike {o : Option Nat} (e1 : σ[11]? = some (some (optV o))) (e2 : σ[12]? = some (some (optV o))) : Ts H (tOr (tTest (tOp rNe (tVar 11) (tVar 12))) (tOr (tTest (tOp rNe (tOp (fun x y H Q => y = V.non ∧ Q (V.bl (decide (x = V.non))) H) (tVar 11) (tC V.non)) (tOp (fun x y H Q => y = V.non ∧ Q (V.bl (decide (x = V.non))) H) (tVar 12) (tC V.non)))) (tB (tCB (rIsi K) (tCons (tVar 11) (tCons (tC (V.ty "bool")) tNil)))))) σ false := by
  refine ts_or (fun H1 s1 Q q => ⟨_, e1, _, e2, scal_opt o o, _, rfl, ?_⟩) (ts_or (fun H1 s1 Q q => ⟨_, e1, rfl, _, e2, rfl, rfl, _, rfl, ?_⟩) fun H1 s1 Q q => ⟨_, e1, ?_⟩)
  · rw [decide_eq_true (rfl : optV o = optV o)]
    exact q H1 (Same.refl _)
  · rw [decide_eq_true (rfl : V.bl (decide (optV o = V.non)) = V.bl (decide (optV o = V.non)))]
    exact q H1 (Same.refl _)
  · cases o with
    | none => exact ⟨_, _, _, _, false, rfl, .ty _, (Odd.non (H := H1)).ty, kit_ty (by decide), _, rfl, q H1 (Same.refl _)⟩
    | some n => exact ⟨_, _, _, _, false, rfl, .ty _, (Odd.int (H := H1) (n : Int)).ty, kit_ty (by decide), _, rfl, q H1 (Same.refl _)⟩
/-- part -/
theorem seq_part {p l o : Addr} {q : List (Option Nat)} {n i : Nat} (ep : σ[1]? = some (some (.ref p))) (en : σ[2]? = some (some (.int (n : Int)))) (eo : σ[13]? = some (some (.ref o))) (hp : Hand p l H) (ho : H o = some (.lst (vals q))) (ok : RowOk q) (n40 : n ≤ 40)
    (g : ∀ (H' : Hp) (z : Addr) (k : Nat), Kept p H H' → Hand p l H' → H' z = some (.lst (vals (q.take k))) → u D (σ.set i (some (.ref z))) H') :
    tSeq (tAsg (tSl (rSlL K) (tVar 13) tNoPart (tPart (tCall spDr [] E0 (tCons (tVar 1) (tCons (tOp (rI0 fun i j => V.int (i + j)) (tVar 2) (tC (V.int 1))) tNil))))) (gName i)) u D σ H := by
  refine ⟨_, eo, _, ep, _, en, _, _, rfl, rfl, p, l, (n : Int) + 1, rfl, hp, by omega, ?_, fun d H1 d0 d1 k1 h1 => ⟨_, rfl, o, _, rfl, SqL.of (k1 _ _ (hp.neq q ho) ho), fun z nz => ?_⟩⟩
  · exact Nat.lt_of_le_of_lt (show ((n : Int) + 1).natAbs ≤ 41 by omega) (by decide +kernel)
  · obtain ⟨k, rfl⟩ := Int.eq_ofNat_of_zero_le d0
    rw [cut_upto, show (vals q).take k = vals (q.take k) from List.map_take.symm]
    exact g _ z k (k1.trans (Kept.same (same_upd nz))) (h1.same (same_upd nz)) upd_same
end
end K27

/-! the law -/
namespace K27
open PySem PySem.Spec PyProof.Rows L2 LamX TaX GrdX
def spLaw (K : PySem.W.Frag) (TL : List (Addr × Str)) : Sp := fun vs H Q _ => ∃ (a : Addr) (ns : List Int), vs = [.ref a] ∧ SqL K H a (ns.map V.int) ∧ ns.length ≤ 63 ∧ Tabs TL H ∧ ∀ H', Q (.bl true) H'
structure DfG (P : Program) (w : World) (K : PySem.W.Frag) (mg : Str → Option Value) (base : Heap) (x : Str) (k : Nat) (ps : List Str) (sp : Sp) (f : Addr) (fd : FuncData) : Prop where
  gl : mg x = some (.ref f)
  ok : FnG P w K mg base CX0 k f fd ps sp
  bi : Binds K fd ps []
  kp : PySem.W.keepIn K (.ref f) = true
section
variable {P : Program} {w : World} {K : PySem.W.Frag} {mg : Str → Option Value} {base : Heap}
theorem ok_law {f c fI fH fD fSz fEn fPo fRw fCn fSp fDf fOr fNF fFD fRr CP CE CN : Addr} {fd fdI fdH fdD fdSz fdEn fdPo fdRw fdCn fdSp fdDf fdOr fdNF fdFD fdRr : FuncData} {TL : List (Addr × Str)} (F : FunC K "law" "law" (defArgs sLaw) (defBody sLaw) (defScope sLaw) c f fd) (z_tuple : mg "tuple" = none) (z_bool : mg "bool" = none) (z_isinstance : mg "isinstance" = none)
    (M : PatMk P w K mg base CP CE fI fdI) (dH : Df P w K mg base "_law_hand" 1 ["_law_script"] (spHand K) fH fdH) (dD : Df P w K mg base "_law_draw" 2 ["_law_hand_here", "_law_many"] spDr fD fdD) (dSz : Df P w K mg base "_law_size" 3 ["_law_hand_here"] spSize fSz fdSz)
    (dEn : Df P w K mg base "_law_entries" 3 ["_law_hand_here", "_law_size_here", "_law_empty"] spEn fEn fdEn) (dPo : Df P w K mg base "_law_pool" 3 ["_law_hand_here", "_law_many"] spPool fPo fdPo) (dRw : Df P w K mg base "_law_row" 1 ["_law_entries_here", "_law_names"] spRow fRw fdRw) (dCn : Df P w K mg base "_law_count" 1 ["_law_entries_here"] spCnt fCn fdCn)
    (dSp : Df P w K mg base "_law_spoilt" 4 ["_law_hand_here", "_law_row_here", "_law_pool_here"] spSpl fSp fdSp) (dDf : Df P w K mg base "_law_differs" 2 ["_law_one", "_law_other"] spDiff fDf fdDf) (dOr : Df P w K mg base "_law_odd_right" 7 ["_law_hand_here", "_law_pattern", "_law_entries_here", "_law_names"] (spOr CP TL) fOr fdOr)
    (dNF : DfE P w K mg base "names_for" 4 ["pattern", "names"] (spNF CP CN) fNF fdNF) (dFD : DfE P w K mg base "first_difference" 4 ["pattern", "names"] (spFD CP CN) fFD fdFD) (dRr : DfG P w K mg base "_law_renaming_right" 7 ["_law_one", "_law_other"] (spRr TL) fRr fdRr) : FnG P w K mg base CX0 8 f fd ["_law_script"] (spLaw K TL) := by
  have sc : FnScope ["_law_script", "_law_hand_here", "_law_size_here", "_law_entries_here", "_law_pattern", "_law_names", "_law_others", "_law_row_here", "_law_spare", "_law_handed", "_law_spoilt_here", "_law_told_here", "_law_due", "_law_other", "_law_part", "_law_pair"] ["_law_script"] (defScope sLaw) := ⟨rfl, rfl, rfl, by decide +kernel, rfl, by decide +kernel, by decide +kernel⟩
  refine F.okG sc (fun vs H Q E h => ?_) (fun A outer s H vs Q E hr hG h => ?_)
  · obtain ⟨a, ns, rfl, _⟩ := h
    rfl
  · obtain ⟨a, ns, rfl, hS, hlen, tb, q⟩ := h
    have hr7 := hr
    have hr4 := hr7.mono (show 4 ≤ 7 by decide)
    have hr3 := hr7.mono (show 3 ≤ 7 by decide)
    have hr2 := hr7.mono (show 2 ≤ 7 by decide)
    have hr1 := hr7.mono (show 1 ≤ 7 by decide)
    refine ⟨_, PSs.nox (pss_cons (ps_set (i := 1) sc.nd rfl (.inl rfl) (pe_call dH.ok hr1 (by rfl) dH.gl dH.kp dH.bi .nil pass0 (pa_cons (pv 0) pa_nil)))
    (pss_cons (ps_set (i := 2) sc.nd rfl (.inl rfl) (pe_call dSz.ok hr3 (by rfl) dSz.gl dSz.kp dSz.bi .nil pass0 (pa_cons (pv 1) pa_nil)))
    (pss_cons (ps_set (i := 3) sc.nd rfl (.inl rfl) (pe_call dEn.ok hr3 (by rfl) dEn.gl dEn.kp dEn.bi .nil pass0 (pa_cons (pv 1) (pa_cons (pv 2) (pa_cons (pe_cmpR op_eq (pe_call dD.ok hr2 (by rfl) dD.gl dD.kp dD.bi .nil pass0 (pa_cons (pv 1) (pa_cons pe_int pa_nil))) pe_int (nomark _)) pa_nil)))))
    (pss_cons (ps_par3 (i := 4) (j := 5) (l := 6) rfl sc.nd rfl rfl rfl (by decide) (by decide) (by decide) rfl rfl rfl (pa_cons (pe_make M.mks M.ok hr4 (by rfl) M.gl M.bi .nil passX0 (pa_cons (pv 3) pa_nil)) (pa_cons (pe_call dPo.ok hr3 (by rfl) dPo.gl dPo.kp dPo.bi .nil pass0 (pa_cons (pv 1) (pa_cons pe_int pa_nil))) (pa_cons (pe_call dPo.ok hr3 (by rfl) dPo.gl dPo.kp dPo.bi .nil pass0 (pa_cons (pv 1) (pa_cons pe_int pa_nil))) pa_nil))) rfl)
    (pss_cons (ps_set (i := 7) sc.nd rfl (.inl rfl) (pe_call dRw.ok hr1 (by rfl) dRw.gl dRw.kp dRw.bi .nil pass0 (pa_cons (pv 3) (pa_cons (pv 5) pa_nil))))
    (pss_cons (ps_set (i := 8) sc.nd rfl (.inl rfl) (pe_op op_add (pe_call dCn.ok hr1 (by rfl) dCn.gl dCn.kp dCn.bi .nil pass0 (pa_cons (pv 3) pa_nil)) (pe_call dD.ok hr2 (by rfl) dD.gl dD.kp dD.bi .nil pass0 (pa_cons (pv 1) (pa_cons (pe_op op_sub pe_int (pe_call dCn.ok hr1 (by rfl) dCn.gl dCn.kp dCn.bi .nil pass0 (pa_cons (pv 3) pa_nil))) pa_nil)))))
    (pss_cons (ps_set (i := 9) sc.nd rfl (.inl rfl) (pe_slice sl_list (pv 5) po_none (po_some (pv 8))))
    (pss_cons (ps_if (PW.pt (pw_or (pt_cmpR (op_neD hr.units) (pe_call dNF.ok hr4 (by rfl) dNF.gl dNF.kp dNF.bi .nil passX0 (pa_cons (pv 4) (pa_cons (pv 9) pa_nil))) (pe_callTy call_tuple_of (by rfl) z_tuple (by decide +kernel) (pa_cons (pv 7) pa_nil)) (nomark _)) (pw_or1 (pt_cmpR (op_neD hr.units) (pv 9) (pe_slice sl_list (pv 5) po_none (po_some (pv 8))) (nomark _)))))
      (pss_one (ps_ret pe_bl))
      pss_nil)
    (pss_cons (ps_if (PW.pt (pw_or (pt_cmpR op_notN (pe_call dFD.ok hr4 (by rfl) dFD.gl dFD.kp dFD.bi .nil passX0 (pa_cons (pv 4) (pa_cons (pv 7) pa_nil))) pe_non (nomark _)) (pw_or1 (pt_cmpR op_notN (pe_call dFD.ok hr4 (by rfl) dFD.gl dFD.kp dFD.bi .nil passX0 (pa_cons (pv 4) (pa_cons (pe_callTy call_tuple_of (by rfl) z_tuple (by decide +kernel) (pa_cons (pv 7) pa_nil)) pa_nil))) pe_non (nomark _)))))
      (pss_one (ps_ret pe_bl))
      pss_nil)
    (pss_cons (ps_set (i := 10) sc.nd rfl (.inl rfl) (pe_call dSp.ok hr4 (by rfl) dSp.gl dSp.kp dSp.bi .nil pass0 (pa_cons (pv 1) (pa_cons (pv 7) (pa_cons (pe_slice sl_list (pv 5) po_none (po_some pe_int)) pa_nil)))))
    (pss_cons (ps_par (i := 11) (j := 12) rfl sc.nd rfl rfl (by decide) rfl rfl (pa_cons (pe_call dFD.ok hr4 (by rfl) dFD.gl dFD.kp dFD.bi .nil passX0 (pa_cons (pv 4) (pa_cons (pv 10) pa_nil))) (pa_cons (pe_call dDf.ok hr2 (by rfl) dDf.gl dDf.kp dDf.bi .nil pass0 (pa_cons (pv 3) (pa_cons (pv 10) pa_nil))) pa_nil)) rfl)
    (pss_cons (ps_if (PW.pt (pw_or (pt_cmpR op_ne (pv 11) (pv 12) (nomark _)) (pw_or (pt_cmpR op_ne (pe_cmpR op_isN (pv 11) pe_non (nomark _)) (pe_cmpR op_isN (pv 12) pe_non (nomark _)) (nomark _)) (pw_or1 (pt_val (pe_callB call_isi (by rfl) z_isinstance (by decide +kernel) (pa_cons (pv 11) (pa_cons (pe_bltn (by rfl) z_bool (by decide +kernel) (v := .ty "bool") rfl) pa_nil))))))))
      (pss_one (ps_ret pe_bl))
      pss_nil)
    (pss_cons (ps_set (i := 13) sc.nd rfl (.inl rfl) (pe_call dRw.ok hr1 (by rfl) dRw.gl dRw.kp dRw.bi .nil pass0 (pa_cons (pv 3) (pa_cons (pv 6) pa_nil))))
    (pss_cons (ps_set (i := 14) sc.nd rfl (.inl rfl) (pe_slice sl_list (pv 13) po_none (po_some (pe_call dD.ok hr2 (by rfl) dD.gl dD.kp dD.bi .nil pass0 (pa_cons (pv 1) (pa_cons (pe_op op_add (pv 2) pe_int) pa_nil))))))
    (pss_cons (ps_for PassesOwn.never rfl (pi_list (pe_lst (pa_cons (pe_tup (pa_cons (pv 7) (pa_cons (pv 13) pa_nil))) (pa_cons (pe_tup (pa_cons (pv 7) (pa_cons (pv 10) pa_nil))) (pa_cons (pe_tup (pa_cons (pv 10) (pa_cons (pv 13) pa_nil))) (pa_cons (pe_tup (pa_cons (pv 7) (pa_cons (pv 14) pa_nil))) (pa_cons (pe_tup (pa_cons (pv 14) (pa_cons (pv 7) pa_nil))) (pa_cons (pe_tup (pa_cons (pv 13) (pa_cons (pv 7) pa_nil))) (pa_cons (pe_tup (pa_cons (pv 10) (pa_cons (pv 10) pa_nil))) pa_nil))))))))) (pg_name (i := 15) sc.nd rfl (.inl rfl))
      (pss_one (ps_if (pt_not (pt_val (pe_callG dRr.ok hr7 hG (by rfl) dRr.gl dRr.kp dRr.bi pass0 (pa_cons (pe_ix ix_tup (pv 15) pe_int (fun _ _ => rfl)) (pa_cons (pe_ix ix_tup (pv 15) pe_int (fun _ _ => rfl)) pa_nil)))))
        (pss_one (ps_ret pe_bl))
        pss_nil)))
    (pss_one (ps_ret (pe_and (pe_call dOr.ok hr7 (by rfl) dOr.gl dOr.kp dOr.bi .nil pass0 (pa_cons (pv 1) (pa_cons (pv 4) (pa_cons (pv 3) (pa_cons (pv 5) pa_nil))))) (pe_one (pe_cmpR op_isN (pe_call dFD.ok hr4 (by rfl) dFD.gl dFD.kp dFD.bi .nil passX0 (pa_cons (pv 4) (pa_cons (pv 7) pa_nil))) pe_non (nomark _))))))))))))))))))))), ?_⟩
    refine ⟨_, rfl, a, ns, rfl, hS, hlen, fun H1 p l t s1 np hh => ?_⟩
    have h1 : Hand p l H1 := ⟨_, _, _, _, hh⟩
    have t1 := tabs_same tb s1
    refine ⟨_, rfl, p, l, rfl, h1, fun H2 n n40 k2 h2 => ?_⟩
    have t2 := tabs_kept t1 h1 k2
    refine ⟨_, rfl, _, rfl, _, rfl, p, l, 2, rfl, h2, by decide, by decide +kernel, fun d H3 d0 d1 k3 h3 => ⟨rfl, p, l, n, _, rfl, h3, n40, fun H4 e y k4 h4 ne he py ly => ?_⟩⟩
    have t4 := tabs_kept (tabs_kept t2 h2 k3) h3 k4
    have ly40 : y.length ≤ 40 := by omega
    refine seq_par3 (cons_of (make_pat rfl he py ly40 fun H5 x s5 hx => ?_))
    have h5 := h4.same s5
    have t5 := tabs_same t4 s5
    have he5 := s5 _ _ he
    refine ⟨_, rfl, p, l, 40, rfl, h5, (by decide), fun H6 a6 ns k6 h6 na6 ha6 nm6 la6 => ?_⟩
    have he6 := keptT_lst h5 (.kept k6) he5
    have hx6 := keptT_pat h5 (.kept k6) hx
    have t6 := tabs_kept t5 h5 k6
    refine ⟨_, rfl, p, l, 40, rfl, h6, (by decide), fun H7 b7 ms k7 h7 nb7 hb7 nm7 lb7 => ⟨_, _, _, rfl, ?_⟩⟩
    have I7 : LI CP TL p l e x a6 b7 y ns ms H7 := ⟨h7, keptT_lst h6 (.kept k7) he6, keptT_pat h6 (.kept k7) hx6, keptT_lst (q := ns.map some) h6 (.kept k7) ha6, hb7, tabs_kept t6 h6 k7⟩
    obtain ⟨c, ec⟩ := py.cnt
    have ct := cnt_top ec
    rw [Nat.zero_add] at ct
    refine ⟨_, rfl, _, rfl, e, a6, y, ns, c, rfl, I7.he, I7.ha, ec, by omega, ly40, fun H8 r s8 nr hr8 => ?_⟩
    have I8 := I7.same s8
    have rok : RowOk (rowL y ns) := row_ok nm6 ly40
    have nrow := num_row ec (show c ≤ ns.length by omega) nm6.nd
    refine seq_spare (i := 8) rfl rfl I8.hp I8.he ec ly40 fun H9 k k9 h9 ck k40 => ?_
    have I9 := I8.kept k9 h9
    have hr9 := keptT_lst I8.hp (.kept k9) hr8
    refine seq_handed (i := 9) rfl rfl I9.ha fun H10 h s10 hh10 => ?_
    have I10 := I9.same s10
    have hr10 := s10 _ _ hr9
    refine state_eq (σ' := [some (.ref a), some (.ref p), some (.int (n : Int)), some (.ref e), some (.ref x), some (.ref a6), some (.ref b7), some (.ref r), some (.int (k : Int)), some (.ref h), none, none, none, none, none, none]) rfl ?_
    refine seq_not (H0 := H10) (ts_or (ts_handed rfl rfl rfl I10.hx hh10 hr10 nm6 ec rfl ck (by omega) k40 ly40) (ts_names rfl rfl rfl hh10 I10.ha)) (Same.refl _) fun H11 s11 => ?_
    have lrow : (rowL y ns).length = y.length := by unfold rowL; rw [List.length_map]
    refine seq_not (H0 := H10) (ts_or (ts_fd rfl I10.hx (rv_var rfl hr10 rok) rok lrow nrow) (ts_fd rfl I10.hx (rv_tup rfl hr10 rok) rok lrow nrow)) s11 fun H12 s12 => ?_
    have I12 := I10.same s12
    have hr12 := s12 _ _ hr10
    refine seq_spoilt (i := 10) rfl rfl rfl I12.hp hr12 I12.ha rok nm6 fun H13 z q2 k13 h13 hz13 okq lq => ?_
    rw [lrow] at lq
    have I13 := I12.kept k13 h13
    have hr13 := keptT_lst I12.hp (.kept k13) hr12
    refine seq_told_due (i := 11) (j := 12) rfl rfl rfl I13.hx I13.he hz13 okq lq py ly40 fun H14 s14 => ?_
    have I14 := I13.same s14
    have hr14 := s14 _ _ hr13
    have hz14 := s14 _ _ hz13
    refine state_eq (σ' := [some (.ref a), some (.ref p), some (.int (n : Int)), some (.ref e), some (.ref x), some (.ref a6), some (.ref b7), some (.ref r), some (.int (k : Int)), some (.ref h), some (.ref z), some (optV (partAt 0 y (num q2))), some (optV (partAt 0 y (num q2))), none, none, none]) rfl ?_
    refine seq_not (H0 := H14) (ts_alike rfl rfl) (Same.refl _) fun H15 s15 => ?_
    have I15 := I14.same s15
    refine ⟨_, rfl, _, rfl, e, b7, y, ms, c, rfl, I15.he, I15.hb, ec, by omega, ly40, fun H16 o s16 no ho16 => ?_⟩
    have I16 := I15.same s16
    have oko : RowOk (rowL y ms) := row_ok nm7 ly40
    refine seq_part (i := 14) rfl rfl rfl I16.hp ho16 oko n40 fun H17 w k' k17 h17 hw17 => ?_
    have I17 := I16.kept k17 h17
    have hr17 := keptT_lst I16.hp (.kept k17) (s16 _ _ (s15 _ _ hr14))
    have hz17 := keptT_lst I16.hp (.kept k17) (s16 _ _ (s15 _ _ hz14))
    have ho17 := keptT_lst I16.hp (.kept k17) ho16
    have okw := oko.take k'
    generalize hw : (rowL y ms).take k' = qw at hw17 okw
    refine state_eq (σ' := [some (.ref a), some (.ref p), some (.int (n : Int)), some (.ref e), some (.ref x), some (.ref a6), some (.ref b7), some (.ref r), some (.int (k : Int)), some (.ref h), some (.ref z), some (optV (partAt 0 y (num q2))), some (optV (partAt 0 y (num q2))), some (.ref o), some (.ref w), none]) rfl ?_
    generalize hσ : [some (.ref a), some (.ref p), some (.int (n : Int)), some (.ref e), some (.ref x), some (.ref a6), some (.ref b7), some (.ref r), some (.int (k : Int)), some (.ref h), some (.ref z), some (optV (partAt 0 y (num q2))), some (optV (partAt 0 y (num q2))), some (.ref o), some (.ref w), none] = σ
    have R7 : RowAt σ 7 H17 := ⟨r, _, by rw [← hσ]; rfl, hr17, rok⟩
    have R10 : RowAt σ 10 H17 := ⟨z, _, by rw [← hσ]; rfl, hz17, okq⟩
    have R13 : RowAt σ 13 H17 := ⟨o, _, by rw [← hσ]; rfl, ho17, oko⟩
    have R14 : RowAt σ 14 H17 := ⟨w, _, by rw [← hσ]; rfl, hw17, okw⟩
    refine seq_for (cons_of (pair_made R7 R13 fun v1 G1 s1 p1 => cons_of (pair_made (R7.same s1) (R10.same s1) fun v2 G2 s2 p2 => ?_)))
    have S2 := s1.trans s2
    refine cons_of (pair_made (R10.same S2) (R13.same S2) fun v3 G3 s3 p3 => cons_of (pair_made (R7.same (S2.trans s3)) (R14.same (S2.trans s3)) fun v4 G4 s4 p4 => ?_))
    have S4 := (S2.trans s3).trans s4
    refine cons_of (pair_made (R14.same S4) (R7.same S4) fun v5 G5 s5 p5 => cons_of (pair_made (R13.same (S4.trans s5)) (R7.same (S4.trans s5)) fun v6 G6 s6 p6 => ?_))
    have S6 := (S4.trans s5).trans s6
    refine cons_of (pair_made (R10.same S6) (R10.same S6) fun v7 G7 s7 p7 => ⟨(by show 7 ≤ sizeLine; decide), fun L nL => ?_⟩)
    have sL := same_upd (o := .lst [v1, v2, v3, v4, v5, v6, v7]) nL
    have all : ∀ v ∈ [v1, v2, v3, v4, v5, v6, v7], PairV v (upd G7 L (.lst [v1, v2, v3, v4, v5, v6, v7])) := fun v hv => by
      have f : ∀ {v : V} {G : Hp}, Same G G7 → PairV v G → PairV v (upd G7 L (.lst [v1, v2, v3, v4, v5, v6, v7])) := fun s p => p.ext (ext_same (s.trans sL))
      rcases List.mem_cons.mp hv with rfl | hv
      · exact f ((((((s2.trans s3).trans s4).trans s5).trans s6)).trans s7) p1
      rcases List.mem_cons.mp hv with rfl | hv
      · exact f (((((s3.trans s4).trans s5).trans s6)).trans s7) p2
      rcases List.mem_cons.mp hv with rfl | hv
      · exact f ((((s4.trans s5).trans s6)).trans s7) p3
      rcases List.mem_cons.mp hv with rfl | hv
      · exact f (((s5.trans s6)).trans s7) p4
      rcases List.mem_cons.mp hv with rfl | hv
      · exact f ((s6.trans s7)) p5
      rcases List.mem_cons.mp hv with rfl | hv
      · exact f s7 p6
      rcases List.mem_cons.mp hv with rfl | hv
      · exact f (Same.refl _) p7
      cases hv
    have I18 := (I17.same (S6.trans s7)).same sL
    have hL : (upd G7 L (.lst [v1, v2, v3, v4, v5, v6, v7])) L = some (.lst [v1, v2, v3, v4, v5, v6, v7]) := upd_same
    have hr18 := sL _ _ ((S6.trans s7) _ _ hr17)
    generalize upd G7 L (.lst [v1, v2, v3, v4, v5, v6, v7]) = H18 at all I18 hL hr18 ⊢
    generalize [v1, v2, v3, v4, v5, v6, v7] = vs at all hL
    subst hσ
    refine ⟨L, rfl, ⟨_, SqL.of hL⟩, for_it walk_list (fun _ σ G => ∃ (x15 : Option V), σ = [some (.ref a), some (.ref p), some (.int (n : Int)), some (.ref e), some (.ref x), some (.ref a6), some (.ref b7), some (.ref r), some (.int (k : Int)), some (.ref h), some (.ref z), some (optV (partAt 0 y (num q2))), some (optV (partAt 0 y (num q2))), some (.ref o), some (.ref w), x15] ∧ ExtN H18 G ∧ Tabs TL G)
      ⟨none, rfl, ext_same (Same.refl _), I18.tb⟩ (fun _ σ G _ ⟨_, _, sg, _⟩ => SqL.of (lst_ext hL sg)) ?_ ?_⟩
    · rintro i v σ Hx G1 hi ⟨x15, rfl, sg, tg⟩ ⟨rfl, ev⟩
      obtain ⟨t', a', b', q', r', rfl, g1, g2, g3, g4, g5⟩ := (all v (List.mem_of_getElem? ev)).ext sg
      refine ⟨_, rfl, t', _, (0 : Int), .ref a', rfl, rfl, SqT.of g1, rfl, _, rfl, t', _, (1 : Int), .ref b', rfl, rfl, SqT.of g1, rfl, a', b', q', r', rfl, g2, g3, g4, g5, tg, fun G2 x2 t2 => ⟨_, rfl, iteF ?_⟩⟩
      exact ⟨_, rfl, sg.trans x2, t2⟩
    · rintro σ G1 ⟨x15, rfl, sg, tg⟩
      have I19 := I18.ext sg tg
      have hr19 := lst_ext hr18 sg
      refine ⟨_, rfl, _, rfl, _, rfl, _, rfl, p, l, x, e, a6, y, ns, rfl, I19.hp, I19.hx, I19.he, I19.ha, nm6, la6, tg, fun G2 k20 t20 h20 => ⟨true, rfl, iteT ?_⟩⟩
      refine fd_call rfl (keptT_pat I19.hp k20 I19.hx) (rv_var rfl (keptT_lst I19.hp k20 hr19) rok) rok lrow (Same.refl _) fun G3 s3 => ?_
      rw [nrow, part_self]
      exact ⟨rfl, q G3⟩
end
end K27

set_option maxHeartbeats 8000000
/-! the facts by the head, the end -/
namespace K27
open PySem PySem.Spec PyProof.Rows L2
theorem oexB_ok {K : PySem.W.Frag} {C : Addr} (h : oexB K C = true) : ∃ nm q N bs bm sn sub ab col dd k0 k1 k2 k3 k5, K.lookup C = some (excClassObj nm q C N bs bm true sn sub ab col dd k0 k1 k2 k3 k5 "ValueError.__new__") ∧ PySem.HandSPX.refsVE bm = true := by
  unfold oexB at h
  split at h
  · rename_i t dd cd sl e
    obtain ⟨h1, h2⟩ := Bool.and_eq_true_iff.mp h
    have et := of_decide_eq_true h1
    split at h2
    · rename_i C' bm k0 k1 k2 k3 n k5 hm hs
      obtain ⟨h3, h4⟩ := Bool.and_eq_true_iff.mp h2
      obtain ⟨h5, h6⟩ := Bool.and_eq_true_iff.mp h4
      obtain ⟨h7, h8⟩ := Bool.and_eq_true_iff.mp h6
      obtain ⟨h9, h10⟩ := Bool.and_eq_true_iff.mp h8
      have eC := of_decide_eq_true h3
      have en := of_decide_eq_true h5
      obtain ⟨nm, bs, mro, ns, qn, hd, sn, sb, ab, col, del⟩ := cd
      dsimp only at hm h7 h9
      have e9 : del = false := by
        cases del with
        | false => rfl
        | true => cases h9
      have es : sl = #[k0, k1, k2, k3, some (.builtin n), k5] := by
        cases sl
        exact congrArg Array.mk hs
      subst et eC en e9 hm es h7
      exact ⟨nm, qn, ns, bs, bm, sn, sb, ab, col, dd, k0, k1, k2, k3, k5, e, h10⟩
    · cases h2
  · cases h
theorem b2 {a b : Bool} (h : (a && b) = true) : a = true ∧ b = true := Bool.and_eq_true_iff.mp h
/-- what the head says of an error -/
structure BadF (K : PySem.W.Frag) (D : Addr) : Prop where
  ox : OexC K D
  xf : XfC K D
  cl : PySem.W.findIn K (.ref D) "__class__" = some (some (.builtin "object.__class__"))
  ob : PySem.W.mroIn K D (.type "object") = some true
  ini : PySem.W.findIn K (.ref D) "__init__" = some (some (.ref (He.ma K D "__init__")))
  ty : PySem.W.typeIn K (.ref (He.ma K D "__init__")) = some (.type "function")
theorem badE_ok {K : PySem.W.Frag} {D : Addr} (h : badE K D = true) : BadF K D := by
  obtain ⟨x1, h⟩ := b2 h
  obtain ⟨x2, h⟩ := b2 h
  obtain ⟨x3, x4⟩ := b2 h
  obtain ⟨h1, h⟩ := b2 x2
  obtain ⟨h2, h⟩ := b2 h
  obtain ⟨h3, h⟩ := b2 h
  obtain ⟨h4, h⟩ := b2 h
  obtain ⟨h5, h⟩ := b2 h
  obtain ⟨h6, h⟩ := b2 h
  obtain ⟨h7, h⟩ := b2 h
  obtain ⟨h8, h9⟩ := b2 h
  have xf : XfC K D := ⟨of_decide_eq_true h1, of_decide_eq_true h2, of_decide_eq_true h3, h4⟩
  exact ⟨⟨oexB_ok x1, of_decide_eq_true h7, xf.exC, of_decide_eq_true h8, h9⟩, xf, of_decide_eq_true h5, of_decide_eq_true h6, of_decide_eq_true x3, of_decide_eq_true x4⟩
theorem proB_ok {K : PySem.W.Frag} (h : proB K = true) : PropOf K (He.ga K "Pattern") "class_count" (pA K) (gA K) := by
  obtain ⟨h1, h⟩ := b2 h
  obtain ⟨h2, h⟩ := b2 h
  obtain ⟨h3, h4⟩ := b2 h
  refine ⟨of_decide_eq_true h1, of_decide_eq_true h2, of_decide_eq_true h3, ?_⟩
  unfold gA
  cases e : PySem.W.recIn K (pA K) "property" with
  | none => rw [e] at h4; cases h4
  | some l =>
    rw [e] at h4
    match l, h4 with
    | .ref g :: rest, _ => exact ⟨rest, rfl⟩
theorem funG {K : PySem.W.Frag} (e : gW K = valM.2.2) (c : gB K = true) :
    ∃ fd, FunD K "class_count" "Pattern.class_count" (defArgs sCount0) (defBody sCount0) (defScope sCount0) [] [] (gA K) fd := by
  obtain ⟨kp, c2⟩ := b2 c
  unfold gW at e
  cases hq : K.lookup (gA K) with
  | none =>
    rw [hq] at e
    cases e
  | some ob =>
    obtain ⟨kc, kd, kt, ks⟩ := ob
    rw [hq] at c2 e
    cases kt with
    | func dd =>
      obtain ⟨m1, m2, m3, m4, m5, m6, m7, m8, m9, m10, m11, m12, m13, m14, m15⟩ := dd
      have ee : (some (m1, m2, m3, m4, m5, m6, m7, m15) : He.FnW) = some (("class_count" : Str), ("Pattern.class_count" : Str), defArgs sCount0, FuncBody.stmts (defBody sCount0), defScope sCount0, mainGlobals, ([] : List (Str × Addr)), builtinsNs) := e
      simp only [Option.some.injEq, Prod.mk.injEq] at ee
      obtain ⟨a1, a2, a3, a4, a5, a6, a7, a8⟩ := ee
      subst a1 a2 a3 a4 a5 a6 a7 a8
      obtain ⟨l1, l2⟩ := b2 (show (PySem.W.codeIn K m13 "Pattern.class_count" && (He.dflB K m8 [] && He.kwdB K m9 [])) = true from c2)
      obtain ⟨l3, l4⟩ := b2 l2
      exact ⟨_, ⟨kc, kd, m8, m9, m10, m11, m12, m13, m14, ks, rfl, hq, l1, He.dflB_ok l3, He.kwdB_ok l4⟩, kp⟩
    | _ => cases e
section
variable {P : Program} {w : World} {K : PySem.W.Frag} {mg : Str → Option Value} {base : Heap}
theorem SaysM.all (c : SaysM K) : ((fa.all fun f => f.ok K) && (restB K && fn.all fun d => d.ok K)) = true := congrArg (fun z : AlM => z.1) c
theorem SaysM.fact_ (c : SaysM K) (i : Nat) {f : He.Fa} (h : fa[i]? = some f) : f.ok K = true := List.all_eq_true.mp (b2 c.all).1 f (List.mem_of_getElem? h)
theorem SaysM.rest (c : SaysM K) : restB K = true := (b2 (b2 c.all).2).1
theorem SaysM.prop (c : SaysM K) : gW K = valM.2.2 := congrArg (fun z : AlM => z.2.2) c
theorem SaysM.def_ (c : SaysM K) (i : Nat) {d : He.DefD} (h : fn[i]? = some d) : ∃ fd, FunD K d.name d.qual d.params d.body d.scope (d.dvs K) (d.kws K) (He.fAd K d.at_) fd := by
  have c2 := (b2 (b2 c.all).2).2
  have e : fn.map (fun d => He.fnW K d.at_) = fn.map He.DefD.val := congrArg (fun z : AlM => z.2.1) c
  have e2 : (fn.map fun d => He.fnW K d.at_)[i]? = (fn.map He.DefD.val)[i]? := by rw [e]
  rw [List.getElem?_map, List.getElem?_map, h] at e2
  exact He.DefD.funD (Option.some.inj e2) (List.all_eq_true.mp c2 d (List.mem_of_getElem? h))
/-- the tables -/
def TL (K : PySem.W.Frag) : List (Addr × Str) := [((He.cT K ("_law_renaming_right", none)).2, qRr), ((He.cT K ("_law_odd_right", none)).2, qOr)]
theorem unlike_ok (h : restB K = true) : (He.cT K ("_law_renaming_right", none)).2 ≠ (He.cT K ("_law_odd_right", none)).2 := by
  obtain ⟨_, r⟩ := b2 h
  obtain ⟨_, r⟩ := b2 r
  obtain ⟨_, r⟩ := b2 r
  obtain ⟨r, _⟩ := b2 r
  unfold unlikeB at r
  intro e
  rw [decide_eq_true e] at r
  cases r
/-- with its code object known -/
theorem funC_of {x qual : Str} {params : Arguments} {body : List Stmt} {scope : Scope} {p : He.Defn} {fd : FuncData} (F : FunD K x qual params body scope [] [] (He.fAd K p) fd) : FunC K x qual params body scope (He.codeOf K p) (He.fAd K p) fd := by
  obtain ⟨oc, od, dV, kV, doc, pm, an, cdv, ct, osl, rfl, lk, hcd, _, _⟩ := F.ex
  obtain ⟨c, rfl⟩ := He.codeIn_ref hcd
  have e := He.codeOf_eq lk rfl
  rw [e]
  exact ⟨oc, od, dV, kV, doc, pm, an, ct, osl, rfl, lk, hcd⟩
theorem facts {h : Heap} {f : Addr} (X : K.In h) (G : h.Ns mainGlobals mg) (hfa : mg ("law" : Str) = some (.ref f)) (c : SaysM K) :
    ∃ fd : FuncData, (∀ (s : Shared) (v : Value), BindsTo s fd ⟨[v], []⟩ [("_law_script", v)]) ∧ ∀ base : Heap, K.In base → base.Ns mainGlobals mg → (∀ p ∈ tf, LamX.TabB base mg (He.cT K p).1 (He.cT K p).2) → GrdX.FnG P w K mg base CX0 8 f fd ["_law_script"] (spLaw K (TL K)) := by
  have ne0 : (He.cT K ("_law_renaming_right", none)).2 ≠ (He.cT K ("_law_odd_right", none)).2 := unlike_ok c.rest
  have m1 : ((He.cT K ("_law_renaming_right", none)).2, qRr) ∈ TL K := List.mem_cons_self ..
  have m2 : ((He.cT K ("_law_odd_right", none)).2, qOr) ∈ TL K := List.mem_cons_of_mem _ (List.mem_cons_self ..)
  have u1 : ∀ p ∈ TL K, p.1 = (He.cT K ("_law_renaming_right", none)).2 → p.2 = qRr := fun p hp e => by
    rcases List.mem_cons.mp hp with rfl | hp
    · rfl
    rcases List.mem_cons.mp hp with rfl | hp
    · exact absurd e.symm ne0
    cases hp
  have u2 : ∀ p ∈ TL K, p.1 = (He.cT K ("_law_odd_right", none)).2 → p.2 = qOr := fun p hp e => by
    rcases List.mem_cons.mp hp with rfl | hp
    · exact absurd e ne0
    rcases List.mem_cons.mp hp with rfl | hp
    · rfl
    cases hp
  have z_int : mg "int" = none := He.free_ok X G (c.fact_ 0 (f := .free "int") rfl)
  have z_bool : mg "bool" = none := He.free_ok X G (c.fact_ 1 (f := .free "bool") rfl)
  have z_isinstance : mg "isinstance" = none := He.free_ok X G (c.fact_ 2 (f := .free "isinstance") rfl)
  have z_len : mg "len" = none := He.free_ok X G (c.fact_ 3 (f := .free "len") rfl)
  have z_list : mg "list" = none := He.free_ok X G (c.fact_ 4 (f := .free "list") rfl)
  have z_tuple : mg "tuple" = none := He.free_ok X G (c.fact_ 5 (f := .free "tuple") rfl)
  have z_enumerate : mg "enumerate" = none := He.free_ok X G (c.fact_ 6 (f := .free "enumerate") rfl)
  have z_range : mg "range" = none := He.free_ok X G (c.fact_ 7 (f := .free "range") rfl)
  have z_abs : mg "abs" = none := He.free_ok X G (c.fact_ 8 (f := .free "abs") rfl)
  have z_max : mg "max" = none := He.free_ok X G (c.fact_ 9 (f := .free "max") rfl)
  have z_min : mg "min" = none := He.free_ok X G (c.fact_ 10 (f := .free "min") rfl)
  have z_zip : mg "zip" = none := He.free_ok X G (c.fact_ 11 (f := .free "zip") rfl)
  have z_repr : mg "repr" = none := He.free_ok X G (c.fact_ 12 (f := .free "repr") rfl)
  have g_is_whole : mg "is_whole" = some (.ref (He.ga K "is_whole")) := He.glo_ok X G (c.fact_ 13 (f := .glo "is_whole") rfl)
  have g_is_name : mg "is_name" = some (.ref (He.ga K "is_name")) := He.glo_ok X G (c.fact_ 14 (f := .glo "is_name") rfl)
  have g_is_sequence : mg "is_sequence" = some (.ref (He.ga K "is_sequence")) := He.glo_ok X G (c.fact_ 15 (f := .glo "is_sequence") rfl)
  have g_numbered : mg "numbered" = some (.ref (He.ga K "numbered")) := He.glo_ok X G (c.fact_ 16 (f := .glo "numbered") rfl)
  have g__entries_fault : mg "_entries_fault" = some (.ref (He.ga K "_entries_fault")) := He.glo_ok X G (c.fact_ 17 (f := .glo "_entries_fault") rfl)
  have g_check_names : mg "check_names" = some (.ref (He.ga K "check_names")) := He.glo_ok X G (c.fact_ 18 (f := .glo "check_names") rfl)
  have g_check_unlike_names : mg "check_unlike_names" = some (.ref (He.ga K "check_unlike_names")) := He.glo_ok X G (c.fact_ 19 (f := .glo "check_unlike_names") rfl)
  have g__first_parting : mg "_first_parting" = some (.ref (He.ga K "_first_parting")) := He.glo_ok X G (c.fact_ 20 (f := .glo "_first_parting") rfl)
  have g_first_difference : mg "first_difference" = some (.ref (He.ga K "first_difference")) := He.glo_ok X G (c.fact_ 21 (f := .glo "first_difference") rfl)
  have g_names_for : mg "names_for" = some (.ref (He.ga K "names_for")) := He.glo_ok X G (c.fact_ 22 (f := .glo "names_for") rfl)
  have g_renaming_of : mg "renaming_of" = some (.ref (He.ga K "renaming_of")) := He.glo_ok X G (c.fact_ 23 (f := .glo "renaming_of") rfl)
  have g__law_mix : mg "_law_mix" = some (.ref (He.ga K "_law_mix")) := He.glo_ok X G (c.fact_ 24 (f := .glo "_law_mix") rfl)
  have g__law_hand : mg "_law_hand" = some (.ref (He.ga K "_law_hand")) := He.glo_ok X G (c.fact_ 25 (f := .glo "_law_hand") rfl)
  have g__law_draw : mg "_law_draw" = some (.ref (He.ga K "_law_draw")) := He.glo_ok X G (c.fact_ 26 (f := .glo "_law_draw") rfl)
  have g__law_pick : mg "_law_pick" = some (.ref (He.ga K "_law_pick")) := He.glo_ok X G (c.fact_ 27 (f := .glo "_law_pick") rfl)
  have g__law_entries : mg "_law_entries" = some (.ref (He.ga K "_law_entries")) := He.glo_ok X G (c.fact_ 28 (f := .glo "_law_entries") rfl)
  have g__law_numbers : mg "_law_numbers" = some (.ref (He.ga K "_law_numbers")) := He.glo_ok X G (c.fact_ 29 (f := .glo "_law_numbers") rfl)
  have g__law_size : mg "_law_size" = some (.ref (He.ga K "_law_size")) := He.glo_ok X G (c.fact_ 30 (f := .glo "_law_size") rfl)
  have g__law_pool : mg "_law_pool" = some (.ref (He.ga K "_law_pool")) := He.glo_ok X G (c.fact_ 31 (f := .glo "_law_pool") rfl)
  have g__law_count : mg "_law_count" = some (.ref (He.ga K "_law_count")) := He.glo_ok X G (c.fact_ 32 (f := .glo "_law_count") rfl)
  have g__law_row : mg "_law_row" = some (.ref (He.ga K "_law_row")) := He.glo_ok X G (c.fact_ 33 (f := .glo "_law_row") rfl)
  have g__law_differs : mg "_law_differs" = some (.ref (He.ga K "_law_differs")) := He.glo_ok X G (c.fact_ 34 (f := .glo "_law_differs") rfl)
  have g__law_spoilt : mg "_law_spoilt" = some (.ref (He.ga K "_law_spoilt")) := He.glo_ok X G (c.fact_ 35 (f := .glo "_law_spoilt") rfl)
  have g__law_told : mg "_law_told" = some (.ref (He.ga K "_law_told")) := He.glo_ok X G (c.fact_ 36 (f := .glo "_law_told") rfl)
  have g__law_due_pairs : mg "_law_due_pairs" = some (.ref (He.ga K "_law_due_pairs")) := He.glo_ok X G (c.fact_ 37 (f := .glo "_law_due_pairs") rfl)
  have g__law_renaming_right : mg "_law_renaming_right" = some (.ref (He.ga K "_law_renaming_right")) := He.glo_ok X G (c.fact_ 38 (f := .glo "_law_renaming_right") rfl)
  have g__law_odd : mg "_law_odd" = some (.ref (He.ga K "_law_odd")) := He.glo_ok X G (c.fact_ 39 (f := .glo "_law_odd") rfl)
  have g__law_odd_right : mg "_law_odd_right" = some (.ref (He.ga K "_law_odd_right")) := He.glo_ok X G (c.fact_ 40 (f := .glo "_law_odd_right") rfl)
  have g_law : mg "law" = some (.ref (He.ga K "law")) := He.glo_ok X G (c.fact_ 41 (f := .glo "law") rfl)
  have g_Pattern : mg "Pattern" = some (.ref (He.ga K "Pattern")) := He.glo_ok X G (c.fact_ 42 (f := .glo "Pattern") rfl)
  have g_BadPattern : mg "BadPattern" = some (.ref (He.ga K "BadPattern")) := He.glo_ok X G (c.fact_ 43 (f := .glo "BadPattern") rfl)
  have g_BadNames : mg "BadNames" = some (.ref (He.ga K "BadNames")) := He.glo_ok X G (c.fact_ 44 (f := .glo "BadNames") rfl)
  have g_NoRenaming : mg "NoRenaming" = some (.ref (He.ga K "NoRenaming")) := He.glo_ok X G (c.fact_ 45 (f := .glo "NoRenaming") rfl)
  have g_MOST_PLACES : ∃ t, mg "MOST_PLACES" = some (.int 40 t) := He.int_ok X G (c.fact_ 46 (f := .int "MOST_PLACES" 40) rfl)
  have g_MOST_NAME : ∃ t, mg "MOST_NAME" = some (.int (10 ^ 30) t) := He.int_ok X G (c.fact_ 47 (f := .int "MOST_NAME" (10 ^ 30)) rfl)
  obtain ⟨d_is_whole, F_is_whole⟩ := c.def_ 0 rfl
  obtain ⟨d_is_name, F_is_name⟩ := c.def_ 1 rfl
  obtain ⟨d_is_sequence, F_is_sequence⟩ := c.def_ 2 rfl
  obtain ⟨d_numbered, F_numbered⟩ := c.def_ 3 rfl
  obtain ⟨d__entries_fault, F__entries_fault⟩ := c.def_ 4 rfl
  obtain ⟨d_check_names, F_check_names⟩ := c.def_ 5 rfl
  obtain ⟨d_check_unlike_names, F_check_unlike_names⟩ := c.def_ 6 rfl
  obtain ⟨d__first_parting, F__first_parting⟩ := c.def_ 7 rfl
  obtain ⟨d_first_difference, F_first_difference⟩ := c.def_ 8 rfl
  obtain ⟨d_names_for, F_names_for⟩ := c.def_ 9 rfl
  obtain ⟨d_renaming_of, F_renaming_of⟩ := c.def_ 10 rfl
  obtain ⟨d__law_mix, F__law_mix⟩ := c.def_ 11 rfl
  obtain ⟨d__law_hand, F__law_hand⟩ := c.def_ 12 rfl
  obtain ⟨d__law_draw, F__law_draw⟩ := c.def_ 13 rfl
  obtain ⟨d__law_pick, F__law_pick⟩ := c.def_ 14 rfl
  obtain ⟨d__law_entries, F__law_entries⟩ := c.def_ 15 rfl
  obtain ⟨d__law_numbers, F__law_numbers⟩ := c.def_ 16 rfl
  obtain ⟨d__law_size, F__law_size⟩ := c.def_ 17 rfl
  obtain ⟨d__law_pool, F__law_pool⟩ := c.def_ 18 rfl
  obtain ⟨d__law_count, F__law_count⟩ := c.def_ 19 rfl
  obtain ⟨d__law_row, F__law_row⟩ := c.def_ 20 rfl
  obtain ⟨d__law_differs, F__law_differs⟩ := c.def_ 21 rfl
  obtain ⟨d__law_spoilt, F__law_spoilt⟩ := c.def_ 22 rfl
  obtain ⟨d__law_told, F__law_told⟩ := c.def_ 23 rfl
  obtain ⟨d__law_due_pairs, F__law_due_pairs⟩ := c.def_ 24 rfl
  obtain ⟨d__law_renaming_right, F__law_renaming_right⟩ := c.def_ 25 rfl
  obtain ⟨d__law_odd, F__law_odd⟩ := c.def_ 26 rfl
  obtain ⟨d__law_odd_right, F__law_odd_right⟩ := c.def_ 27 rfl
  obtain ⟨d_law, F_law⟩ := c.def_ 28 rfl
  obtain ⟨d_BadPattern__init__, F_BadPattern__init__⟩ := c.def_ 29 rfl
  obtain ⟨d_BadNames__init__, F_BadNames__init__⟩ := c.def_ 30 rfl
  obtain ⟨d_NoRenaming__init__, F_NoRenaming__init__⟩ := c.def_ 31 rfl
  obtain ⟨d_Pattern__init__, F_Pattern__init__⟩ := c.def_ 32 rfl
  have b_is_whole : Binds K d_is_whole ["thing", "low", "high"] [] := FunD.bindsN F_is_whole fun _ _ _ _ _ _ us hl => match us, hl with | [_, _, _], _ => rfl
  have b_is_name : Binds K d_is_name ["thing"] [] := FunD.bindsN F_is_name fun _ _ _ _ _ _ us hl => match us, hl with | [_], _ => rfl
  have b_is_sequence : Binds K d_is_sequence ["thing"] [] := FunD.bindsN F_is_sequence fun _ _ _ _ _ _ us hl => match us, hl with | [_], _ => rfl
  have b_numbered : Binds K d_numbered ["values"] [] := FunD.bindsN F_numbered fun _ _ _ _ _ _ us hl => match us, hl with | [_], _ => rfl
  have b__entries_fault : Binds K d__entries_fault ["entries"] [] := FunD.bindsN F__entries_fault fun _ _ _ _ _ _ us hl => match us, hl with | [_], _ => rfl
  have b_check_names : Binds K d_check_names ["names"] [] := FunD.bindsN F_check_names fun _ _ _ _ _ _ us hl => match us, hl with | [_], _ => rfl
  have b_check_unlike_names : Binds K d_check_unlike_names ["names"] [] := FunD.bindsN F_check_unlike_names fun _ _ _ _ _ _ us hl => match us, hl with | [_], _ => rfl
  have b__first_parting : Binds K d__first_parting ["one", "other"] [] := FunD.bindsN F__first_parting fun _ _ _ _ _ _ us hl => match us, hl with | [_, _], _ => rfl
  have b_first_difference : Binds K d_first_difference ["pattern", "names"] [] := FunD.bindsN F_first_difference fun _ _ _ _ _ _ us hl => match us, hl with | [_, _], _ => rfl
  have b_names_for : Binds K d_names_for ["pattern", "names"] [] := FunD.bindsN F_names_for fun _ _ _ _ _ _ us hl => match us, hl with | [_, _], _ => rfl
  have b_renaming_of : Binds K d_renaming_of ["one", "other"] [] := FunD.bindsN F_renaming_of fun _ _ _ _ _ _ us hl => match us, hl with | [_, _], _ => rfl
  have b__law_mix : Binds K d__law_mix ["_law_number", "_law_turn"] [] := FunD.bindsN F__law_mix fun _ _ _ _ _ _ us hl => match us, hl with | [_, _], _ => rfl
  have b__law_hand : Binds K d__law_hand ["_law_script"] [] := FunD.bindsN F__law_hand fun _ _ _ _ _ _ us hl => match us, hl with | [_], _ => rfl
  have b__law_draw : Binds K d__law_draw ["_law_hand_here", "_law_many"] [] := FunD.bindsN F__law_draw fun _ _ _ _ _ _ us hl => match us, hl with | [_, _], _ => rfl
  have b__law_pick : Binds K d__law_pick ["_law_hand_here", "_law_things"] [] := FunD.bindsN F__law_pick fun _ _ _ _ _ _ us hl => match us, hl with | [_, _], _ => rfl
  have b__law_entries : Binds K d__law_entries ["_law_hand_here", "_law_size_here", "_law_empty"] [] := FunD.bindsN F__law_entries fun _ _ _ _ _ _ us hl => match us, hl with | [_, _, _], _ => rfl
  have b__law_numbers : Binds K d__law_numbers ["_law_things"] [] := FunD.bindsN F__law_numbers fun _ _ _ _ _ _ us hl => match us, hl with | [_], _ => rfl
  have b__law_size : Binds K d__law_size ["_law_hand_here"] [] := FunD.bindsN F__law_size fun _ _ _ _ _ _ us hl => match us, hl with | [_], _ => rfl
  have b__law_pool : Binds K d__law_pool ["_law_hand_here", "_law_many"] [] := FunD.bindsN F__law_pool fun _ _ _ _ _ _ us hl => match us, hl with | [_, _], _ => rfl
  have b__law_count : Binds K d__law_count ["_law_entries_here"] [] := FunD.bindsN F__law_count fun _ _ _ _ _ _ us hl => match us, hl with | [_], _ => rfl
  have b__law_row : Binds K d__law_row ["_law_entries_here", "_law_names"] [] := FunD.bindsN F__law_row fun _ _ _ _ _ _ us hl => match us, hl with | [_, _], _ => rfl
  have b__law_differs : Binds K d__law_differs ["_law_one", "_law_other"] [] := FunD.bindsN F__law_differs fun _ _ _ _ _ _ us hl => match us, hl with | [_, _], _ => rfl
  have b__law_spoilt : Binds K d__law_spoilt ["_law_hand_here", "_law_row_here", "_law_pool_here"] [] := FunD.bindsN F__law_spoilt fun _ _ _ _ _ _ us hl => match us, hl with | [_, _, _], _ => rfl
  have b__law_told : Binds K d__law_told ["_law_call"] [] := FunD.bindsN F__law_told fun _ _ _ _ _ _ us hl => match us, hl with | [_], _ => rfl
  have b__law_due_pairs : Binds K d__law_due_pairs ["_law_one", "_law_other"] [] := FunD.bindsN F__law_due_pairs fun _ _ _ _ _ _ us hl => match us, hl with | [_, _], _ => rfl
  have b__law_renaming_right : Binds K d__law_renaming_right ["_law_one", "_law_other"] [] := FunD.bindsN F__law_renaming_right fun _ _ _ _ _ _ us hl => match us, hl with | [_, _], _ => rfl
  have b__law_odd : Binds K d__law_odd ["_law_hand_here", "_law_names", "_law_word_pool"] [] := FunD.bindsN F__law_odd fun _ _ _ _ _ _ us hl => match us, hl with | [_, _, _], _ => rfl
  have b__law_odd_right : Binds K d__law_odd_right ["_law_hand_here", "_law_pattern", "_law_entries_here", "_law_names"] [] := FunD.bindsN F__law_odd_right fun _ _ _ _ _ _ us hl => match us, hl with | [_, _, _, _], _ => rfl
  have b_BadPattern__init__ : Binds K d_BadPattern__init__ ["self", "index", "what"] [] := FunD.bindsN F_BadPattern__init__ fun _ _ _ _ _ _ us hl => match us, hl with | [_, _, _], _ => rfl
  have b_BadNames__init__ : Binds K d_BadNames__init__ ["self", "index", "what"] [] := FunD.bindsN F_BadNames__init__ fun _ _ _ _ _ _ us hl => match us, hl with | [_, _, _], _ => rfl
  have b_NoRenaming__init__ : Binds K d_NoRenaming__init__ ["self", "place"] [] := FunD.bindsN F_NoRenaming__init__ fun _ _ _ _ _ _ us hl => match us, hl with | [_, _], _ => rfl
  have b_Pattern__init__ : Binds K d_Pattern__init__ ["self", "entries"] [] := FunD.bindsN F_Pattern__init__ fun _ _ _ _ _ _ us hl => match us, hl with | [_, _], _ => rfl
  have T : PatC K (He.ga K "Pattern") := ⟨(He.cls_ok (c.fact_ 48 (f := .cls "Pattern") rfl)), (He.noat_ok (c.fact_ 50 (f := .noat "Pattern" "entries") rfl)), (He.noat_ok (c.fact_ 51 (f := .noat "Pattern" "_classes") rfl))⟩
  obtain ⟨r1, r⟩ := b2 c.rest
  obtain ⟨r2, r⟩ := b2 r
  obtain ⟨r3, r⟩ := b2 r
  obtain ⟨r4, r⟩ := b2 r
  obtain ⟨r7, r8⟩ := b2 r
  have bP := badE_ok r1
  have bN := badE_ok r2
  have bR := badE_ok r3
  obtain ⟨d_count, F_count⟩ := funG c.prop r8
  have b_count : Binds K d_count ["self"] [] := FunD.bindsN F_count fun _ _ _ _ _ _ us hl => match us, hl with | [_], _ => rfl
  have e := hfa.symm.trans g_law
  cases e
  have b_law := FunD.bindsA (ps := ["_law_script"]) F_law fun _ _ _ _ _ _ us hl => match us, hl with | [_], _ => rfl
  refine ⟨d_law, fun s v => b_law s [v] rfl, fun base KX KG TB => ?_⟩
  have TB1 := TB ("_law_renaming_right", none) (List.mem_cons_self ..)
  have TB2 := TB ("_law_odd_right", none) (List.mem_cons_of_mem _ (List.mem_cons_self ..))
  have D_is_whole : Df P w K mg base "is_whole" 1 ["thing", "low", "high"] spWhole (He.ga K "is_whole") d_is_whole := ⟨g_is_whole, ok_whole F_is_whole z_int z_bool z_isinstance, b_is_whole, F_is_whole.kp⟩
  have D_is_name : Df P w K mg base "is_name" 2 ["thing"] spName (He.ga K "is_name") d_is_name := ⟨g_is_name, ok_name F_is_name D_is_whole.ok D_is_whole.bi D_is_whole.kp D_is_whole.gl g_MOST_NAME, b_is_name, F_is_name.kp⟩
  have D_is_sequence : Df P w K mg base "is_sequence" 1 ["thing"] spSeq (He.ga K "is_sequence") d_is_sequence := ⟨g_is_sequence, ok_seq F_is_sequence z_list z_tuple z_isinstance, b_is_sequence, F_is_sequence.kp⟩
  have D__entries_fault : Df P w K mg base "_entries_fault" 2 ["entries"] spEF (He.ga K "_entries_fault") d__entries_fault := ⟨g__entries_fault, ok_ef F__entries_fault z_len z_enumerate z_isinstance z_int z_bool g_MOST_PLACES D_is_sequence, b__entries_fault, F__entries_fault.kp⟩
  have XP : ErrC P w K mg base "BadPattern" ["self", "index", "what"] spPatErr (He.ga K "BadPattern") _ d_BadPattern__init__ := ⟨bP.ox, bP.ini, bP.ty, g_BadPattern, ok_patErr F_BadPattern__init__ bP.ox (He.noat_ok (c.fact_ 52 (f := .noat "BadPattern" "index") rfl)) (He.noat_ok (c.fact_ 53 (f := .noat "BadPattern" "what") rfl)), b_BadPattern__init__⟩
  have XN : ErrC P w K mg base "BadNames" ["self", "index", "what"] spPatErr (He.ga K "BadNames") _ d_BadNames__init__ := ⟨bN.ox, bN.ini, bN.ty, g_BadNames, ok_nmErr F_BadNames__init__ bN.ox (He.noat_ok (c.fact_ 54 (f := .noat "BadNames" "index") rfl)) (He.noat_ok (c.fact_ 55 (f := .noat "BadNames" "what") rfl)), b_BadNames__init__⟩
  have XR : ErrC P w K mg base "NoRenaming" ["self", "place"] spNoErr (He.ga K "NoRenaming") _ d_NoRenaming__init__ := ⟨bR.ox, bR.ini, bR.ty, g_NoRenaming, ok_noErr F_NoRenaming__init__ bR.ox (He.noat_ok (c.fact_ 56 (f := .noat "NoRenaming" "place") rfl)), b_NoRenaming__init__⟩
  have M : PatMk P w K mg base (He.ga K "Pattern") (He.ga K "BadPattern") _ d_Pattern__init__ := ⟨(He.mkr_ok (c.fact_ 49 (f := .mkr "Pattern") rfl)), g_Pattern, ok_pat F_Pattern__init__ T z_tuple z_max D__entries_fault XP, b_Pattern__init__⟩
  have PR : CountP P w K mg base (He.ga K "Pattern") (pA K) (gA K) d_count := ⟨proB_ok r7, ok_count F_count T, b_count⟩
  have D_numbered : Df P w K mg base "numbered" 1 ["values"] spNbS (He.ga K "numbered") d_numbered := ⟨g_numbered, ok_nbS F_numbered z_len, b_numbered, F_numbered.kp⟩
  have D_check_names : DfE P w K mg base "check_names" 3 ["names"] (spCN (He.ga K "BadNames")) (He.ga K "check_names") d_check_names := ⟨g_check_names, ok_cn F_check_names z_len z_enumerate g_MOST_PLACES D_is_sequence D_is_name XN, b_check_names, F_check_names.kp⟩
  have D_check_unlike_names : DfE P w K mg base "check_unlike_names" 3 ["names"] (spCU (He.ga K "BadNames")) (He.ga K "check_unlike_names") d_check_unlike_names := ⟨g_check_unlike_names, ok_cu F_check_unlike_names z_len z_enumerate g_MOST_PLACES D_is_sequence D_is_name XN, b_check_unlike_names, F_check_unlike_names.kp⟩
  have D__first_parting : Df P w K mg base "_first_parting" 1 ["one", "other"] spFP (He.ga K "_first_parting") d__first_parting := ⟨g__first_parting, ok_fp F__first_parting z_enumerate z_zip, b__first_parting, F__first_parting.kp⟩
  have D_first_difference : DfE P w K mg base "first_difference" 4 ["pattern", "names"] (spFD (He.ga K "Pattern") (He.ga K "BadNames")) (He.ga K "first_difference") d_first_difference := ⟨g_first_difference, ok_fd F_first_difference T z_len D_check_names D__first_parting D_numbered XN, b_first_difference, F_first_difference.kp⟩
  have D_names_for : DfE P w K mg base "names_for" 4 ["pattern", "names"] (spNF (He.ga K "Pattern") (He.ga K "BadNames")) (He.ga K "names_for") d_names_for := ⟨g_names_for, ok_nf F_names_for T z_len z_tuple D_check_unlike_names PR XN, b_names_for, F_names_for.kp⟩
  have D_renaming_of : DfE P w K mg base "renaming_of" 4 ["one", "other"] (spRO (He.ga K "BadNames") (He.ga K "NoRenaming")) (He.ga K "renaming_of") d_renaming_of := ⟨g_renaming_of, ok_ro F_renaming_of z_len z_min z_zip z_tuple D_check_names D__first_parting D_numbered XR, b_renaming_of, F_renaming_of.kp⟩
  have N : ErX K mg (He.ga K "BadNames") (He.ga K "NoRenaming") := ⟨g_BadNames, g_NoRenaming, bN.xf, bR.xf, (He.noat_ok (c.fact_ 54 (f := .noat "BadNames" "index") rfl)), (He.noat_ok (c.fact_ 55 (f := .noat "BadNames" "what") rfl)), (He.noat_ok (c.fact_ 56 (f := .noat "NoRenaming" "place") rfl)), (He.exm_ok (c.fact_ 57 (f := .exm "BadNames" "BadNames" true) rfl)), (He.exm_ok (c.fact_ 58 (f := .exm "NoRenaming" "BadNames" false) rfl)), (He.exm_ok (c.fact_ 59 (f := .exm "NoRenaming" "NoRenaming" true) rfl))⟩
  have D_draw0 : Df P w K mg base "_law_draw" 2 ["_law_hand_here", "_law_many"] spDraw (He.ga K "_law_draw") d__law_draw := ⟨g__law_draw, ok_draw F__law_draw z_int z_len F__law_mix g__law_mix, b__law_draw, F__law_draw.kp⟩
  have D__law_hand : Df P w K mg base "_law_hand" 1 ["_law_script"] (spHand K) (He.ga K "_law_hand") d__law_hand := ⟨g__law_hand, ok_hand F__law_hand z_int z_abs z_enumerate, b__law_hand, F__law_hand.kp⟩
  have D_pick0 : Df P w K mg base "_law_pick" 3 ["_law_hand_here", "_law_things"] (spPick K) (He.ga K "_law_pick") d__law_pick := ⟨g__law_pick, ok_pick F__law_pick z_len D_draw0, b__law_pick, F__law_pick.kp⟩
  have D__law_draw := D_draw0.draw
  have D__law_pick := D_pick0.pick
  have D__law_entries : Df P w K mg base "_law_entries" 3 ["_law_hand_here", "_law_size_here", "_law_empty"] spEn (He.ga K "_law_entries") d__law_entries := ⟨g__law_entries, ok_en F__law_entries z_range D__law_draw, b__law_entries, F__law_entries.kp⟩
  have D_num0 : Df P w K mg base "_law_numbers" 1 ["_law_things"] (spNums fun n : Nat => PyData.int (n : Int)) (He.ga K "_law_numbers") d__law_numbers := ⟨g__law_numbers, ok_nums encI F__law_numbers, b__law_numbers, F__law_numbers.kp⟩
  have D__law_numbers := D_num0.numI
  have D__law_size : Df P w K mg base "_law_size" 3 ["_law_hand_here"] spSize (He.ga K "_law_size") d__law_size := ⟨g__law_size, ok_size F__law_size D__law_draw, b__law_size, F__law_size.kp⟩
  have D__law_pool : Df P w K mg base "_law_pool" 3 ["_law_hand_here", "_law_many"] spPool (He.ga K "_law_pool") d__law_pool := ⟨g__law_pool, ok_pool F__law_pool z_len z_range D__law_draw, b__law_pool, F__law_pool.kp⟩
  have D__law_count : Df P w K mg base "_law_count" 1 ["_law_entries_here"] spCnt (He.ga K "_law_count") d__law_count := ⟨g__law_count, ok_cnt F__law_count z_max, b__law_count, F__law_count.kp⟩
  have D__law_row : Df P w K mg base "_law_row" 1 ["_law_entries_here", "_law_names"] spRow (He.ga K "_law_row") d__law_row := ⟨g__law_row, ok_row F__law_row, b__law_row, F__law_row.kp⟩
  have D__law_differs : Df P w K mg base "_law_differs" 2 ["_law_one", "_law_other"] spDiff (He.ga K "_law_differs") d__law_differs := ⟨g__law_differs, ok_diff F__law_differs z_len z_range D__law_numbers, b__law_differs, F__law_differs.kp⟩
  have D__law_spoilt : Df P w K mg base "_law_spoilt" 4 ["_law_hand_here", "_law_row_here", "_law_pool_here"] spSpl (He.ga K "_law_spoilt") d__law_spoilt := ⟨g__law_spoilt, ok_spl F__law_spoilt z_len z_range z_list D__law_draw D__law_pick, b__law_spoilt, F__law_spoilt.kp⟩
  have D__law_due_pairs : Df P w K mg base "_law_due_pairs" 2 ["_law_one", "_law_other"] spDue (He.ga K "_law_due_pairs") d__law_due_pairs := ⟨g__law_due_pairs, ok_due F__law_due_pairs z_len z_range z_min z_tuple D__law_numbers, b__law_due_pairs, F__law_due_pairs.kp⟩
  have D__law_renaming_right : DfG P w K mg base "_law_renaming_right" 7 ["_law_one", "_law_other"] (spRr (TL K)) (He.ga K "_law_renaming_right") d__law_renaming_right := ⟨g__law_renaming_right, ok_rr (funC_of F__law_renaming_right) TB1 m1 u1 z_repr z_tuple z_isinstance F__law_told g__law_told b__law_told N D_renaming_of D__law_numbers D__law_due_pairs, b__law_renaming_right, F__law_renaming_right.kp⟩
  have D__law_odd : Df P w K mg base "_law_odd" 4 ["_law_hand_here", "_law_names", "_law_word_pool"] spOdd (He.ga K "_law_odd") d__law_odd := ⟨g__law_odd, ok_odd F__law_odd z_len z_list D__law_draw D__law_pick, b__law_odd, F__law_odd.kp⟩
  have D__law_odd_right : Df P w K mg base "_law_odd_right" 7 ["_law_hand_here", "_law_pattern", "_law_entries_here", "_law_names"] (spOr (He.ga K "Pattern") (TL K)) (He.ga K "_law_odd_right") d__law_odd_right := ⟨g__law_odd_right, ok_or (funC_of F__law_odd_right) TB2 m2 u2 z_tuple z_list z_len z_max F__law_told g__law_told b__law_told N D_first_difference D_renaming_of D_names_for D__law_odd D__law_row D__law_count D__law_pick, b__law_odd_right, F__law_odd_right.kp⟩
  exact ok_law (funC_of F_law) z_tuple z_bool z_isinstance M D__law_hand D__law_draw D__law_size D__law_entries D__law_pool D__law_row D__law_count D__law_spoilt D__law_differs D__law_odd_right D_names_for D_first_difference D__law_renaming_right
end
end K27
open PySem PySem.W PySem.Calls PyProof.Rows
set_option maxRecDepth 100000 in
set_option maxHeartbeats 0 in
theorem PySem.Challenge.cw_namesakes_k27_whole_rows_of_names_led_to_holds : PySem.Challenge.rw_namesakes_k27_whole_rows_of_names_led_to.Holds := by
  w_on; o_law
  refine HandSHeadRun.head_any (r := OpenLaw.row PySem.Challenge.rw_namesakes_k27_whole_rows_of_names_led_to) (q := view (OpenLaw.row PySem.Challenge.rw_namesakes_k27_whole_rows_of_names_led_to).prog [43]) (H := K27.hookM) (ob := K27.ob) (M := 20000) (loose := K27.looseL)
    (d := HandSHeadRun.topDef (OpenLaw.row PySem.Challenge.rw_namesakes_k27_whole_rows_of_names_led_to).prog 43) (kwd := []) K27.ob_eq
    (by kernel_rfl) (fun s => by kernel_rfl) K27.run (by kernel_rfl) (by kernel_rfl) (by kernel_rfl) (by rfl) (by first | assumption | decide +kernel) (by decide +kernel) ⟨rfl, rfl, rfl, rfl, rfl, by decide +kernel⟩ ?hw ?hc
  case hw => w_witness2
  case hc =>
    refine GrdX.walk_ofG (l := PySem.Challenge.rw_namesakes_k27_whole_rows_of_names_led_to) (n := 63) (k := 8) (x := "_law_script") (CX := fun _ => L2.CX0) rfl (by decide) (by kernel_rfl) ⟨rfl, by decide, by decide⟩ ?F (fun _ _ _ _ _ z => z)
    intro w mg fa h Y G hmg0
    obtain ⟨K, KX, c⟩ := Y
    have hmg : mg ("law" : PySem.Str) = some (.ref fa) := by
      have e : (HandSHeadRun.topDef (OpenLaw.row PySem.Challenge.rw_namesakes_k27_whole_rows_of_names_led_to).prog 43).name = ("law" : PySem.Str) := by kernel_rfl
      rw [← e]
      exact hmg0
    obtain ⟨fd, hb, hF⟩ := K27.facts (P := (PySem.Challenge.rw_namesakes_k27_whole_rows_of_names_led_to).prog) (w := w) KX G hmg c.m
    refine ⟨K, K27.tf.map fun p => He.cT K p, KX, fd, K27.spLaw K (K27.TL K), fun p hp => ?_, hb, fun H a ns hl _ hT hS => ⟨a, ns, rfl, hS, hl, fun p hp => ?_, fun _ => rfl⟩, fun base KB GB TB => hF base KB GB fun p hp => TB _ (List.mem_map.mpr ⟨p, hp, rfl⟩)⟩
    · obtain ⟨d, hd, rfl⟩ := List.mem_map.mp hp
      exact ⟨c.empty d hd, c.out d hd, PySem.W.codeHd_of_K KX (c.hd d hd)⟩
    · rcases List.mem_cons.mp hp with rfl | hp
      · exact LamX.TabS.nil (hT (He.cT K ("_law_renaming_right", none)) (List.mem_map.mpr ⟨_, List.mem_cons_self .., rfl⟩))
      rcases List.mem_cons.mp hp with rfl | hp
      · exact LamX.TabS.nil (hT (He.cT K ("_law_odd_right", none)) (List.mem_map.mpr ⟨_, List.mem_cons_of_mem _ (List.mem_cons_self ..), rfl⟩))
      cases hp
