import PyProof.Rows.All
import Wide.All
import OpenK.AllK
import Wide.FinOn
import KE.KStateDown
import KE.KExcIs
import HandS.ForMost
import HandS.Exc
import HandS.ExcOwn
import HandS.ExcInit
import HandS.ExcField
import HandS.ExcValue
import HandS.IsInst
import HandS.ExcIs
import HandS.Deep
import HandS.Wide
import HandS.Walk
import HandS.Flow
import HandS.Defaults
import HandS.Words
import HandS.WordsList
import HandS.WordsExc
import HandS.TryOnly
import HandS.Head0
import HandS.Head1
import HandS.Head2
import HandS.HeadEnd
import HandS.HeadHook1
import HandS.HeadHook2
import PySem.Challenge.RW_namesakes_k26_whole_finer_least_above_an
import HandS.HeadHook4
import HandS.SortKw
import KE.DataMinMax
import HandS.OwnEq
import HandS.More
import HandS.SuiteRaise
import HandS.RaiseFrom
import HandS.ExcInitHot
import HandS.Iter
import PyProof.EnumMake
import PyProof.Draws
import KE.GoesMore
import HandS.Text
import HandS.Conv
import HandS.Dict
import HandS.NoneIn
import PyProof.P3Eq
import PyProof.DictFindH
import PyProof.DictRoadsH
import HandS.TupSets
import OpenK.KMeth
import HandS.TupLen
import HandS.Property
import HandS.Lambda
import HandS.Style
import HandS.HeadWalk
set_option Elab.async false
set_option linter.all false
set_option maxRecDepth 100000
set_option maxHeartbeats 4000000
namespace K26
open PySem PySem.Spec PyProof.Rows L2
def top (i : Nat) : Stmt := PySem.Challenge.pw_namesakes_k26_whole_finer_least_above_an.main.body.getD i (.Pass ⟨0, 0, 0, 0⟩)
abbrev FnP (K : PySem.W.Frag) (x : Str) (st : Stmt) (f : Addr) (fd : FuncData) : Prop := FunD K x x (defArgs st) (defBody st) (defScope st) [] [] f fd
abbrev sPWall : Stmt := top 0
abbrev sPIsSequence : Stmt := top 6
abbrev sPNumbered : Stmt := top 9
abbrev sPEntriesFault : Stmt := top 10
abbrev sPCheckMatch : Stmt := top 12
abbrev sPMerged : Stmt := top 13
abbrev sPIsFiner : Stmt := top 14
abbrev sMix : Stmt := top 16
abbrev sHand : Stmt := top 17
abbrev sDraw : Stmt := top 18
abbrev sPick : Stmt := top 19
abbrev sMask : Stmt := top 20
abbrev sOn : Stmt := top 21
abbrev sNumbers : Stmt := top 22
abbrev sNear : Stmt := top 23
abbrev sFiner : Stmt := top 24
abbrev sAbove : Stmt := top 25
abbrev sBeneath : Stmt := top 26
abbrev sMatchWord : Stmt := top 27
abbrev sWord : Stmt := top 28
abbrev sIs : Stmt := top 29
abbrev sPairRight : Stmt := top 30
abbrev sThreeRight : Stmt := top 31
abbrev sUnmatchedRight : Stmt := top 32
abbrev sLaw : Stmt := top 33
end K26

namespace K26
open PySem PySem.Spec PyProof.Rows L2
def oexB (K : PySem.W.Frag) (C : Addr) : Bool := match K.lookup C with
  | some ⟨.type t, _, .cls cd, sl⟩ => decide (t = "type") && (match cd.mro, sl.toList with
    | .ref C' :: bm, [_, _, _, _, some (.builtin n), _] => decide (C' = C) && (decide (n = "ValueError.__new__") && (cd.hasDict && (!cd.hasDel && PySem.HandSPX.refsVE bm)))
    | _, _ => false)
  | _ => false
/-- what isinstance and the reads of fields ask of a class -/
def excB (K : PySem.W.Frag) (D : Addr) : Bool :=
  decide (PySem.W.findIn K (.ref D) "__getattribute__" = some (some (.builtin "BaseException.__getattribute__"))) && (
  decide (PySem.W.findIn K (.ref D) "__getattr__" = some none) && (
  decide (PySem.W.subIn K (.ref D) (.type "BaseException") = some true) && (
  PySem.W.hasDictIn K D && (
  decide (PySem.W.findIn K (.ref D) "__class__" = some (some (.builtin "object.__class__"))) && (
  decide (PySem.W.mroIn K D (.type "object") = some true) && (
  decide (PySem.W.findIn K (.ref D) "__setattr__" = some (some (.builtin "object.__setattr__"))) && (
  decide (PySem.W.typeIn K (.ref D) = some (.type "type")) && (
  PySem.W.keepIn K (.ref D)))))))))
def dunB (K : PySem.W.Frag) : Bool :=
  decide (PySem.W.specialIn K (.builtin "object.__class__") "__get__" = some (some (.builtin "getset_descriptor.__get__"))) && decide (PySem.W.takesIn K (.builtin "object.__class__") = some true)
/-- an error with an own __init__ -/
def badE (K : PySem.W.Frag) (C : Addr) : Bool :=
  oexB K C && (excB K C && (
  decide (PySem.W.findIn K (.ref C) "__init__" = some (some (.ref (He.ma K C "__init__")))) &&
  decide (PySem.W.typeIn K (.ref (He.ma K C "__init__")) = some (.type "function"))))
/-- a class with an own __eq__ -/
def eqB (K : PySem.W.Frag) (C : Addr) : Bool :=
  decide (PySem.W.findIn K (.ref C) "__eq__" = some (some (.ref (He.ma K C "__eq__")))) && (PySem.W.isFn K (.ref (He.ma K C "__eq__")) && (PySem.W.notFirst K C (.ref C) && PySem.W.notFirst K C (.type "tuple")))
/-- the property -/
def pA (K : PySem.W.Frag) : Addr := He.ma K (He.ga K "Pattern") "class_count"
def gA (K : PySem.W.Frag) : Addr := match PySem.W.recIn K (pA K) "property" with
  | some (.ref g :: _) => g
  | _ => 0
def proB (K : PySem.W.Frag) : Bool :=
  decide (PySem.W.findIn K (.ref (He.ga K "Pattern")) "class_count" = some (some (.ref (pA K)))) && (
  decide (PySem.W.specialIn K (.ref (pA K)) "__get__" = some (some (.builtin "property.__get__"))) && (
  decide (PySem.W.takesIn K (.ref (pA K)) = some true) && (match PySem.W.recIn K (pA K) "property" with
    | some (.ref _ :: _) => true
    | _ => false)))
def gW (K : PySem.W.Frag) : He.FnW := match K.lookup (gA K) with
  | some ⟨_, _, .func d, _⟩ => some (d.name, d.qualname, d.params, d.body, d.scope, d.globals, d.closure, d.builtins)
  | _ => none
def gB (K : PySem.W.Frag) : Bool := PySem.W.keepIn K (.ref (gA K)) && (match K.lookup (gA K) with
  | some ⟨_, _, .func d, _⟩ => PySem.W.codeIn K d.code "Pattern.class_count" && (He.dflB K d.defaults [] && He.kwdB K d.kwdefaults [])
  | _ => false)
def opB (K : PySem.W.Frag) (m : Str) : Bool := decide (PySem.W.findIn K (.ref (He.ga K "Pattern")) m = some (some (.ref (He.ma K (He.ga K "Pattern") m)))) && PySem.W.isFn K (.ref (He.ma K (He.ga K "Pattern") m))
def restB (K : PySem.W.Frag) : Bool := badE K (He.ga K "BadPattern") && (badE K (He.ga K "BadMatch") && (eqB K (He.ga K "Pattern") && (opB K "__or__" && (opB K "__and__" && (PySem.W.selfFirst K (He.ga K "Pattern") && (proB K && gB K))))))
def fa : List He.Fa := [.free "int",
  .free "bool",
  .free "isinstance",
  .free "len",
  .free "list",
  .free "tuple",
  .free "enumerate",
  .free "range",
  .free "abs",
  .free "type",
  .free "max",
  .free "set",
  .glo "is_sequence",
  .glo "numbered",
  .glo "_entries_fault",
  .glo "check_match",
  .glo "_merged",
  .glo "is_finer",
  .glo "_law_mix",
  .glo "_law_hand",
  .glo "_law_draw",
  .glo "_law_pick",
  .glo "_law_mask",
  .glo "_law_on",
  .glo "_law_numbers",
  .glo "_law_near",
  .glo "_law_finer",
  .glo "_law_above",
  .glo "_law_beneath",
  .glo "_law_match_word",
  .glo "_law_word",
  .glo "_law_is",
  .glo "_law_pair_right",
  .glo "_law_three_right",
  .glo "_law_unmatched_right",
  .glo "law",
  .glo "Pattern",
  .glo "BadPattern",
  .glo "BadMatch",
  .int "MOST_PLACES" 40,
  .cls "Pattern",
  .mkr "Pattern",
  .noat "Pattern" "entries",
  .noat "Pattern" "_classes",
  .noat "BadPattern" "index",
  .noat "BadPattern" "what",
  .noat "BadMatch" "what",
  .exm "BadMatch" "BadMatch" true]
def dG (x : Str) (st : Stmt) : He.DefD := ⟨(x, none), x, x, defArgs st, defBody st, defScope st, [], []⟩
def fn : List He.DefD := [dG "is_sequence" sPIsSequence,
  dG "numbered" sPNumbered,
  dG "_entries_fault" sPEntriesFault,
  dG "check_match" sPCheckMatch,
  dG "_merged" sPMerged,
  dG "is_finer" sPIsFiner,
  dG "_law_mix" sMix,
  dG "_law_hand" sHand,
  dG "_law_draw" sDraw,
  dG "_law_pick" sPick,
  dG "_law_mask" sMask,
  dG "_law_on" sOn,
  dG "_law_numbers" sNumbers,
  dG "_law_near" sNear,
  dG "_law_finer" sFiner,
  dG "_law_above" sAbove,
  dG "_law_beneath" sBeneath,
  dG "_law_match_word" sMatchWord,
  dG "_law_word" sWord,
  dG "_law_is" sIs,
  dG "_law_pair_right" sPairRight,
  dG "_law_three_right" sThreeRight,
  dG "_law_unmatched_right" sUnmatchedRight,
  dG "law" sLaw,
  ⟨("BadPattern", some "__init__"), "__init__", "BadPattern.__init__", defArgs (inClass (top 3) 0), defBody (inClass (top 3) 0), defScope (inClass (top 3) 0), [], []⟩,
  ⟨("BadMatch", some "__init__"), "__init__", "BadMatch.__init__", defArgs (inClass (top 4) 0), defBody (inClass (top 4) 0), defScope (inClass (top 4) 0), [], []⟩,
  ⟨("Pattern", some "__init__"), "__init__", "Pattern.__init__", defArgs (inClass (top 11) 0), defBody (inClass (top 11) 0), defScope (inClass (top 11) 0), [], []⟩,
  ⟨("Pattern", some "__or__"), "__or__", "Pattern.__or__", defArgs (inClass (top 11) 8), defBody (inClass (top 11) 8), defScope (inClass (top 11) 8), [], []⟩,
  ⟨("Pattern", some "__and__"), "__and__", "Pattern.__and__", defArgs (inClass (top 11) 9), defBody (inClass (top 11) 9), defScope (inClass (top 11) 9), [], []⟩,
  ⟨("Pattern", some "__eq__"), "__eq__", "Pattern.__eq__", defArgs (inClass (top 11) 10), defBody (inClass (top 11) 10), defScope (inClass (top 11) 10), [], []⟩]
abbrev sCount0 : Stmt := inClass (top 11) 2
/-! ### the Hook -/
abbrev AlM : Type := Bool × List He.FnW × He.FnW
def obsM (K : PySem.W.Frag) : AlM := ((fa.all fun f => f.ok K) && (restB K && fn.all fun d => d.ok K), fn.map fun d => He.fnW K d.at_, gW K)
def valM : AlM := (true, fn.map He.DefD.val, some ("class_count", "Pattern.class_count", defArgs sCount0, .stmts (defBody sCount0), defScope sCount0, mainGlobals, [], builtinsNs))
def SaysM (K : PySem.W.Frag) : Prop := obsM K = valM
/-- the def whose lambdas' code objects are laid: its code object, its table -/
def tf : List He.Defn := [("_law_unmatched_right", none)]
structure SaysN (h : Heap) (K : PySem.W.Frag) : Prop where
  m : SaysM K
  hd : ∀ p ∈ tf, PySem.W.codeHdIn K (He.cT K p).1 (He.cT K p).2 = true
  out : ∀ p ∈ tf, K.lookup (He.cT K p).2 = none
  empty : ∀ p ∈ tf, h.get? (He.cT K p).2 = some { cls := .none, data := .fields #[] }
end K26

namespace K26
open PySem PySem.Spec PyProof.Rows L2
def refs1 (o : Obj) : List Addr := match o.data with
  | .dict es _ => es.toList.flatMap fun e => He.refV e.val
  | .func fd => He.refV fd.code ++ He.refV fd.defaults
  | .cls cd => [cd.ns]
  | .fields vs => vs.toList.flatMap He.refV
  | .seq its _ => its.toList.flatMap He.refV
  | _ => []
def nxt (g : Addr → Option Obj) (as : List Addr) : List Addr := as.flatMap fun a => match g a with
  | some o => refs1 o
  | none => []
def asL (g : Addr → Option Obj) : Nat → List Addr → List Addr
  | 0, as => as
  | n + 1, as => as ++ asL g n (nxt g as)
def asM (g : Addr → Option Obj) : List Addr := asL g 5 [mainGlobals]
abbrev AlN : Type := AlM × Bool
def obsMG (g : Addr → Option Obj) : AlN := (obsM (He.frT g (asM g)), He.tabsB g tf (He.frT g (asM g)))
theorem says_of {h : Heap} (e : obsMG h.get? = (valM, true)) : SaysN h (He.frT h.get? (asM h.get?)) := by
  have e1 : SaysM (He.frT h.get? (asM h.get?)) := congrArg (fun z : AlN => z.1) e
  have h2 : He.tabsB h.get? tf (He.frT h.get? (asM h.get?)) = true := congrArg (fun z : AlN => z.2) e
  generalize hK : He.frT h.get? (asM h.get?) = K at e1 h2
  have key : ∀ p ∈ tf, PySem.W.codeHdIn K (He.cT K p).1 (He.cT K p).2 = true ∧ ∃ o, h.get? (He.cT K p).2 = some o ∧ He.emptyTab o = true := fun p hp => by
    obtain ⟨h3, h4⟩ := Bool.and_eq_true_iff.mp (List.all_eq_true.mp h2 p hp)
    refine ⟨h3, ?_⟩
    cases q : h.get? (He.cT K p).2 with
    | none =>
      rw [q] at h4
      cases h4
    | some o =>
      rw [q] at h4
      exact ⟨o, rfl, h4⟩
  refine ⟨e1, fun p hp => (key p hp).1, fun p hp => ?_, fun p hp => ?_⟩
  · obtain ⟨_, o, q, z⟩ := key p hp
    have y := He.frT_none (as := asM h.get?) q z
    rw [hK] at y
    exact y
  · obtain ⟨_, o, q, z⟩ := key p hp
    rw [q, He.emptyTab_eq z]
def hookM : PySem.W.Hook where
  α := AlN
  obs := fun s => obsMG s.heap.get?
  val := fun _ => (valM, true)
  says := fun _ h => ∃ K : PySem.W.Frag, K.In h ∧ SaysN h K
  of := fun _ _ e => ⟨_, He.frT_in, says_of e⟩
  keeps := fun _ _ _ ⟨K, hK, c⟩ k => ⟨K, PySem.W.Frag.In.keeps hK k, ⟨c.m, c.hd, c.out, fun p hp => k _ _ (c.empty p hp)⟩⟩
abbrev R : PySem.W.OpenRow := PySem.W.OpenLaw.row PySem.Challenge.rw_namesakes_k26_whole_finer_least_above_an
def ob (s : PySem.W.SharedT) : AlN := obsMG (HandSHeadRun.getT s)
theorem ob_eq (s : PySem.W.SharedT) : ob s = hookM.obs s.abs := by
  have e : HandSHeadRun.getT s = s.abs.heap.get? := funext (HandSHeadRun.getT_eq s)
  show obsMG (HandSHeadRun.getT s) = obsMG s.abs.heap.get?
  rw [e]
def looseL : List Str := [("_wall" : Str), ("CustomError" : Str), ("BadPattern" : Str), ("BadMatch" : Str), ("is_sequence" : Str), ("MOST_PLACES" : Str), ("numbered" : Str), ("_entries_fault" : Str), ("Pattern" : Str), ("check_match" : Str), ("_merged" : Str), ("is_finer" : Str), ("_law_mix" : Str), ("_law_hand" : Str), ("_law_draw" : Str), ("_law_pick" : Str), ("_law_mask" : Str), ("_law_on" : Str), ("_law_numbers" : Str), ("_law_near" : Str), ("_law_finer" : Str), ("_law_above" : Str), ("_law_beneath" : Str), ("_law_match_word" : Str), ("_law_word" : Str), ("_law_is" : Str), ("_law_pair_right" : Str), ("_law_three_right" : Str), ("_law_unmatched_right" : Str)]
theorem run (w : World) : HandSHeadRun.RunEq R (PySem.W.view R.prog [33]) hookM ob 20000 looseL w := by
  intro os
  kernel_rfl
end K26


namespace K26
section
variable {α β : Type}
/-- two places hold the same -/
def Ker (l : List (Option α)) (i j : Nat) : Prop := ∃ x, l[i]? = some (some x) ∧ l[j]? = some (some x)
theorem Ker.symm {l : List (Option α)} {i j : Nat} (h : Ker l i j) : Ker l j i := by
  obtain ⟨x, a, b⟩ := h
  exact ⟨x, b, a⟩
theorem Ker.trans {l : List (Option α)} {i j k : Nat} (h : Ker l i j) (g : Ker l j k) : Ker l i k := by
  obtain ⟨x, a, b⟩ := h
  obtain ⟨y, c, d⟩ := g
  rw [b] at c
  cases c
  exact ⟨x, a, d⟩
theorem Ker.left {l : List (Option α)} {i j : Nat} (h : Ker l i j) : Ker l i i := h.trans h.symm
/-- the same places are nobody's -/
def Mask (l : List (Option α)) (m : List (Option β)) : Prop := l.map Option.isSome = m.map Option.isSome
theorem Mask.len {l : List (Option α)} {m : List (Option β)} (h : Mask l m) : l.length = m.length := by
  have := congrArg List.length h
  simpa using this
theorem Mask.at_ {l : List (Option α)} {m : List (Option β)} (h : Mask l m) (i : Nat) : (l[i]?).map Option.isSome = (m[i]?).map Option.isSome := by
  have := congrArg (fun z => z[i]?) h
  simpa [List.getElem?_map] using this
theorem Mask.some {l : List (Option α)} {m : List (Option β)} (h : Mask l m) {i : Nat} {x : α} (e : l[i]? = some (some x)) : ∃ y, m[i]? = some (some y) := by
  have z := h.at_ i
  rw [e] at z
  cases e2 : m[i]? with
  | none => rw [e2] at z; cases z
  | some o =>
    cases o with
    | none => rw [e2] at z; cases z
    | some y => exact ⟨y, rfl⟩
theorem Mask.symm {l : List (Option α)} {m : List (Option β)} (h : Mask l m) : Mask m l := Eq.symm h
end
section
variable {α β : Type} [DecidableEq α] [DecidableEq β]
/-- numbers in the order of first coming -/
def numA : List α → List (Option α) → List (Option Nat)
  | _, [] => []
  | met, none :: r => none :: numA met r
  | met, some x :: r => if x ∈ met then some (met.idxOf x) :: numA met r else some met.length :: numA (met ++ [x]) r
def num (l : List (Option α)) : List (Option Nat) := numA [] l
theorem mask_num : ∀ (l : List (Option α)) (met : List α), (numA met l).map Option.isSome = l.map Option.isSome
  | [], _ => rfl
  | none :: r, met => congrArg (List.cons false) (mask_num r met)
  | some x :: r, met => by
    unfold numA
    split
    · exact congrArg (List.cons true) (mask_num r met)
    · exact congrArg (List.cons true) (mask_num r (met ++ [x]))
theorem Mask.nums (l : List (Option α)) : Mask (num l) l := mask_num l []
theorem num_len (l : List (Option α)) : (num l).length = l.length := (Mask.nums l).len
theorem idx_of {l : List α} {x : α} (h : x ∈ l) : l[l.idxOf x]? = some x := by
  have hl := List.idxOf_lt_length_of_mem h
  rw [List.getElem?_eq_getElem hl]
  simp
/-- what the numbers met stand for: read at place i -/
theorem num_at : ∀ (l : List (Option α)) (met : List α), met.Nodup → ∃ fin : List α, (met ++ fin).Nodup ∧
    ∀ i : Nat, (∀ x, l[i]? = some (some x) → ∃ k, (numA met l)[i]? = some (some k) ∧ (met ++ fin)[k]? = some x)
  | [], met, h => ⟨[], by simpa using h, fun i x e => by cases e⟩
  | none :: r, met, h => by
    obtain ⟨fin, h1, h2⟩ := num_at r met h
    refine ⟨fin, h1, fun i x e => ?_⟩
    cases i with
    | zero => cases e
    | succ i => exact h2 i x e
  | some x :: r, met, h => by
    by_cases hx : x ∈ met
    · obtain ⟨fin, h1, h2⟩ := num_at r met h
      refine ⟨fin, h1, fun i y e => ?_⟩
      unfold numA
      rw [if_pos hx]
      cases i with
      | zero =>
        cases e
        refine ⟨_, rfl, ?_⟩
        rw [List.getElem?_append_left (List.idxOf_lt_length_of_mem hx)]
        exact idx_of hx
      | succ i => exact h2 i y e
    · have hn : (met ++ [x]).Nodup := by
        rw [List.nodup_append]
        refine ⟨h, by simp, fun a ha b hb => ?_⟩
        rw [List.mem_singleton.mp hb]
        exact fun z => hx (z ▸ ha)
      obtain ⟨fin, h1, h2⟩ := num_at r (met ++ [x]) hn
      refine ⟨x :: fin, by simpa using h1, fun i y e => ?_⟩
      unfold numA
      rw [if_neg hx]
      cases i with
      | zero =>
        cases e
        exact ⟨met.length, rfl, by simp⟩
      | succ i =>
        obtain ⟨k, k1, k2⟩ := h2 i y e
        exact ⟨k, k1, by simpa using k2⟩
theorem nodup_get {l : List α} (h : l.Nodup) {i j : Nat} {x : α} (a : l[i]? = some x) (b : l[j]? = some x) : i = j := by
  obtain ⟨hi, ei⟩ := List.getElem?_eq_some_iff.mp a
  obtain ⟨hj, ej⟩ := List.getElem?_eq_some_iff.mp b
  have a := List.Nodup.idxOf_getElem h i hi
  have b := List.Nodup.idxOf_getElem h j hj
  rw [ei] at a
  rw [ej] at b
  exact a.symm.trans b
theorem ker_num (l : List (Option α)) (i j : Nat) : Ker (num l) i j ↔ Ker l i j := by
  obtain ⟨fin, h1, h2⟩ := num_at l [] List.nodup_nil
  have M := Mask.nums l
  refine ⟨fun ⟨k, a, b⟩ => ?_, fun ⟨x, a, b⟩ => ?_⟩
  · obtain ⟨x, ex⟩ := M.some a
    obtain ⟨y, ey⟩ := M.some b
    obtain ⟨k1, e1, f1⟩ := h2 i x ex
    obtain ⟨k2, e2, f2⟩ := h2 j y ey
    have a' : (numA [] l)[i]? = some (some k) := a
    have b' : (numA [] l)[j]? = some (some k) := b
    rw [a'] at e1
    rw [b'] at e2
    cases e1
    cases e2
    rw [f1] at f2
    cases f2
    exact ⟨x, ex, ey⟩
  · obtain ⟨k1, e1, f1⟩ := h2 i x a
    obtain ⟨k2, e2, f2⟩ := h2 j x b
    obtain rfl := nodup_get h1 f1 f2
    exact ⟨k1, e1, e2⟩
end
section
variable {α β : Type} [DecidableEq α] [DecidableEq β]
/-- the same kernel: the same numbers -/
theorem num_ext_aux : ∀ (l : List (Option α)) (m : List (Option β)) (L : List (Option α)) (M : List (Option β)) (p : Nat) (met : List α) (met' : List β),
    L.drop p = l → M.drop p = m → met.Nodup → met'.Nodup → met.length = met'.length → (∀ i j, Ker L i j ↔ Ker M i j) → Mask L M →
    (∀ (k : Nat) (x : α) (y : β), met[k]? = some x → met'[k]? = some y → ∃ q, q < p ∧ L[q]? = some (some x) ∧ M[q]? = some (some y)) →
    (∀ (q : Nat) (x : α), q < p → L[q]? = some (some x) → x ∈ met) → (∀ (q : Nat) (y : β), q < p → M[q]? = some (some y) → y ∈ met') → numA met l = numA met' m
  | [], m, L, M, p, met, met', e1, e2, _, _, _, _, hM, _, _, _ => by
    have a := congrArg List.length e1
    have b := congrArg List.length e2
    have c := hM.len
    rw [List.length_drop] at a b
    have : m.length = 0 := by simp at a; omega
    rw [List.eq_nil_of_length_eq_zero this]
    rfl
  | o :: l, m, L, M, p, met, met', e1, e2, nd, nd', hl, hk, hM, hq, h1, h2 => by
    have lp : L[p]? = some o := by
      have := congrArg (fun z => z[0]?) e1
      simpa using this
    have mp : ∃ o' m', m = o' :: m' := by
      have a := congrArg List.length e1
      have b := congrArg List.length e2
      have c := hM.len
      rw [List.length_drop] at a b
      cases m with
      | nil => simp at a b; omega
      | cons o' m' => exact ⟨o', m', rfl⟩
    obtain ⟨o', m', rfl⟩ := mp
    have mp : M[p]? = some o' := by
      have := congrArg (fun z => z[0]?) e2
      simpa using this
    have e1' : L.drop (p + 1) = l := by
      have := congrArg (fun z => z.drop 1) e1
      simpa [List.drop_drop, Nat.add_comm] using this
    have e2' : M.drop (p + 1) = m' := by
      have := congrArg (fun z => z.drop 1) e2
      simpa [List.drop_drop, Nat.add_comm] using this
    have mo := hM.at_ p
    rw [lp, mp] at mo
    have mo : o.isSome = o'.isSome := by simpa using mo
    cases o with
    | none =>
      cases o' with
      | some y => cases mo
      | none =>
        refine congrArg (List.cons none) (num_ext_aux l m' L M (p + 1) met met' e1' e2' nd nd' hl hk hM (fun k x y a b => ?_) (fun q x a b => ?_) fun q y a b => ?_)
        · obtain ⟨q, q1, q2⟩ := hq k x y a b
          exact ⟨q, by omega, q2⟩
        · rcases Nat.lt_succ_iff_lt_or_eq.mp a with a | a
          · exact h1 q x a b
          · rw [a, lp] at b; cases b
        · rcases Nat.lt_succ_iff_lt_or_eq.mp a with a | a
          · exact h2 q y a b
          · rw [a, mp] at b; cases b
    | some x =>
      cases o' with
      | none => cases mo
      | some y =>
        have link : ∀ k, met[k]? = some x ↔ met'[k]? = some y := fun k => by
          refine ⟨fun a => ?_, fun a => ?_⟩
          · have kl : k < met'.length := by have := (List.getElem?_eq_some_iff.mp a).1; omega
            obtain ⟨q, q1, q2, q3⟩ := hq k x met'[k] a (List.getElem?_eq_getElem kl)
            obtain ⟨z, z1, z2⟩ := (hk q p).mp ⟨x, q2, lp⟩
            rw [mp] at z2
            cases z2
            rw [q3] at z1
            rw [List.getElem?_eq_getElem kl]
            exact Option.some.inj z1
          · have kl : k < met.length := by have := (List.getElem?_eq_some_iff.mp a).1; omega
            obtain ⟨q, q1, q2, q3⟩ := hq k met[k] y (List.getElem?_eq_getElem kl) a
            obtain ⟨z, z1, z2⟩ := (hk q p).mpr ⟨y, q3, mp⟩
            rw [lp] at z2
            cases z2
            rw [q2] at z1
            rw [List.getElem?_eq_getElem kl]
            exact Option.some.inj z1
        have mem : x ∈ met ↔ y ∈ met' := by
          rw [List.mem_iff_getElem?, List.mem_iff_getElem?]
          exact ⟨fun ⟨k, a⟩ => ⟨k, (link k).mp a⟩, fun ⟨k, a⟩ => ⟨k, (link k).mpr a⟩⟩
        unfold numA
        by_cases hx : x ∈ met
        · rw [if_pos hx, if_pos (mem.mp hx)]
          have ei : met.idxOf x = met'.idxOf y := nodup_get nd' ((link _).mp (idx_of hx)) (idx_of (mem.mp hx))
          rw [ei]
          refine congrArg (List.cons _) (num_ext_aux l m' L M (p + 1) met met' e1' e2' nd nd' hl hk hM (fun k x y a b => ?_) (fun q x' a b => ?_) fun q y' a b => ?_)
          · obtain ⟨q, q1, q2⟩ := hq k x y a b
            exact ⟨q, by omega, q2⟩
          · rcases Nat.lt_succ_iff_lt_or_eq.mp a with a | a
            · exact h1 q x' a b
            · rw [a, lp] at b; cases b; exact hx
          · rcases Nat.lt_succ_iff_lt_or_eq.mp a with a | a
            · exact h2 q y' a b
            · rw [a, mp] at b; cases b; exact mem.mp hx
        · have hy := fun z => hx (mem.mpr z)
          rw [if_neg hx, if_neg hy, hl]
          have nn : ∀ {γ : Type} [DecidableEq γ] {l : List γ} {x : γ}, l.Nodup → ¬ x ∈ l → (l ++ [x]).Nodup := fun {γ} _ {l x} h n => by
            rw [List.nodup_append]
            refine ⟨h, by simp, fun a ha b hb => ?_⟩
            rw [List.mem_singleton.mp hb]
            exact fun z => n (z ▸ ha)
          refine congrArg (List.cons _) (num_ext_aux l m' L M (p + 1) (met ++ [x]) (met' ++ [y]) e1' e2' (nn nd hx) (nn nd' hy) (by simp [hl]) hk hM (fun k x' y' a b => ?_) (fun q x' a b => ?_) fun q y' a b => ?_)
          · by_cases kl : k < met.length
            · rw [List.getElem?_append_left kl] at a
              rw [List.getElem?_append_left (by omega)] at b
              obtain ⟨q, q1, q2⟩ := hq k x' y' a b
              exact ⟨q, by omega, q2⟩
            · rw [List.getElem?_append_right (by omega)] at a
              rw [List.getElem?_append_right (by omega), ← hl] at b
              cases z : k - met.length with
              | succ _ => rw [z] at a; cases a
              | zero =>
                rw [z] at a b
                cases a
                cases b
                exact ⟨p, by omega, lp, mp⟩
          · rcases Nat.lt_succ_iff_lt_or_eq.mp a with a | a
            · exact List.mem_append_left _ (h1 q x' a b)
            · rw [a, lp] at b; cases b; simp
          · rcases Nat.lt_succ_iff_lt_or_eq.mp a with a | a
            · exact List.mem_append_left _ (h2 q y' a b)
            · rw [a, mp] at b; cases b; simp
theorem num_ext {l : List (Option α)} {m : List (Option β)} (hM : Mask l m) (hk : ∀ i j, Ker l i j ↔ Ker m i j) : num l = num m :=
  num_ext_aux l m l m 0 [] [] (by simp) (by simp) List.nodup_nil List.nodup_nil rfl hk hM (fun k x y a => by simp at a) (fun q x a => absurd a (Nat.not_lt_zero _)) fun q y a => absurd a (Nat.not_lt_zero _)
theorem num_idem (l : List (Option α)) : num (num l) = num l := num_ext (Mask.nums l) (ker_num l)
end

/-! ### a number is at most its place -/
theorem numA_lt {α : Type} [DecidableEq α] : ∀ (l : List (Option α)) (met : List α) (i k : Nat), (numA met l)[i]? = some (some k) → k < met.length + i + 1
  | [], _, i, k, h => by cases h
  | none :: r, met, i, k, h => by
    cases i with
    | zero => cases h
    | succ i =>
      have := numA_lt r met i k h
      omega
  | some x :: r, met, i, k, h => by
    unfold numA at h
    split at h
    · rename_i hx
      cases i with
      | zero =>
        have := List.idxOf_lt_length_of_mem hx
        have e : met.idxOf x = k := by simpa using h
        omega
      | succ i =>
        have := numA_lt r met i k h
        omega
    · cases i with
      | zero =>
        have e : met.length = k := by simpa using h
        omega
      | succ i =>
        have := numA_lt r (met ++ [x]) i k h
        rw [List.length_append] at this
        simp at this
        omega
theorem num_lt {α : Type} [DecidableEq α] {l : List (Option α)} {i k : Nat} (h : (num l)[i]? = some (some k)) : k < l.length := by
  have a := numA_lt l [] i k h
  have b := (List.getElem?_eq_some_iff.mp h).1
  rw [num_len] at b
  simp at a
  omega
/-- numbered as patterns are -/
def Pt (p : List (Option Nat)) : Prop := num p = p
theorem Pt.nums {α : Type} [DecidableEq α] (l : List (Option α)) : Pt (num l) := num_idem l
theorem Pt.lt {p : List (Option Nat)} (h : Pt p) {i k : Nat} (e : p[i]? = some (some k)) : k < p.length := by
  rw [← h] at e
  exact num_lt e
theorem Pt.ext {p q : List (Option Nat)} (hp : Pt p) (hq : Pt q) (hM : Mask p q) (hk : ∀ i j, Ker p i j ↔ Ker q i j) : p = q := by
  have e := num_ext hM hk
  rw [hp, hq] at e
  exact e
theorem Mask.trans {α β γ : Type} {l : List (Option α)} {m : List (Option β)} {n : List (Option γ)} (h : Mask l m) (g : Mask m n) : Mask l n := Eq.trans h g
/-! ### finer -/
def Finer (a b : List (Option Nat)) : Prop := ∀ i j, Ker a i j → Ker b i j
theorem Finer.refl (a : List (Option Nat)) : Finer a a := fun _ _ h => h
/-- the least above -/
structure IsJoin {α : Type} (l : List (Option α)) (a b : List (Option Nat)) : Prop where
  mask : Mask l a
  left : ∀ i j, Ker a i j → Ker l i j
  right : ∀ i j, Ker b i j → Ker l i j
  least : ∀ R : Nat → Nat → Prop, (∀ i j, R i j → R j i) → (∀ i j k, R i j → R j k → R i k) → (∀ i j, Ker a i j → R i j) → (∀ i j, Ker b i j → R i j) → ∀ i j, Ker l i j → R i j
theorem IsJoin.le {α β : Type} {l : List (Option α)} {m : List (Option β)} {a b : List (Option Nat)} (h : IsJoin l a b) (f : ∀ i j, Ker a i j → Ker m i j) (g : ∀ i j, Ker b i j → Ker m i j) : ∀ i j, Ker l i j → Ker m i j :=
  h.least _ (fun _ _ z => z.symm) (fun _ _ _ z y => z.trans y) f g
theorem IsJoin.ker {α β : Type} {l : List (Option α)} {m : List (Option β)} {a b : List (Option Nat)} (h : IsJoin l a b) (g : IsJoin m a b) (i j : Nat) : Ker l i j ↔ Ker m i j :=
  ⟨h.le g.left g.right i j, g.le h.left h.right i j⟩
theorem IsJoin.nums {α : Type} [DecidableEq α] {l : List (Option α)} {a b : List (Option Nat)} (h : IsJoin l a b) : IsJoin (num l) a b :=
  ⟨(Mask.nums l).trans h.mask, fun i j z => (ker_num l i j).mpr (h.left i j z), fun i j z => (ker_num l i j).mpr (h.right i j z), fun R s t f g i j z => h.least R s t f g i j ((ker_num l i j).mp z)⟩
theorem IsJoin.same {α β : Type} [DecidableEq α] [DecidableEq β] {l : List (Option α)} {m : List (Option β)} {a b : List (Option Nat)} (h : IsJoin l a b) (g : IsJoin m a b) : num l = num m :=
  num_ext (h.mask.trans g.mask.symm) (h.ker g)
theorem IsJoin.swap {α : Type} {l : List (Option α)} {a b : List (Option Nat)} (h : IsJoin l a b) (hM : Mask a b) : IsJoin l b a :=
  ⟨h.mask.trans hM, h.right, h.left, fun R s t f g => h.least R s t g f⟩
/-- the greatest beneath -/
structure IsMeet {α : Type} (l : List (Option α)) (a b : List (Option Nat)) : Prop where
  mask : Mask l a
  ker : ∀ i j, Ker l i j ↔ (Ker a i j ∧ Ker b i j)
theorem IsMeet.nums {α : Type} [DecidableEq α] {l : List (Option α)} {a b : List (Option Nat)} (h : IsMeet l a b) : IsMeet (num l) a b :=
  ⟨(Mask.nums l).trans h.mask, fun i j => (ker_num l i j).trans (h.ker i j)⟩
theorem IsMeet.same {α β : Type} [DecidableEq α] [DecidableEq β] {l : List (Option α)} {m : List (Option β)} {a b : List (Option Nat)} (h : IsMeet l a b) (g : IsMeet m a b) : num l = num m :=
  num_ext (h.mask.trans g.mask.symm) fun i j => (h.ker i j).trans (g.ker i j).symm
theorem IsMeet.swap {α : Type} {l : List (Option α)} {a b : List (Option Nat)} (h : IsMeet l a b) (hM : Mask a b) : IsMeet l b a :=
  ⟨h.mask.trans hM, fun i j => (h.ker i j).trans ⟨fun z => ⟨z.2, z.1⟩, fun z => ⟨z.2, z.1⟩⟩⟩
/-! ### what the law asks of them -/
section
variable {a b c j m : List (Option Nat)}
theorem join_self (ha : Pt a) (hj : Pt j) (h : IsJoin j a a) : j = a := hj.ext ha h.mask fun _ _ => ⟨h.le (fun _ _ z => z) (fun _ _ z => z) _ _, h.left _ _⟩
theorem meet_self (ha : Pt a) (hm : Pt m) (h : IsMeet m a a) : m = a := hm.ext ha h.mask fun i k => (h.ker i k).trans ⟨fun z => z.1, fun z => ⟨z, z⟩⟩
/-- first | (first & second) -/
theorem join_meet (ha : Pt a) (hj : Pt j) (hm : IsMeet m a b) (h : IsJoin j a m) : j = a :=
  hj.ext ha h.mask fun _ _ => ⟨h.le (fun _ _ z => z) (fun i k z => ((hm.ker i k).mp z).1) _ _, h.left _ _⟩
/-- first & (first | second) -/
theorem meet_join (ha : Pt a) (hm : Pt m) (hj : IsJoin j a b) (h : IsMeet m a j) : m = a :=
  hm.ext ha h.mask fun i k => (h.ker i k).trans ⟨fun z => z.1, fun z => ⟨z, hj.left i k z⟩⟩
theorem finer_join (hb : Pt b) (hj : Pt j) (hM : Mask a b) (h : IsJoin j a b) : Finer a b ↔ j = b :=
  ⟨fun f => hj.ext hb (h.mask.trans hM) fun _ _ => ⟨h.le f (fun _ _ z => z) _ _, h.right _ _⟩, fun e i k z => e ▸ h.left i k z⟩
theorem finer_meet (ha : Pt a) (hm : Pt m) (h : IsMeet m a b) : Finer a b ↔ m = a :=
  ⟨fun f => hm.ext ha h.mask fun i k => (h.ker i k).trans ⟨fun z => z.1, fun z => ⟨z, f i k z⟩⟩, fun e i k z => ((h.ker i k).mp (e ▸ z)).2⟩
theorem join_finer (h : IsJoin j a b) : Finer j c ↔ (Finer a c ∧ Finer b c) :=
  ⟨fun f => ⟨fun i k z => f i k (h.left i k z), fun i k z => f i k (h.right i k z)⟩, fun ⟨f, g⟩ => h.le f g⟩
theorem finer_of_meet (h : IsMeet m a b) : Finer c m ↔ (Finer c a ∧ Finer c b) :=
  ⟨fun f => ⟨fun i k z => ((h.ker i k).mp (f i k z)).1, fun i k z => ((h.ker i k).mp (f i k z)).2⟩, fun ⟨f, g⟩ i k z => (h.ker i k).mpr ⟨f i k z, g i k z⟩⟩
theorem join_assoc {ab bc l r : List (Option Nat)} (hl : Pt l) (hr : Pt r) (h1 : IsJoin ab a b) (h2 : IsJoin bc b c) (g1 : IsJoin l ab c) (g2 : IsJoin r a bc) : l = r :=
  hl.ext hr ((g1.mask.trans h1.mask).trans g2.mask.symm) fun _ _ =>
    ⟨g1.le (h1.le g2.left (fun i k z => g2.right i k (h2.left i k z))) (fun i k z => g2.right i k (h2.right i k z)) _ _,
     g2.le (fun i k z => g1.left i k (h1.left i k z)) (h2.le (fun i k z => g1.left i k (h1.right i k z)) g1.right) _ _⟩
theorem meet_assoc {ab bc l r : List (Option Nat)} (hl : Pt l) (hr : Pt r) (h1 : IsMeet ab a b) (h2 : IsMeet bc b c) (g1 : IsMeet l ab c) (g2 : IsMeet r a bc) : l = r :=
  hl.ext hr ((g1.mask.trans h1.mask).trans g2.mask.symm) fun i k => by
    rw [g1.ker, g2.ker, h1.ker, h2.ker]
    exact ⟨fun z => ⟨z.1.1, z.1.2, z.2⟩, fun z => ⟨⟨z.1, z.2.1⟩, z.2.2⟩⟩
end
/-! ### the program's join: classes of the other, one by one -/
def alikeOf (found other : List (Option Nat)) (n : Nat) : List (Option Nat) := ((found.zip other).filter fun p => p.2 == some n).map (·.1)
/-- the first of a list -/
def hdN : List (Option Nat) → Option Nat
  | [] => none
  | x :: _ => x
def merge1 (found other : List (Option Nat)) (n : Nat) : List (Option Nat) := found.map fun e => if e ∈ alikeOf found other n then hdN (alikeOf found other n) else e
def mergeN (one other : List (Option Nat)) : Nat → List (Option Nat)
  | 0 => one
  | k + 1 => merge1 (mergeN one other k) other k
theorem mem_alike {found other : List (Option Nat)} {n : Nat} {e : Option Nat} : e ∈ alikeOf found other n ↔ ∃ i : Nat, found[i]? = some e ∧ other[i]? = some (some n) := by
  unfold alikeOf
  rw [List.mem_map]
  refine ⟨fun ⟨p, h, ep⟩ => ?_, fun ⟨i, a, b⟩ => ⟨(e, some n), List.mem_filter.mpr ⟨?_, by simp⟩, rfl⟩⟩
  · obtain ⟨h1, h2⟩ := List.mem_filter.mp h
    obtain ⟨i, hi⟩ := List.mem_iff_getElem?.mp h1
    rw [List.getElem?_zip_eq_some] at hi
    refine ⟨i, by rw [hi.1, ep], by rw [hi.2]; exact congrArg some (by simpa using h2)⟩
  · exact List.mem_iff_getElem?.mpr ⟨i, List.getElem?_zip_eq_some.mpr ⟨a, b⟩⟩
/-- the head of what is alike -/
theorem alike_head {found other : List (Option Nat)} {n : Nat} {e : Option Nat} (h : e ∈ alikeOf found other n) : hdN (alikeOf found other n) ∈ alikeOf found other n := by
  cases hA : alikeOf found other n with
  | nil => rw [hA] at h; cases h
  | cons x xs => exact List.mem_cons_self
theorem merge_at {found other : List (Option Nat)} {n i : Nat} : (merge1 found other n)[i]? = (found[i]?).map fun e => if e ∈ alikeOf found other n then hdN (alikeOf found other n) else e := List.getElem?_map ..
theorem alike_some {found other : List (Option Nat)} (hM : Mask found other) {n : Nat} {e : Option Nat} (h : e ∈ alikeOf found other n) : ∃ x, e = some x := by
  obtain ⟨i, a, b⟩ := mem_alike.mp h
  obtain ⟨y, ey⟩ := hM.symm.some b
  rw [a] at ey
  exact ⟨y, Option.some.inj ey⟩
theorem merge_mask {found other : List (Option Nat)} (hM : Mask found other) (n : Nat) : Mask (merge1 found other n) other := by
  refine Eq.trans ?_ hM
  unfold merge1
  rw [List.map_map]
  refine List.map_congr_left fun e _ => ?_
  show (if e ∈ alikeOf found other n then hdN (alikeOf found other n) else e).isSome = e.isSome
  split
  · rename_i h
    obtain ⟨x, rfl⟩ := alike_some hM h
    obtain ⟨y, hy⟩ := alike_some hM (alike_head h)
    rw [hy]
    rfl
  · rfl
theorem merge_keep {found other : List (Option Nat)} {n i j : Nat} (hM : Mask found other) (h : Ker found i j) : Ker (merge1 found other n) i j := by
  obtain ⟨x, a, b⟩ := h
  unfold Ker
  rw [merge_at, merge_at, a, b]
  by_cases hx : some x ∈ alikeOf found other n
  · obtain ⟨y, hy⟩ := alike_some hM (alike_head hx)
    exact ⟨y, by simp [hx, hy], by simp [hx, hy]⟩
  · exact ⟨x, by simp [hx], by simp [hx]⟩
theorem merge_class {found other : List (Option Nat)} {n i j : Nat} (hM : Mask found other) (hi : other[i]? = some (some n)) (hj : other[j]? = some (some n)) : Ker (merge1 found other n) i j := by
  obtain ⟨x, ex⟩ := hM.symm.some hi
  obtain ⟨y, ey⟩ := hM.symm.some hj
  have mx := mem_alike.mpr ⟨i, ex, hi⟩
  have my := mem_alike.mpr ⟨j, ey, hj⟩
  obtain ⟨z, hz⟩ := alike_some hM (alike_head mx)
  refine ⟨z, ?_, ?_⟩
  · rw [merge_at, ex]
    simp [mx, hz]
  · rw [merge_at, ey]
    simp [my, hz]
theorem merge_least {found other : List (Option Nat)} {n i j : Nat} {R : Nat → Nat → Prop} (s : ∀ i j, R i j → R j i) (t : ∀ i j k, R i j → R j k → R i k) (f : ∀ i j, Ker found i j → R i j) (g : ∀ i j, Ker other i j → R i j)
    (hM : Mask found other) (h : Ker (merge1 found other n) i j) : R i j := by
  obtain ⟨z, a, b⟩ := h
  rw [merge_at] at a b
  have pick : ∀ {k : Nat} {w : Nat}, ((found[k]?).map fun e => if e ∈ alikeOf found other n then hdN (alikeOf found other n) else e) = some (some w) → ∃ x, found[k]? = some (some x) ∧ ((some x ∈ alikeOf found other n ∧ hdN (alikeOf found other n) = some w) ∨ (¬ some x ∈ alikeOf found other n ∧ x = w)) := fun {k w} h => by
    cases e : found[k]? with
    | none => rw [e] at h; cases h
    | some o =>
      rw [e] at h
      have h2 : (if o ∈ alikeOf found other n then hdN (alikeOf found other n) else o) = some w := by simpa using h
      clear h
      by_cases ho : o ∈ alikeOf found other n
      · rw [if_pos ho] at h2
        obtain ⟨x, rfl⟩ := alike_some hM ho
        exact ⟨x, rfl, .inl ⟨ho, h2⟩⟩
      · rw [if_neg ho] at h2
        subst h2
        exact ⟨w, rfl, .inr ⟨ho, rfl⟩⟩
  obtain ⟨x, ex, hx⟩ := pick a
  obtain ⟨y, ey, hy⟩ := pick b
  rcases hx with ⟨hx, wx⟩ | ⟨hx, rfl⟩
  · rcases hy with ⟨hy, wy⟩ | ⟨hy, rfl⟩
    · obtain ⟨p, p1, p2⟩ := mem_alike.mp hx
      obtain ⟨q, q1, q2⟩ := mem_alike.mp hy
      exact t _ _ _ (f i p ⟨x, ex, p1⟩) (t _ _ _ (g p q ⟨n, p2, q2⟩) (f q j ⟨y, q1, ey⟩))
    · exact absurd (wx ▸ alike_head hx) hy
  · rcases hy with ⟨hy, wy⟩ | ⟨hy, rfl⟩
    · exact absurd (wy ▸ alike_head hy) hx
    · exact f i j ⟨_, ex, ey⟩
theorem mergeN_mask {one other : List (Option Nat)} (hM : Mask one other) : ∀ k, Mask (mergeN one other k) other
  | 0 => hM
  | k + 1 => merge_mask (mergeN_mask hM k) k
theorem mergeN_keep {one other : List (Option Nat)} (hM : Mask one other) {i j : Nat} (h : Ker one i j) : ∀ k, Ker (mergeN one other k) i j
  | 0 => h
  | k + 1 => merge_keep (mergeN_mask hM k) (mergeN_keep hM h k)
theorem mergeN_class {one other : List (Option Nat)} (hM : Mask one other) {i j c : Nat} (hi : other[i]? = some (some c)) (hj : other[j]? = some (some c)) : ∀ k, c < k → Ker (mergeN one other k) i j
  | 0, h => absurd h (Nat.not_lt_zero _)
  | k + 1, h => by
    rcases Nat.lt_succ_iff_lt_or_eq.mp h with h | h
    · exact merge_keep (mergeN_mask hM k) (mergeN_class hM hi hj k h)
    · subst h
      exact merge_class (mergeN_mask hM c) hi hj
theorem mergeN_least {one other : List (Option Nat)} {R : Nat → Nat → Prop} (s : ∀ i j, R i j → R j i) (t : ∀ i j k, R i j → R j k → R i k) (f : ∀ i j, Ker one i j → R i j) (g : ∀ i j, Ker other i j → R i j) (hM : Mask one other) :
    ∀ k i j, Ker (mergeN one other k) i j → R i j
  | 0, i, j, h => f i j h
  | k + 1, i, j, h => merge_least s t (mergeN_least s t f g hM k) g (mergeN_mask hM k) h
theorem merged_join {one other : List (Option Nat)} (hM : Mask one other) (hp : Pt other) : IsJoin (mergeN one other other.length) one other :=
  ⟨(mergeN_mask hM _).trans hM.symm, fun i j h => mergeN_keep hM h _, fun i j ⟨c, a, b⟩ => mergeN_class hM a b _ (hp.lt a), fun R s t f g i j h => mergeN_least s t f g hM _ i j h⟩

/-! ### the law's own join: places linked two by two -/
def at_ (l : List (Option Nat)) (i : Nat) : Option Nat := l.getD i none
/-- a mark -/
def mk (marks : List Nat) (i : Nat) : Nat := marks.getD i 0
theorem mk_of {l : List Nat} {i x : Nat} (h : l[i]? = some x) : mk l i = x := by
  unfold mk
  rw [List.getD_eq_getElem?_getD, h]
  rfl
def linkB (one other : List (Option Nat)) (i j : Nat) : Bool := (at_ one i).isSome && (decide (at_ one i = at_ one j) || decide (at_ other i = at_ other j))
def stepM (one other : List (Option Nat)) (marks : List Nat) (i j : Nat) : List Nat :=
  if linkB one other i j = true ∧ mk marks i ≠ mk marks j then marks.map fun m => if m = mk marks i then mk marks j else m else marks
def innerM (one other : List (Option Nat)) (marks : List Nat) (i : Nat) : Nat → List Nat
  | 0 => marks
  | j + 1 => stepM one other (innerM one other marks i j) i j
def outerM (one other : List (Option Nat)) : Nat → List Nat
  | 0 => List.range one.length
  | i + 1 => innerM one other (outerM one other i) i i
def Sm (marks : List Nat) (a b : Nat) : Prop := ∃ x : Nat, marks[a]? = some x ∧ marks[b]? = some x
section
variable {one other : List (Option Nat)} {marks : List Nat} {i j : Nat}
theorem stepM_len : (stepM one other marks i j).length = marks.length := by
  unfold stepM
  split
  · rw [List.length_map]
  · rfl
theorem innerM_len : ∀ k, (innerM one other marks i k).length = marks.length
  | 0 => rfl
  | k + 1 => stepM_len.trans (innerM_len k)
theorem outerM_len : ∀ k, (outerM one other k).length = one.length
  | 0 => List.length_range
  | k + 1 => (innerM_len k).trans (outerM_len k)
theorem stepM_keep {a b : Nat} (h : Sm marks a b) : Sm (stepM one other marks i j) a b := by
  obtain ⟨x, h1, h2⟩ := h
  unfold stepM
  split
  · exact ⟨_, by rw [List.getElem?_map, h1]; rfl, by rw [List.getElem?_map, h2]; rfl⟩
  · exact ⟨x, h1, h2⟩
theorem innerM_keep {a b : Nat} (h : Sm marks a b) : ∀ k, Sm (innerM one other marks i k) a b
  | 0 => h
  | k + 1 => stepM_keep (innerM_keep h k)
theorem getD_some {l : List Nat} {i : Nat} (h : i < l.length) : l[i]? = some (mk l i) := by
  unfold mk
  rw [List.getElem?_eq_getElem h, List.getD_eq_getElem?_getD, List.getElem?_eq_getElem h]
  rfl
theorem stepM_link (hi : i < marks.length) (hj : j < marks.length) (h : linkB one other i j = true) : Sm (stepM one other marks i j) i j := by
  have ei := getD_some hi
  have ej := getD_some hj
  unfold stepM
  by_cases e : mk marks i = mk marks j
  · rw [if_neg (fun z => z.2 e)]
    exact ⟨_, ei, by rw [ej, e]⟩
  · rw [if_pos ⟨h, e⟩]
    refine ⟨mk marks j, ?_, ?_⟩
    · rw [List.getElem?_map, ei]
      simp
    · rw [List.getElem?_map, ej]
      simp
theorem stepM_least {S : Nat → Nat → Prop} (s : ∀ a b, S a b → S b a) (t : ∀ a b c, S a b → S b c → S a c) (hi : i < marks.length) (hj : j < marks.length) (f : ∀ a b, Sm marks a b → S a b) (g : linkB one other i j = true → S i j) {a b : Nat} (h : Sm (stepM one other marks i j) a b) : S a b := by
  have ei := getD_some hi
  have ej := getD_some hj
  unfold stepM at h
  split at h
  · rename_i hl
    obtain ⟨x, h1, h2⟩ := h
    rw [List.getElem?_map] at h1 h2
    have lk := g hl.1
    generalize mk marks i = u at *
    generalize mk marks j = v at *
    have pick : ∀ {k : Nat}, (marks[k]?).map (fun m => if m = u then v else m) = some x → ∃ m, marks[k]? = some m ∧ ((m = u ∧ x = v) ∨ (m ≠ u ∧ x = m)) := fun {k} h => by
      cases e : marks[k]? with
      | none => rw [e] at h; cases h
      | some m =>
        rw [e] at h
        have h3 : (if m = u then v else m) = x := Option.some.inj h
        by_cases hm : m = u
        · rw [if_pos hm] at h3
          exact ⟨m, rfl, .inl ⟨hm, h3.symm⟩⟩
        · rw [if_neg hm] at h3
          exact ⟨m, rfl, .inr ⟨hm, h3.symm⟩⟩
    obtain ⟨m, em, hm⟩ := pick h1
    obtain ⟨n, en, hn⟩ := pick h2
    have toI : ∀ {k : Nat}, marks[k]? = some u → S k i := fun {k} e => f k i ⟨u, e, ei⟩
    have toJ : ∀ {k : Nat}, marks[k]? = some v → S k j := fun {k} e => f k j ⟨v, e, ej⟩
    rcases hm with ⟨rfl, rfl⟩ | ⟨hm, rfl⟩
    · rcases hn with ⟨rfl, _⟩ | ⟨hn, rfl⟩
      · exact t _ _ _ (toI em) (s _ _ (toI en))
      · exact t _ _ _ (toI em) (t _ _ _ lk (s _ _ (toJ en)))
    · rcases hn with ⟨rfl, rfl⟩ | ⟨hn, rfl⟩
      · exact t _ _ _ (toJ em) (s _ _ (t _ _ _ (toI en) lk))
      · exact f a b ⟨_, em, en⟩
  · exact f a b h
theorem innerM_link (hi : i < marks.length) {k j : Nat} (hj : j < k) (hk : k ≤ i) (h : linkB one other i j = true) : Sm (innerM one other marks i k) i j := by
  induction k with
  | zero => omega
  | succ k ih =>
    rcases Nat.lt_succ_iff_lt_or_eq.mp hj with hj | rfl
    · exact stepM_keep (ih hj (by omega))
    · exact stepM_link (by rw [innerM_len]; exact hi) (by rw [innerM_len]; omega) h
theorem innerM_least {S : Nat → Nat → Prop} (s : ∀ a b, S a b → S b a) (t : ∀ a b c, S a b → S b c → S a c) (hi : i < marks.length) (f : ∀ a b, Sm marks a b → S a b) (g : ∀ j, j < i → linkB one other i j = true → S i j) : ∀ k, k ≤ i → ∀ a b, Sm (innerM one other marks i k) a b → S a b
  | 0, _ => f
  | k + 1, hk => fun a b h => stepM_least s t (by rw [innerM_len]; exact hi) (by rw [innerM_len]; omega) (innerM_least s t hi f g k (by omega)) (g k (by omega)) h
end
section
variable {one other : List (Option Nat)}
theorem outerM_link {k i j : Nat} (hj : j < i) (hi : i < k) (hk : k ≤ one.length) (h : linkB one other i j = true) : Sm (outerM one other k) i j := by
  induction k with
  | zero => omega
  | succ k ih =>
    rcases Nat.lt_succ_iff_lt_or_eq.mp hi with hi | rfl
    · exact innerM_keep (ih hi (by omega)) _
    · exact innerM_link (by rw [outerM_len]; omega) hj (Nat.le_refl _) h
theorem outerM_least {S : Nat → Nat → Prop} (r : ∀ a, S a a) (s : ∀ a b, S a b → S b a) (t : ∀ a b c, S a b → S b c → S a c) (g : ∀ i j, j < i → linkB one other i j = true → S i j) : ∀ k, k ≤ one.length → ∀ a b, Sm (outerM one other k) a b → S a b
  | 0, _ => fun a b ⟨x, h1, h2⟩ => by
    have e : ∀ {a : Nat}, (List.range one.length)[a]? = some x → a = x := fun {a} h => by
      obtain ⟨ha, ea⟩ := List.getElem?_eq_some_iff.mp h
      rw [List.getElem_range] at ea
      exact ea
    rw [e h1, e h2]
    exact r x
  | k + 1, hk => innerM_least s t (by rw [outerM_len]; omega) (outerM_least r s t g k (by omega)) (fun j hj => g k j hj) k (Nat.le_refl _)
/-- marks of the places that are somebody's -/
def marked (one : List (Option Nat)) (marks : List Nat) : List (Option Nat) := (List.range one.length).map fun i => if at_ one i = none then none else some (mk marks i)
theorem at_get {l : List (Option Nat)} {i : Nat} (h : i < l.length) : l[i]? = some (at_ l i) := by
  unfold at_
  rw [List.getElem?_eq_getElem h, List.getD_eq_getElem?_getD, List.getElem?_eq_getElem h]
  rfl
theorem at_of {l : List (Option Nat)} {i : Nat} {o : Option Nat} (h : l[i]? = some o) : at_ l i = o := by
  unfold at_
  rw [List.getD_eq_getElem?_getD, h]
  rfl
theorem marked_at {marks : List Nat} {i : Nat} (h : i < one.length) : (marked one marks)[i]? = some (if at_ one i = none then none else some (mk marks i)) := by
  unfold marked
  rw [List.getElem?_map, List.getElem?_range h]
  rfl
theorem marked_len {marks : List Nat} : (marked one marks).length = one.length := by
  unfold marked
  rw [List.length_map, List.length_range]
theorem ker_marked {marks : List Nat} (hl : marks.length = one.length) {i j : Nat} : Ker (marked one marks) i j ↔ (Ker one i i ∧ Ker one j j ∧ Sm marks i j) := by
  have at2 : ∀ {i x : Nat}, (marked one marks)[i]? = some (some x) ↔ (Ker one i i ∧ marks[i]? = some x) := fun {i x} => by
    refine ⟨fun h => ?_, fun ⟨⟨y, hy, _⟩, hm⟩ => ?_⟩
    · have il := (List.getElem?_eq_some_iff.mp h).1
      rw [marked_len] at il
      rw [marked_at il] at h
      cases e : at_ one i with
      | none => rw [e] at h; cases h
      | some y =>
        rw [e] at h
        have h2 : mk marks i = x := by
          have z := Option.some.inj h
          rw [if_neg (by simp)] at z
          exact Option.some.inj z
        refine ⟨⟨y, ?_, ?_⟩, ?_⟩
        · rw [at_get il, e]
        · rw [at_get il, e]
        · rw [getD_some (by omega), h2]
    · have il := (List.getElem?_eq_some_iff.mp hy).1
      rw [marked_at il, at_of hy]
      rw [mk_of hm]
      simp
  constructor
  · rintro ⟨x, a, b⟩
    exact ⟨(at2.mp a).1, (at2.mp b).1, x, (at2.mp a).2, (at2.mp b).2⟩
  · rintro ⟨a, b, x, c, d⟩
    exact ⟨x, at2.mpr ⟨a, c⟩, at2.mpr ⟨b, d⟩⟩
theorem link_iff (hM : Mask one other) {i j : Nat} (hi : i < one.length) (hj : j < one.length) : linkB one other i j = true ↔ (Ker one i j ∨ Ker other i j) := by
  have lo := hM.len
  unfold linkB
  rw [Bool.and_eq_true_iff, Bool.or_eq_true_iff, decide_eq_true_iff, decide_eq_true_iff]
  constructor
  · rintro ⟨h, e | e⟩
    · obtain ⟨x, hx⟩ := Option.isSome_iff_exists.mp h
      exact .inl ⟨x, by rw [at_get hi, hx], by rw [at_get hj, ← e, hx]⟩
    · obtain ⟨x, hx⟩ := Option.isSome_iff_exists.mp h
      obtain ⟨y, hy⟩ := hM.some (show one[i]? = some (some x) by rw [at_get hi, hx])
      exact .inr ⟨y, hy, by rw [at_get (by omega), ← e, at_of hy]⟩
  · rintro (⟨x, a, b⟩ | ⟨y, a, b⟩)
    · exact ⟨by rw [at_of a]; rfl, .inl (by rw [at_of a, at_of b])⟩
    · obtain ⟨x, hx⟩ := hM.symm.some a
      exact ⟨by rw [at_of hx]; rfl, .inr (by rw [at_of a, at_of b])⟩
theorem Ker.lt {α : Type} {l : List (Option α)} {i j : Nat} (h : Ker l i j) : i < l.length ∧ j < l.length := by
  obtain ⟨x, a, b⟩ := h
  exact ⟨(List.getElem?_eq_some_iff.mp a).1, (List.getElem?_eq_some_iff.mp b).1⟩
theorem Mask.ker {α β : Type} {l : List (Option α)} {m : List (Option β)} (h : Mask l m) {i : Nat} (k : Ker l i i) : Ker m i i := by
  obtain ⟨x, a, _⟩ := k
  obtain ⟨y, e⟩ := h.some a
  exact ⟨y, e, e⟩
def aboveL (one other : List (Option Nat)) : List (Option Nat) := marked one (outerM one other one.length)
theorem above_join (hM : Mask one other) : IsJoin (aboveL one other) one other := by
  have hl : (outerM one other one.length).length = one.length := outerM_len _
  have lk : ∀ i j, (Ker one i j ∨ Ker other i j) → Sm (outerM one other one.length) i j := fun i j h => by
    have hij : i < one.length ∧ j < one.length := h.elim (fun z => z.lt) fun z => by rw [hM.len]; exact z.lt
    rcases Nat.lt_trichotomy i j with c | c | c
    · have z := outerM_link (k := one.length) c hij.2 (Nat.le_refl _) ((link_iff hM hij.2 hij.1).mpr (h.imp (fun z => z.symm) fun z => z.symm))
      obtain ⟨x, a, b⟩ := z
      exact ⟨x, b, a⟩
    · subst c
      exact ⟨_, getD_some (by omega), getD_some (by omega)⟩
    · exact outerM_link (k := one.length) c hij.1 (Nat.le_refl _) ((link_iff hM hij.1 hij.2).mpr h)
  refine ⟨?_, fun i j h => (ker_marked hl).mpr ⟨h.left, h.symm.left, lk i j (.inl h)⟩, fun i j h => (ker_marked hl).mpr ⟨hM.symm.ker h.left, hM.symm.ker h.symm.left, lk i j (.inr h)⟩, fun R s t f g i j h => ?_⟩
  · show (aboveL one other).map Option.isSome = one.map Option.isSome
    refine List.ext_getElem? fun i => ?_
    rw [List.getElem?_map, List.getElem?_map]
    by_cases hi : i < one.length
    · show ((marked one _)[i]?).map _ = _
      rw [marked_at hi, at_get hi]
      cases at_ one i <;> rfl
    · rw [List.getElem?_eq_none (by rw [show (aboveL one other).length = one.length from marked_len]; omega), List.getElem?_eq_none (by omega)]
  · obtain ⟨hi, hj, hs⟩ := (ker_marked hl).mp h
    have z := outerM_least (one := one) (other := other) (S := fun a b => a = b ∨ R a b) (fun a => .inl rfl) (fun a b z => z.imp (fun e => e.symm) (s a b)) (fun a b c z y => by
      rcases z with rfl | z
      · exact y
      · rcases y with rfl | y
        · exact .inr z
        · exact .inr (t _ _ _ z y)) (fun a b hb hab => by
      by_cases ha : a < one.length
      · exact .inr (((link_iff hM ha (by omega)).mp hab).elim (f a b) (g a b))
      · exfalso
        unfold linkB at hab
        have : at_ one a = none := by
          unfold at_
          rw [List.getD_eq_getElem?_getD, List.getElem?_eq_none (by omega)]
          rfl
        rw [this] at hab
        cases hab) one.length (Nat.le_refl _) i j hs
    rcases z with rfl | z
    · exact f _ _ hi
    · exact z
/-! ### the law's own meet, finer -/
def pairL (one other : List (Option Nat)) : List (Option (Nat × Nat)) := (List.range one.length).map fun i => match at_ one i, at_ other i with
  | some x, some y => some (x, y)
  | _, _ => none
theorem pair_at (hM : Mask one other) {i x y : Nat} : (pairL one other)[i]? = some (some (x, y)) ↔ (one[i]? = some (some x) ∧ other[i]? = some (some y)) := by
  unfold pairL
  rw [List.getElem?_map]
  have lo := hM.len
  by_cases hi : i < one.length
  · rw [List.getElem?_range hi, at_get hi, at_get (show i < other.length by omega)]
    cases e1 : at_ one i with
    | none => simp [e1]
    | some u =>
      cases e2 : at_ other i with
      | none => simp [e1, e2]
      | some v => simp [e1, e2]
  · rw [List.getElem?_eq_none (by rw [List.length_range]; omega), List.getElem?_eq_none (by omega)]
    simp
theorem beneath_meet (hM : Mask one other) : IsMeet (pairL one other) one other := by
  refine ⟨?_, fun i j => ⟨fun ⟨⟨x, y⟩, a, b⟩ => ?_, fun ⟨⟨x, a, b⟩, ⟨y, c, d⟩⟩ => ?_⟩⟩
  · show (pairL one other).map Option.isSome = one.map Option.isSome
    refine List.ext_getElem? fun i => ?_
    have lo := hM.len
    rw [List.getElem?_map, List.getElem?_map]
    unfold pairL
    rw [List.getElem?_map]
    by_cases hi : i < one.length
    · rw [List.getElem?_range hi, at_get hi]
      have m := hM.at_ i
      rw [at_get hi, at_get (show i < other.length by omega)] at m
      have m : (at_ one i).isSome = (at_ other i).isSome := Option.some.inj m
      cases e : at_ one i with
      | none => simp [e]
      | some u =>
        rw [e] at m
        cases e2 : at_ other i with
        | none => rw [e2] at m; cases m
        | some v => simp [e, e2]
    · rw [List.getElem?_eq_none (by rw [List.length_range]; omega), List.getElem?_eq_none (by omega)]
      rfl
  · obtain ⟨a1, a2⟩ := (pair_at hM).mp a
    obtain ⟨b1, b2⟩ := (pair_at hM).mp b
    exact ⟨⟨x, a1, b1⟩, ⟨y, a2, b2⟩⟩
  · exact ⟨(x, y), (pair_at hM).mpr ⟨a, c⟩, (pair_at hM).mpr ⟨b, d⟩⟩
def badB (one other : List (Option Nat)) (i j : Nat) : Bool := (at_ one i).isSome && (decide (at_ one i = at_ one j) && !decide (at_ other i = at_ other j))
theorem finer_iff (hM : Mask one other) : Finer one other ↔ ∀ i, i < one.length → ∀ j, j < i → badB one other i j = false := by
  have lo := hM.len
  constructor
  · intro f i hi j hj
    rw [Bool.eq_false_iff]
    intro h
    unfold badB at h
    rw [Bool.and_eq_true_iff, Bool.and_eq_true_iff, decide_eq_true_iff] at h
    obtain ⟨h1, h2, h3⟩ := h
    obtain ⟨x, hx⟩ := Option.isSome_iff_exists.mp h1
    obtain ⟨y, a, b⟩ := f i j ⟨x, by rw [at_get hi, hx], by rw [at_get (by omega), ← h2, hx]⟩
    rw [at_of a, at_of b, decide_eq_true rfl] at h3
    cases h3
  · intro h i j k
    have key : ∀ i j, j < i → Ker one i j → Ker other i j := fun i j hj ⟨x, a, b⟩ => by
      have z := h i (List.getElem?_eq_some_iff.mp a).1 j hj
      unfold badB at z
      rw [at_of a, at_of b] at z
      obtain ⟨u, hu⟩ := hM.some a
      obtain ⟨v, hv⟩ := hM.some b
      rw [at_of hu, at_of hv] at z
      have e : u = v := by simpa using z
      subst e
      exact ⟨u, hu, hv⟩
    rcases Nat.lt_trichotomy i j with c | c | c
    · exact (key j i c k.symm).symm
    · subst c
      exact hM.ker k
    · exact key i j c k
end
/-! ### how many pairs there are -/
theorem cover_len : ∀ (c : Nat) (l : List Nat), (∀ k, k < c → k ∈ l) → c ≤ l.length
  | 0, _, _ => Nat.zero_le _
  | c + 1, l, h => by
    have hc := h c (Nat.lt_succ_self c)
    have z := cover_len c (l.erase c) fun k hk => (List.mem_erase_of_ne (by omega)).mpr (h k (by omega))
    rw [List.length_erase_of_mem hc] at z
    have := List.length_pos_of_mem hc
    omega
theorem dup_of : ∀ (l : List Nat), ¬ l.Nodup → ∃ x, x ∈ l ∧ x ∈ l.erase x
  | [], h => absurd List.nodup_nil h
  | a :: t, h => by
    by_cases ha : a ∈ t
    · exact ⟨a, List.mem_cons_self, by rw [List.erase_cons_head]; exact ha⟩
    · obtain ⟨x, h1, h2⟩ := dup_of t fun z => h (List.nodup_cons.mpr ⟨ha, z⟩)
      have ne : a ≠ x := fun z => ha (z ▸ h1)
      exact ⟨x, List.mem_cons_of_mem _ h1, by rw [List.erase_cons_tail (by simpa using ne)]; exact List.mem_cons_of_mem _ h2⟩
theorem nodup_le : ∀ (l m : List Nat), l.Nodup → (∀ x ∈ l, x ∈ m) → l.length ≤ m.length
  | [], _, _, _ => Nat.zero_le _
  | a :: t, m, h, g => by
    obtain ⟨h1, h2⟩ := List.nodup_cons.mp h
    have ha := g a List.mem_cons_self
    have z := nodup_le t (m.erase a) h2 fun x hx => (List.mem_erase_of_ne (fun e => by rw [e] at hx; exact h1 hx)).mpr (g x (List.mem_cons_of_mem _ hx))
    rw [List.length_erase_of_mem ha] at z
    have := List.length_pos_of_mem ha
    rw [List.length_cons]
    omega
theorem len_nodup {l : List Nat} {c : Nat} (h : ∀ k, k ∈ l ↔ k < c) : l.length = c ↔ l.Nodup := by
  refine ⟨fun e => Decidable.byContradiction fun n => ?_, fun n => ?_⟩
  · obtain ⟨x, h1, h2⟩ := dup_of l n
    have z := cover_len c (l.erase x) fun k hk => by
      by_cases e : k = x
      · exact e ▸ h2
      · exact (List.mem_erase_of_ne e).mpr ((h k).mpr hk)
    rw [List.length_erase_of_mem h1] at z
    have := List.length_pos_of_mem h1
    omega
  · have a := cover_len c l fun k hk => (h k).mpr hk
    have b := nodup_le l (List.range c) n fun x hx => List.mem_range.mpr ((h x).mp hx)
    rw [List.length_range] at b
    omega
theorem nodup_map {α : Type} {f : α → Nat} : ∀ {l : List α}, l.Nodup → ((l.map f).Nodup ↔ ∀ a ∈ l, ∀ b ∈ l, f a = f b → a = b)
  | [], _ => ⟨fun _ a h => (by cases h), fun _ => List.nodup_nil⟩
  | x :: l, h => by
    obtain ⟨h1, h2⟩ := List.nodup_cons.mp h
    rw [List.map_cons, List.nodup_cons, nodup_map h2]
    constructor
    · rintro ⟨g1, g2⟩ a ha b hb e
      rcases List.mem_cons.mp ha with rfl | ha
      · rcases List.mem_cons.mp hb with rfl | hb
        · rfl
        · exact absurd (List.mem_map.mpr ⟨b, hb, e.symm⟩) g1
      · rcases List.mem_cons.mp hb with hb | hb
        · exact absurd (List.mem_map.mpr ⟨a, ha, by rw [e, hb]⟩) g1
        · exact g2 a ha b hb e
    · intro g
      refine ⟨fun z => ?_, fun a ha b hb e => g a (List.mem_cons_of_mem _ ha) b (List.mem_cons_of_mem _ hb) e⟩
      obtain ⟨b, hb, e⟩ := List.mem_map.mp z
      exact h1 ((g x List.mem_cons_self b (List.mem_cons_of_mem _ hb) e.symm) ▸ hb)
/-- as many pairs as classes: finer -/
theorem count_finer {one other : List (Option Nat)} (hM : Mask one other) {c : Nat} (hc : ∀ k, (∃ i : Nat, one[i]? = some (some k)) ↔ k < c) {L : List (Nat × Nat)} (nd : L.Nodup) (hL : ∀ x y, (x, y) ∈ L ↔ ∃ i : Nat, one[i]? = some (some x) ∧ other[i]? = some (some y)) :
    L.length = c ↔ Finer one other := by
  have e : (L.map (·.1)).length = L.length := List.length_map ..
  rw [← e, len_nodup (c := c) fun k => ?_, nodup_map nd]
  · constructor
    · rintro h i j ⟨x, a, b⟩
      obtain ⟨y, hy⟩ := hM.some a
      obtain ⟨y', hy'⟩ := hM.some b
      have z := h (x, y) ((hL x y).mpr ⟨i, a, hy⟩) (x, y') ((hL x y').mpr ⟨j, b, hy'⟩) rfl
      cases z
      exact ⟨y, hy, hy'⟩
    · rintro f ⟨x, y⟩ ha ⟨x', y'⟩ hb rfl
      obtain ⟨i, a1, a2⟩ := (hL _ _).mp ha
      obtain ⟨j, b1, b2⟩ := (hL _ _).mp hb
      obtain ⟨u, c1, c2⟩ := f i j ⟨_, a1, b1⟩
      rw [a2] at c1
      rw [b2] at c2
      cases c1
      cases c2
      rfl
  · rw [← hc k, List.mem_map]
    constructor
    · rintro ⟨⟨x, y⟩, h, rfl⟩
      obtain ⟨i, a, _⟩ := (hL x y).mp h
      exact ⟨i, a⟩
    · rintro ⟨i, a⟩
      obtain ⟨y, hy⟩ := hM.some a
      exact ⟨(k, y), (hL k y).mpr ⟨i, a, hy⟩, rfl⟩
end K26

namespace K26
open PySem PySem.Spec PyProof.Rows L2
/-! ### the hand from which a script is drawn -/
/-- what the hand's list holds: the cells' list, how many are taken, the rest of a great cell, the running number -/
abbrev handO (l : Addr) (i r t : Int) : HO := .lst [.ref l, .int i, .int r, .int t]
structure HandOk (cells : List Int) (i r t : Int) : Prop where
  len : cells.length ≤ 63
  pos : ∀ c ∈ cells, 0 ≤ c
  i0 : 0 ≤ i
  i1 : i ≤ 63
  r0 : 0 ≤ r
  t0 : 0 ≤ t
  t1 : t < 2147483629
def HandAt (H : Hp) (p l : Addr) (cells : List Int) (i r t : Int) : Prop := H p = some (handO l i r t) ∧ H l = some (.lst (cells.map V.int)) ∧ HandOk cells i r t
/-! ### promises -/
def spMix : Sp := fun vs H Q _ => ∃ n k : Int, vs = [.int n, .int k] ∧ 0 ≤ n ∧ n < 2147483647 ∧ 0 ≤ k ∧ k ≤ 64 ∧ ∀ d : Int, 0 ≤ d → Q (.int d) H
def spDraw : Sp := fun vs H Q _ => ∃ (p l : Addr) (cells : List Int) (i r t m : Int), vs = [.ref p, .int m] ∧ HandAt H p l cells i r t ∧ 0 < m ∧ m.natAbs < 2 ^ 8000 ∧
  ∀ d i' r' t' : Int, 0 ≤ d → d < m → HandOk cells i' r' t' → Q (.int d) (upd H p (handO l i' r' t'))
section
variable {P : Program} {w : World} {K : PySem.W.Frag} {mg : Str → Option Value} {base : Heap}
theorem scMix : FnScope ["_law_number", "_law_turn", "_law_once", "_law_twice"] ["_law_number", "_law_turn"] (defScope sMix) := ⟨rfl, rfl, rfl, by decide +kernel, rfl, by decide +kernel, by decide +kernel⟩
theorem pp31 : (2147483647 : Int) < 2 ^ 64 := by decide
theorem ok_mix {f : Addr} {fd : FuncData} (F : FnP K "_law_mix" sMix f fd) (zi : mg "int" = none) : FnOk P w K mg base CX0 1 f fd ["_law_number", "_law_turn"] spMix := by
  refine F.ok scMix (fun vs H Q E h => ?_) (fun cdv A outer s H vs Q E hr h => ?_)
  · obtain ⟨n, k, rfl, _⟩ := h
    rfl
  · obtain ⟨n, k, rfl, n0, n1, k0, k1, q⟩ := h
    refine ⟨_, PSs.nox (pss_cons (ps_set (i := 2) scMix.nd rfl (.inl rfl)
        (pe_op op_mod (pe_callTy call_int1 (by rfl) zi (by decide +kernel) (pa_cons
          (pe_op op_add (pe_op op_add (pe_op op_mul (pv 0) pe_int) (pe_op op_mul (pv 1) pe_int)) pe_int) pa_nil)) pe_int))
      (pss_cons (ps_set (i := 3) scMix.nd rfl (.inl rfl)
        (pe_op op_mod (pe_callTy call_int1 (by rfl) zi (by decide +kernel) (pa_cons
          (pe_op op_add (pe_op op_add (pe_op op_mul (pv 2) (pv 2)) (pe_op op_mul (pe_op op_fdiv (pv 2) pe_int) pe_int)) (pe_op op_mul (pv 1) pe_int)) pa_nil)) pe_int))
      (pss_one (ps_ret (pe_op op_fdiv (pe_op op_mod (pe_callTy call_int1 (by rfl) zi (by decide +kernel) (pa_cons
          (pe_op op_add (pe_op op_fdiv (pe_op op_mul (pv 3) (pv 3)) pe_int) (pv 2)) pa_nil)) pe_int) pe_int))))), ?_⟩
    refine ⟨_, rfl, _, _, rfl, rfl, .inl ⟨by omega, by omega⟩, _, rfl, _, _, rfl, rfl, .inl ⟨by omega, by omega⟩, _, _, rfl, rfl, _, _, rfl, rfl, .inl ⟨_, rfl, _, _, rfl, rfl, (by show (0 : Int) < 2147483647; decide), ?_⟩⟩
    refine ⟨_, rfl, _, rfl, _, _, rfl, rfl, .inl ⟨by omega, by omega⟩, _, rfl, _, _, rfl, rfl, ⟨by decide, by decide⟩, _, _, rfl, rfl, .inr ⟨by decide, by decide⟩, _, _, rfl, rfl, _, rfl, _, _, rfl, rfl, .inl ⟨by omega, by omega⟩, _, _, rfl, rfl, .inl ⟨_, rfl, _, _, rfl, rfl, (by show (0 : Int) < 2147483399; decide), ?_⟩⟩
    refine ⟨_, rfl, _, rfl, _, _, rfl, rfl, .inl ⟨by omega, by omega⟩, _, _, rfl, rfl, ⟨by decide, by decide⟩, _, rfl, _, _, rfl, rfl, .inl ⟨_, rfl, _, _, rfl, rfl, (by show (0 : Int) < 2147483563; decide), _, _, rfl, rfl, ⟨by decide, by decide⟩, ?_⟩⟩
    refine q _ ?_
    omega
theorem scDraw : FnScope ["_law_hand_here", "_law_many", "_law_cell", "_law_rest"] ["_law_hand_here", "_law_many"] (defScope sDraw) := ⟨rfl, rfl, rfl, by decide +kernel, rfl, by decide +kernel, by decide +kernel⟩
theorem ok_draw {f fM : Addr} {fd fdM : FuncData} (F : FnP K "_law_draw" sDraw f fd) (zi : mg "int" = none) (zl : mg "len" = none) (FM : FnP K "_law_mix" sMix fM fdM) (gM : mg "_law_mix" = some (.ref fM)) : FnOk P w K mg base CX0 2 f fd ["_law_hand_here", "_law_many"] spDraw := by
  have GM : FnOk P w K mg base CX0 1 fM fdM ["_law_number", "_law_turn"] spMix := ok_mix FM zi
  have bM : Binds K fdM ["_law_number", "_law_turn"] [] := FM.bindsN fun _ _ _ _ _ _ us hl => match us, hl with | [_, _], _ => rfl
  refine F.ok scDraw (fun vs H Q E h => ?_) (fun cdv A outer s H vs Q E hr h => ?_)
  · obtain ⟨p, l, cells, i, r, t, m, rfl, _⟩ := h
    rfl
  · obtain ⟨p, l, cells, i, r, t, m, rfl, ⟨hp, hl, ok⟩, m0, m1, q⟩ := h
    refine ⟨_, PSs.nox (pss_cons (ps_if (PW.pt (pw_and (pt_cmpR op_eq (pe_ix ix_list (pv 0) pe_int (fun _ _ => rfl)) pe_int (nomark _)) (pw_and1 (pt_cmpR op_lt (pe_ix ix_list (pv 0) pe_int (fun _ _ => rfl)) (pe_callB call_len_seq (by rfl) zl boot_len (pa_cons (pe_ix ix_list (pv 0) pe_int (fun _ _ => rfl)) pa_nil)) (nomark _)))))
          (pss_cons (ps_set (i := 2) scDraw.nd rfl (.inl rfl) (pe_ix ix_list (pe_ix ix_list (pv 0) pe_int (fun _ _ => rfl)) (pe_ix ix_list (pv 0) pe_int (fun _ _ => rfl)) (fun _ _ => rfl)))
          (pss_cons (ps_asg (pe_op op_add (pe_ix ix_list (pv 0) pe_int (fun _ _ => rfl)) pe_int) (pg_sub (pv 0) pe_int set_list))
          (pss_cons (ps_if (pt_cmpR op_lt (pv 2) (pe_op op_pow pe_int pe_int) (nomark _))
            (pss_one (ps_ret (pe_op op_mod (pe_callTy call_int1 (by rfl) zi (by decide +kernel) (pa_cons (pe_call GM hr (by rfl) gM FM.kp bM .nil pass0 (pa_cons (pe_op op_mod (pe_callTy call_int1 (by rfl) zi (by decide +kernel) (pa_cons (pv 2) pa_nil)) pe_int) (pa_cons (pe_ix ix_list (pv 0) pe_int (fun _ _ => rfl)) pa_nil))) pa_nil)) (pv 1)))) pss_nil)
          (pss_one (ps_asg (pv 2) (pg_sub (pv 0) pe_int set_list)))))) pss_nil)
      (pss_cons (ps_if (pt_cmpR op_gt (pe_ix ix_list (pv 0) pe_int (fun _ _ => rfl)) pe_int (nomark _))
          (pss_cons (ps_set (i := 3) scDraw.nd rfl (.inl rfl) (pe_ix ix_list (pv 0) pe_int (fun _ _ => rfl)))
          (pss_cons (ps_asg (pe_op op_fdivW (pv 3) (pv 1)) (pg_sub (pv 0) pe_int set_list))
          (pss_one (ps_ret (pe_op op_mod (pe_callTy call_int1 (by rfl) zi (by decide +kernel) (pa_cons (pv 3) pa_nil)) (pv 1)))))) pss_nil)
      (pss_cons (ps_asg (pe_op op_mod (pe_callTy call_int1 (by rfl) zi (by decide +kernel) (pa_cons (pe_op op_add (pe_ix ix_list (pv 0) pe_int (fun _ _ => rfl)) pe_int) pa_nil)) pe_int) (pg_sub (pv 0) pe_int set_list))
      (pss_one (ps_ret (pe_op op_mod (pe_callTy call_int1 (by rfl) zi (by decide +kernel) (pa_cons (pe_call GM hr (by rfl) gM FM.kp bM .nil pass0 (pa_cons (pe_ix ix_list (pv 0) pe_int (fun _ _ => rfl)) (pa_cons (pe_ix ix_list (pv 0) pe_int (fun _ _ => rfl)) pa_nil))) pa_nil)) (pv 1))))))), ?_⟩
    refine ⟨_, rfl, _, _, _, _, rfl, rfl, SqL.of hp, rfl, rfl, _, rfl, ?_⟩
    have mlog : m.natAbs.log2 < 9000 := Nat.lt_of_lt_of_le (PySem.Flt.log2_lt_of (by decide) m1) (by decide)
    have fin : ∀ (d i' r' t' : Int) (H2 : Hp), 0 ≤ d → d < m → HandOk cells i' r' t' → H2 = upd H p (handO l i' r' t') → Q (.int d) H2 := fun d i' r' t' H2 d0 d1 o e => by
      subst e
      exact q d i' r' t' d0 d1 o
    have npl : l ≠ p := fun z => by
      rw [z, hp] at hl
      have h2 := Option.some.inj hl
      injection h2 with h3
      have h4 := congrArg List.head? h3
      cases cells with
      | nil => cases h4
      | cons c cs => cases h4
    refine ite2 (fun e => ?_) (fun e => ?_)
    · refine ⟨_, rfl, _, _, _, _, rfl, rfl, SqL.of hp, rfl, _, rfl, _, _, _, _, rfl, rfl, SqL.of hp, rfl, _, _, rfl, .inl (SqL.of hl), _, _, rfl, rfl, _, rfl, ?_⟩
      refine ite2 (fun e1 => ?_) (fun e1 => ?_)
      · have HP0 := hp
        have hi0 : 0 ≤ i := ok.i0
        have hlen : ((cells.map V.int).length : Int) = (cells.length : Int) := by rw [List.length_map]
        have hlt : i < (cells.length : Int) := by
          have z : i < ((cells.map V.int).length : Int) := of_decide_eq_true e1
          omega
        have hnat : i.toNat < cells.length := by omega
        have hget : atI (cells.map V.int) i = some (.int cells[i.toNat]) := by
          have z := atI_nat (xs := cells.map V.int) (j := i.toNat) (v := .int cells[i.toNat]) (by rw [List.getElem?_map, List.getElem?_eq_getElem hnat]; rfl)
          rw [Int.toNat_of_nonneg hi0] at z
          exact z
        have c0 : 0 ≤ cells[i.toNat] := ok.pos _ (List.getElem_mem hnat)
        have hl63 := ok.len
        refine ⟨_, rfl, _, _, _, _, rfl, rfl, SqL.of hp, rfl, _, rfl, _, _, _, _, rfl, rfl, SqL.of hp, rfl, _, _, _, _, rfl, rfl, SqL.of hl, hget, ?_⟩
        generalize cells[i.toNat] = c at c0
        refine ⟨_, rfl, _, _, _, _, rfl, rfl, SqL.of hp, rfl, _, _, rfl, rfl, _, rfl, _, _, _, _, rfl, rfl, hp, rfl, ?_⟩
        have ok2 : HandOk cells (i + 1) c t := ⟨ok.len, ok.pos, by omega, by omega, c0, ok.t0, ok.t1⟩
        refine ⟨_, rfl, _, _, rfl, rfl, ⟨by decide, by decide, by decide⟩, _, _, rfl, rfl, _, rfl, ?_⟩
        refine ite2 (fun e2 => ?_) (fun e2 => ?_)
        · refine ⟨_, rfl, .inl ⟨_, rfl, _, _, rfl, rfl, (by show (0 : Int) < 2147483647; decide), _, rfl, _, _, _, _, rfl, rfl, SqL.of upd_same, rfl, _, _, rfl, Int.emod_nonneg _ (by decide), Int.emod_lt_of_pos _ (by decide), by omega, by omega, fun d d0 => ?_⟩⟩
          refine .inl ⟨_, rfl, _, rfl, _, _, rfl, rfl, m0, ?_⟩
          exact fin _ _ _ _ _ (Int.emod_nonneg _ (Int.ne_of_gt m0)) (Int.emod_lt_of_pos _ m0) ⟨ok.len, ok.pos, ok2.i0, ok2.i1, ok.r0, ok.t0, ok.t1⟩ (by simp only [upd_upd]; rfl)
        · refine ⟨_, rfl, _, rfl, _, _, _, _, rfl, rfl, upd_same, rfl, ?_⟩
          have HP : (upd (upd H p (.lst ([V.ref l, .int i, .int r, .int t].set 1 (.int (i + 1))))) p (.lst (([V.ref l, .int i, .int r, .int t].set 1 (.int (i + 1))).set 2 (.int c)))) p = some (handO l (i + 1) c t) := upd_same
          refine ⟨_, rfl, _, _, _, _, rfl, rfl, SqL.of HP, rfl, _, _, rfl, rfl, _, rfl, ?_⟩
          refine ite2 (fun e3 => ?_) (fun e3 => ?_)
          · refine ⟨_, rfl, _, _, _, _, rfl, rfl, SqL.of HP, rfl, ?_⟩
            refine ⟨_, rfl, _, rfl, _, _, rfl, rfl, ⟨m0, mlog⟩, _, rfl, _, _, _, _, rfl, rfl, HP, rfl, ?_⟩
            refine ⟨_, rfl, .inl ⟨_, rfl, _, rfl, _, _, rfl, rfl, m0, ?_⟩⟩
            exact fin _ _ _ _ _ (Int.emod_nonneg _ (Int.ne_of_gt m0)) (Int.emod_lt_of_pos _ m0) ⟨ok2.len, ok2.pos, ok2.i0, ok2.i1, Int.ediv_nonneg ok2.r0 (Int.le_of_lt m0), ok2.t0, ok2.t1⟩ (by simp only [upd_upd]; rfl)
          · refine ⟨_, rfl, _, _, _, _, rfl, rfl, SqL.of HP, rfl, _, _, rfl, rfl, .inl ⟨_, rfl, _, _, rfl, rfl, (by show (0 : Int) < 2147483629; decide), _, rfl, _, _, _, _, rfl, rfl, HP, rfl, ?_⟩⟩
            have u0 := ok2.i0
            have u1 := ok2.i1
            refine ⟨_, rfl, _, _, _, _, rfl, rfl, SqL.of upd_same, rfl, _, rfl, _, _, _, _, rfl, rfl, SqL.of upd_same, rfl, _, _, rfl, by omega, by omega, by omega, by omega, fun d d0 => ?_⟩
            refine .inl ⟨_, rfl, _, rfl, _, _, rfl, rfl, m0, ?_⟩
            exact fin _ _ _ _ _ (Int.emod_nonneg _ (Int.ne_of_gt m0)) (Int.emod_lt_of_pos _ m0) ⟨ok2.len, ok2.pos, ok2.i0, ok2.i1, ok2.r0, Int.emod_nonneg (t + 1) (show (2147483629 : Int) ≠ 0 by decide), Int.emod_lt_of_pos (t + 1) (show (0 : Int) < 2147483629 by decide)⟩ (by simp only [upd_upd]; rfl)
      · have HP := hp
        refine ⟨_, rfl, _, _, _, _, rfl, rfl, SqL.of HP, rfl, _, _, rfl, rfl, _, rfl, ?_⟩
        refine ite2 (fun e2 => ?_) (fun e2 => ?_)
        · refine ⟨_, rfl, _, _, _, _, rfl, rfl, SqL.of HP, rfl, ?_⟩
          refine ⟨_, rfl, _, rfl, _, _, rfl, rfl, ⟨m0, mlog⟩, _, rfl, _, _, _, _, rfl, rfl, HP, rfl, ?_⟩
          refine ⟨_, rfl, .inl ⟨_, rfl, _, rfl, _, _, rfl, rfl, m0, ?_⟩⟩
          exact fin _ _ _ _ _ (Int.emod_nonneg _ (Int.ne_of_gt m0)) (Int.emod_lt_of_pos _ m0) ⟨ok.len, ok.pos, ok.i0, ok.i1, Int.ediv_nonneg ok.r0 (Int.le_of_lt m0), ok.t0, ok.t1⟩ (by simp only [upd_upd]; rfl)
        · refine ⟨_, rfl, _, _, _, _, rfl, rfl, SqL.of HP, rfl, _, _, rfl, rfl, .inl ⟨_, rfl, _, _, rfl, rfl, (by show (0 : Int) < 2147483629; decide), _, rfl, _, _, _, _, rfl, rfl, HP, rfl, ?_⟩⟩
          have u0 := ok.i0
          have u1 := ok.i1
          refine ⟨_, rfl, _, _, _, _, rfl, rfl, SqL.of upd_same, rfl, _, rfl, _, _, _, _, rfl, rfl, SqL.of upd_same, rfl, _, _, rfl, by omega, by omega, by omega, by omega, fun d d0 => ?_⟩
          refine .inl ⟨_, rfl, _, rfl, _, _, rfl, rfl, m0, ?_⟩
          exact fin _ _ _ _ _ (Int.emod_nonneg _ (Int.ne_of_gt m0)) (Int.emod_lt_of_pos _ m0) ⟨ok.len, ok.pos, ok.i0, ok.i1, ok.r0, Int.emod_nonneg (t + 1) (show (2147483629 : Int) ≠ 0 by decide), Int.emod_lt_of_pos (t + 1) (show (0 : Int) < 2147483629 by decide)⟩ (by simp only [upd_upd]; rfl)
    · have HP := hp
      refine ⟨_, rfl, _, _, _, _, rfl, rfl, SqL.of HP, rfl, _, _, rfl, rfl, _, rfl, ?_⟩
      refine ite2 (fun e2 => ?_) (fun e2 => ?_)
      · refine ⟨_, rfl, _, _, _, _, rfl, rfl, SqL.of HP, rfl, ?_⟩
        refine ⟨_, rfl, _, rfl, _, _, rfl, rfl, ⟨m0, mlog⟩, _, rfl, _, _, _, _, rfl, rfl, HP, rfl, ?_⟩
        refine ⟨_, rfl, .inl ⟨_, rfl, _, rfl, _, _, rfl, rfl, m0, ?_⟩⟩
        exact fin _ _ _ _ _ (Int.emod_nonneg _ (Int.ne_of_gt m0)) (Int.emod_lt_of_pos _ m0) ⟨ok.len, ok.pos, ok.i0, ok.i1, Int.ediv_nonneg ok.r0 (Int.le_of_lt m0), ok.t0, ok.t1⟩ (by simp only [upd_upd]; rfl)
      · refine ⟨_, rfl, _, _, _, _, rfl, rfl, SqL.of HP, rfl, _, _, rfl, rfl, .inl ⟨_, rfl, _, _, rfl, rfl, (by show (0 : Int) < 2147483629; decide), _, rfl, _, _, _, _, rfl, rfl, HP, rfl, ?_⟩⟩
        have u0 := ok.i0
        have u1 := ok.i1
        refine ⟨_, rfl, _, _, _, _, rfl, rfl, SqL.of upd_same, rfl, _, rfl, _, _, _, _, rfl, rfl, SqL.of upd_same, rfl, _, _, rfl, by omega, by omega, by omega, by omega, fun d d0 => ?_⟩
        refine .inl ⟨_, rfl, _, rfl, _, _, rfl, rfl, m0, ?_⟩
        exact fin _ _ _ _ _ (Int.emod_nonneg _ (Int.ne_of_gt m0)) (Int.emod_lt_of_pos _ m0) ⟨ok.len, ok.pos, ok.i0, ok.i1, ok.r0, Int.emod_nonneg (t + 1) (show (2147483629 : Int) ≠ 0 by decide), Int.emod_lt_of_pos (t + 1) (show (0 : Int) < 2147483629 by decide)⟩ (by simp only [upd_upd]; rfl)
/-! ### the hand is made -/
def absI (c : Int) : Int := if c < 0 then -c else c
theorem absI_nonneg (c : Int) : 0 ≤ absI c := by
  unfold absI
  split <;> omega
theorem same_upd {H : Hp} {p : Addr} {o : HO} (h : H p = none) : Same H (upd H p o) := fun b x e => by
  rw [upd_ne (ne_of_none e h)]
  exact e
def spHand (K : PySem.W.Frag) : Sp := fun vs H Q _ => ∃ (a : Addr) (ns : List Int), vs = [.ref a] ∧ SqL K H a (ns.map V.int) ∧ ns.length ≤ 63 ∧
  ∀ (H' : Hp) (p l : Addr) (t : Int), Same H H' → H p = none → HandAt H' p l (ns.map absI) 0 0 t → Q (.ref p) H'
theorem scHand : FnScope ["_law_script", "_law_total", "_law_k", "_law_cell"] ["_law_script"] (defScope sHand) := ⟨rfl, rfl, rfl, by decide +kernel, rfl, by decide +kernel, by decide +kernel⟩
theorem ok_hand {f : Addr} {fd : FuncData} (F : FnP K "_law_hand" sHand f fd) (zi : mg "int" = none) (za : mg "abs" = none) (ze : mg "enumerate" = none) : FnOk P w K mg base CX0 1 f fd ["_law_script"] (spHand K) := by
  refine F.ok scHand (fun vs H Q E h => ?_) (fun cdv A outer s H vs Q E hr h => ?_)
  · obtain ⟨a, ns, rfl, _⟩ := h
    rfl
  · obtain ⟨a, ns, rfl, hS, hlen, q⟩ := h
    refine ⟨_, PSs.nox (pss_cons (ps_set (i := 1) scHand.nd rfl (.inl rfl) pe_int)
      (pss_cons (ps_for PassesOwn.never rfl (pi_enum (by rfl) ze (pa_cons (pv 0) pa_nil))
          (pg_tup (by rfl) (pgs_cons (pg_name (i := 2) scHand.nd rfl (.inl rfl)) (pgs_cons (pg_name (i := 3) scHand.nd rfl (.inl rfl)) pgs_nil)))
        (pss_one (ps_set (i := 1) scHand.nd rfl (.inl rfl) (pe_op op_mod (pe_callTy call_int1 (by rfl) zi (by decide +kernel) (pa_cons
          (pe_op op_add (pe_op op_mul (pv 1) pe_int) (pe_op op_mul (pe_callTy call_int1 (by rfl) zi (by decide +kernel) (pa_cons (pv 3) pa_nil)) (pe_op op_add (pv 2) pe_int))) pa_nil)) pe_int))))
      (pss_one (ps_ret (pe_lst (pa_cons
        (pe_lc (own := [("_law_cell", 3)]) (g := gName 3) (tt := tYes) rfl scHand.nd (pi_list (pv 0)) (blkOk_by (N := ["_law_script", "_law_total", "_law_k", "_law_cell"]) (sc := defScope sHand) (by decide +kernel)) (fun _ _ _ _ _ => pg_name (i := 3) scHand.nd rfl (Or.inl rfl)) (fun _ _ _ _ _ => pts_nil)
          (fun _ _ _ _ _ => pe_callB call_abs (by rfl) za (by decide +kernel) (pa_cons (pe_callTy call_int1 (by rfl) zi (by decide +kernel) (pa_cons (pv 3) pa_nil)) pa_nil)))
        (pa_cons pe_int (pa_cons pe_int (pa_cons (pv 1) pa_nil))))))))), ?_⟩
    refine ⟨_, rfl, a, _, rfl, hS, for_it walk_enum (fun _ σ H' => ∃ (t : Int) (x y : Option V), σ = [some (.ref a), some (.int t), x, y] ∧ 0 ≤ t ∧ t < 2147483629 ∧ Same H H') ⟨0, none, none, rfl, by decide, by decide, fun _ _ e => e⟩
      (fun i σ H' _ ⟨_, _, _, _, _, _, sm⟩ => sm.seq hS) ?_ ?_⟩
    · rintro i x σ H1 H2 hi ⟨t, x1, x2, rfl, t0, t1, sm⟩ ⟨T, u, v, rfl, nT, rfl, eu, ev⟩
      have hi' : i < ns.length := by
        rw [List.length_map] at hi
        exact hi
      obtain rfl : u = .int (i : Int) := (Option.some.inj eu).symm
      obtain rfl : v = .int ns[i] := by
        have e2 : (ns.map V.int)[i]? = some (.int ns[i]) := by rw [List.getElem?_map, List.getElem?_eq_getElem hi']; rfl
        exact Option.some.inj (ev.symm.trans e2)
      refine ⟨T, _, rfl, .inl (.inl upd_same), rfl, _, _, rfl, _, _, rfl, rfl, ?_⟩
      refine ⟨_, rfl, _, _, rfl, rfl, .inl ⟨by omega, by omega⟩, _, rfl, .inl ⟨_, rfl, _, rfl, _, _, rfl, rfl, _, _, rfl, rfl, .inr ⟨by omega, by omega⟩, _, _, rfl, rfl, .inl ⟨_, rfl, _, _, rfl, rfl, (by show (0 : Int) < 2147483629; decide), ?_⟩⟩⟩
      exact ⟨_, _, _, rfl, Int.emod_nonneg _ (by decide), Int.emod_lt_of_pos _ (by decide), fun b o e => same_upd nT _ _ (sm _ _ e)⟩
    · rintro σ H1 ⟨t, x1, x2, rfl, t0, t1, sm⟩
      refine ⟨_, rfl, a, rfl, ⟨_, sm.seq hS⟩, fun D nD => lc_it walk_list (fun i H' => Same H1 H' ∧ H' D = some (.lst (((ns.map absI).take i).map V.int))) ⟨same_upd nD, upd_same⟩
        (fun i H' _ ⟨s2, _⟩ => s2.seq (sm.seq hS)) ?_ ?_⟩
      · rintro i x H2 H3 hi ⟨s2, eD⟩ ⟨rfl, ex⟩
        have hi' : i < ns.length := by
          rw [List.length_map] at hi
          exact hi
        obtain rfl : x = .int ns[i] := by
          have e2 : (ns.map V.int)[i]? = some (.int ns[i]) := by rw [List.getElem?_map, List.getElem?_eq_getElem hi']; rfl
          exact Option.some.inj (ex.symm.trans e2)
        refine ⟨rfl, ?_⟩
        refine ⟨_, rfl, .inl ⟨_, rfl, _, rfl, _, eD, ?_, ?_⟩⟩
        · rw [List.length_map, List.length_take]
          exact Nat.lt_of_le_of_lt (Nat.min_le_left _ _) (Nat.lt_of_lt_of_le (Nat.lt_of_lt_of_le hi' hlen) (by decide))
        · refine ⟨fun b o e => ?_, ?_⟩
          · have nb : b ≠ D := ne_of_none e nD
            rw [upd_ne nb]
            exact s2 _ _ e
          · rw [upd_same, List.take_add_one, List.getElem?_map, List.getElem?_eq_getElem hi', List.map_append]
            rfl
      · rintro H2 ⟨s2, eD⟩
        have eall : ((ns.map absI).take (ns.map V.int).length) = ns.map absI := List.take_of_length_le (by rw [List.length_map, List.length_map]; exact Nat.le_refl _)
        rw [eall] at eD
        refine ⟨_, rfl, (by show 4 ≤ sizeLine; decide), fun p np => ?_⟩
        have npD : D ≠ p := ne_of_none eD np
        refine q _ p D t (fun b o e => same_upd np _ _ (s2 _ _ (sm _ _ e))) ?_ ⟨upd_same, ?_, ?_⟩
        · cases e : H p with
          | none => rfl
          | some o =>
            have e2 := s2 _ _ (sm _ _ e)
            rw [np] at e2
            cases e2
        · rw [upd_ne npD]
          exact eD
        · exact ⟨by rw [List.length_map]; exact hlen, fun c hc => by
            obtain ⟨y, _, rfl⟩ := List.mem_map.mp hc
            exact absI_nonneg y, by decide, by decide, by decide, t0, t1⟩
end
end K26

/-! the greatest of a list of whole numbers, with default= -/
namespace K26
open PySem PySem.Spec PyProof.Rows L2
def rMaxDef (K : PySem.W.Frag) : List V → List V → Hp → VK → Prop := fun vs zs H Q => ∃ (a : Addr) (ns : List Int) (d : Int), vs = [.ref a] ∧ zs = [.int d] ∧ SqL K H a (ns.map V.int) ∧ (ns = [] → Q (.int d) H) ∧
  ∀ m, m ∈ ns → (∀ y ∈ ns, y ≤ m) → Q (.int m) H
theorem readsInts {h : Heap} {vs : List Value} {ns : List Int} (r : IntsAre vs ns) : ReadsAll h vs (ns.map PyData.int) [] := by
  induction r with
  | nil => exact .nil
  | cons i t _ ih => exact .cons (.int _ _) ih
theorem depth_ints : ∀ ns : List Int, PyData.depthAll (ns.map PyData.int) ≤ 1
  | [] => Nat.zero_le _
  | n :: ns => Nat.max_le.mpr ⟨Nat.zero_le _, depth_ints ns⟩
theorem foldmax_mem (n : Int) : ∀ ns : List Int, (ns.foldl max n ∈ n :: ns) ∧ ∀ y ∈ n :: ns, y ≤ ns.foldl max n
  | [] => ⟨List.mem_cons_self, fun y h => by
    rcases List.mem_cons.mp h with rfl | h
    · exact Int.le_refl _
    · cases h⟩
  | k :: ns => by
    obtain ⟨h1, h2⟩ := foldmax_mem (max n k) ns
    rw [List.foldl_cons]
    have hm : max n k = n ∨ max n k = k := by omega
    refine ⟨?_, fun y h => ?_⟩
    · rcases List.mem_cons.mp h1 with e | h
      · rw [e]
        rcases hm with e2 | e2
        · rw [e2]; exact List.mem_cons_self
        · rw [e2]; exact List.mem_cons_of_mem _ List.mem_cons_self
      · exact List.mem_cons_of_mem _ (List.mem_cons_of_mem _ h)
    · have hmx := h2 (max n k) List.mem_cons_self
      rcases List.mem_cons.mp h with rfl | h
      · omega
      · rcases List.mem_cons.mp h with rfl | h
        · omega
        · exact h2 y (List.mem_cons_of_mem _ h)
theorem crk_max {X : Cx} (hc : X.calm = true) (hu : X.A.units + 3 < cLine) : CallRK X (.builtin "max") [Str.ofString "default"] (rMaxDef X.K) := by
  intro pins s σ H xs zs us ws Q I r rz h
  obtain ⟨a, ns, d, rfl, rfl, hS, q0, q⟩ := h
  obtain ⟨its, rv, hl, _⟩ := I.list hS
  rw [Vals.ref1 r]
  cases rz with
  | cons rd rr =>
    cases rr
    obtain ⟨t, rfl⟩ := rd
    have hi := rv.ints
    have hr := readsInts (h := s.heap) hi
    have hd : PyData.depthAll (ns.map PyData.int) ≤ 1 := depth_ints ns
    refine PySem.W.max_list_default (vs := its.toArray) (xs := ns.map PyData.int) (I.ok.hd hc) hl.isList hr ⟨fun x hx y hy => ?_, fun x hx => ?_⟩ (by show X.A.units + 1 + _ < _; omega) (fun e h' tk hk => ?_) (fun y ys i v h' tk bs e hv rd hk => ?_)
    · obtain ⟨i, _, rfl⟩ := List.mem_map.mp hx
      obtain ⟨j, _, rfl⟩ := List.mem_map.mp hy
      rfl
    · obtain ⟨i, _, rfl⟩ := List.mem_map.mp hx
      intro z
      cases z
    · have en : ns = [] := by
        cases ns with
        | nil => rfl
        | cons n ns => cases e
      exact ⟨.int d, H, I.kept hk, ⟨_, rfl⟩, q0 en⟩
    · cases ns with
      | nil => cases e
      | cons n ns =>
        injection e with e1 e2
        subst e1 e2
        rw [PySem.W.maxD_ints] at rd
        obtain ⟨h1, h2⟩ := foldmax_mem n ns
        cases rd with
        | int i t => exact ⟨.int _, H, I.kept hk, ⟨_, rfl⟩, q _ h1 h2⟩
end K26

/-! == by an own __eq__, with either answer; is between classes of either sort; type of either sort -/
namespace K26
open PySem PySem.Spec PyProof.Rows L2
/-- what stands right of the sign: its class -/
inductive TyR (H : Hp) : V → Value → Prop where
  | ins {a C dx : Addr} {fs : List (Str × V)} (e : H a = some (.ins C dx fs)) : TyR H (.ref a) (.ref C)
  | tup {a : Addr} {xs : List V} (e : H a = some (.tup xs)) : TyR H (.ref a) (.type "tuple")
  | lst {a : Addr} {xs : List V} (e : H a = some (.lst xs)) : TyR H (.ref a) (.type "list")
def rEqI (K : PySem.W.Frag) (C : Addr) (sp : Sp) : R2 := fun x y H Q => ∃ (a dx : Addr) (fs : List (Str × V)) (tb : Value), x = .ref a ∧ H a = some (.ins C dx fs) ∧ TyR H y tb ∧ PySem.W.notFirst K C tb = true ∧ sp [.ref a, y] H (fun v H' => ∃ b, v = .bl b ∧ Q (.bl b) H') E0
section
variable {X : Cx} {n : Nat}
theorem TyR.look {pins : List (Addr × Obj)} {s : Shared} {σ : L2.St} {H : Hp} {y : V} {v tb : Value} (I : Inv X pins σ H s) (t : TyR H y tb) (r : RelV y v) : PySem.W.Looks (model X.prog X.w) s.heap (typeOf v) tb := by
  cases t with
  | ins e =>
    cases r
    obtain ⟨mA, J, _⟩ := ins_get I.hok e
    obtain ⟨od, J, _⟩ := J.look
    exact J.type
  | tup e =>
    cases r
    obtain ⟨_, _, _, o, h1, h2, _⟩ := (show ObjOk X.prog X.w H s.heap _ (.tup _) from I.hok _ _ e)
    exact fun A Q E s k q => wpAny_typeOf_ref (k _ _ h1) (by rw [h2]; exact q)
  | lst e =>
    cases r
    obtain ⟨_, _, n, _, h1⟩ := (show ObjOk X.prog X.w H s.heap _ (.lst _) from I.hok _ _ e)
    exact fun A Q E s k q => wpAny_typeOf_ref (k _ _ h1) q
theorem op_eqI {CX : CXT} {C f : Addr} {fd : FuncData} {ps : List Str} {sp : Sp} (F : FnOk X.prog X.w X.K X.mg X.base CX n f fd ps sp)
    (hs : PySem.W.findIn X.K (.ref C) "__eq__" = some (some (.ref f))) (hf : PySem.W.isFn X.K (.ref f) = true) (hb : Binds X.K fd ps []) (hx : Passes CX X E0) (hr : Room n X.A) : OpR X (compareOp .Eq) (rEqI X.K C sp) := by
  intro pins s σ H x y u v Q I rx ry h
  obtain ⟨a, dx, fs, tb, rfl, ha, ty, nf, hsp⟩ := h
  cases rx
  obtain ⟨mA, J, _⟩ := ins_get I.hok ha
  obtain ⟨od, J, _⟩ := J.look
  obtain ⟨m, hF⟩ := I.fr
  refine PySem.W.cmp_K (op := .Eq) (tb := tb) hr.units0 hF I.ok.mod.kin J (ty.look I ry) nf hs hf ?_
  have e0 : Env0 X.prog X.w X.K X.mg X.base X.A X.stack s H := I.env0
  have hl := F.len _ _ _ _ hsp
  have r2 : Vals [V.ref a, y] [Value.ref a, v] := .cons rfl (.cons ry .nil)
  refine wpAny_call (codeAny_mono (F.run X.A X.stack s H ⟨[.ref a, v], []⟩ [.ref a, v] [.ref a, y] _ E0 hr e0 (by
    have := hb s [.ref a, v] I.kIn (by simpa using hl)
    simpa using this) r2 hsp) fun r s' hq => ?_)
  cases r with
  | error e => exact hx pins σ H s e s' I hq
  | ok fl =>
    cases fl with
    | ret w =>
      obtain ⟨z, H', I', rz, b, ez, q⟩ := I.after hq
      subst ez
      cases rz
      exact ⟨.bl b, H', I', rfl, q⟩
    | next => exact False.elim hq
    | brk => exact False.elim hq
    | cont => exact False.elim hq
/-! ### type(a) is type(b) -/
def rTyp2 : List V → Hp → VK → Prop := fun xs H Q => ∃ x, xs = [x] ∧ ((∃ a C dx fs, x = .ref a ∧ H a = some (.ins C dx fs) ∧ Q (.ref C) H) ∨ (∃ a us, x = .ref a ∧ (H a = some (.tup us)) ∧ Q (.ty "tuple") H))
theorem cr_type2 : CallR X (.type "type") rTyp2 := by
  intro pins s σ H xs us Q I r h
  obtain ⟨x, rfl, ⟨a, C, dx, fs, rfl, ha, q⟩ | ⟨a, zs, rfl, ha, q⟩⟩ := h
  · exact cr_type pins s σ H _ us Q I r ⟨a, C, dx, fs, rfl, ha, q⟩
  · rw [Vals.ref1 r]
    obtain ⟨hz, its, r', ob, g, c, k⟩ := (show ObjOk X.prog X.w H s.heap _ (.tup _) from I.hok _ _ ha)
    exact call_type_of (Tx := "tuple") ⟨ob, g, c⟩ (by decide +kernel) ⟨.ty "tuple", H, I, rfl, q⟩
def rIs2 (K : PySem.W.Frag) : R2 := fun x y H Q => ∃ a, x = .ref a ∧ ((y = .ref a ∧ Q (.bl true) H) ∨ (∃ b, y = .ref b ∧ a ≠ b ∧ PySem.W.makesIn K a = true ∧ PySem.W.makesIn K b = true ∧ Q (.bl false) H) ∨ (∃ t, y = .ty t ∧ Q (.bl false) H))
theorem op_is2 : OpR X (compareOp .Is) (rIs2 X.K) := by
  intro pins s σ H x y v u Q I rx ry h
  obtain ⟨a, rfl, ⟨rfl, q⟩ | ⟨b, rfl, ne, h1, h2, q⟩ | ⟨t, rfl, q⟩⟩ := h
  · exact op_is_cls pins s σ H _ _ v u Q I rx ry ⟨a, a, rfl, rfl, .inl rfl, by rw [decide_eq_true rfl]; exact q⟩
  · exact op_is_cls pins s σ H _ _ v u Q I rx ry ⟨a, b, rfl, rfl, .inr ⟨h1, h2⟩, by rw [decide_eq_false ne]; exact q⟩
  · cases rx
    cases ry
    exact wpAny_is_other rfl (by intro z; cases z) ⟨.bl false, H, I, rfl, q⟩
end
end K26

/-! own errors with an __init__: made where an except suite above may raise; isinstance of a caught one with fields; a def walked while one is handled -/
namespace K26
open PySem PySem.Spec PyProof.Rows L2
section
variable {X : Cx} {e : Expr} {es : List Expr} {ta : TA} {p pos : Pos}
theorem pmk_oexN {CX : CXT} {x : Str} {C fI : Addr} {k : Nat} {fd : FuncData} {ps : List Str} {sp : Sp} (T : OexC X.K C) (iC : PySem.W.findIn X.K (.ref C) "__init__" = some (some (.ref fI))) (tI : PySem.W.typeIn X.K (.ref fI) = some (.type "function"))
    (F1 : FnOk X.prog X.w X.K X.mg X.base CX k fI fd ps sp) (hr : Room (k + 1) X.A) (hb : Binds X.K fd ps []) (hx : Passes CX X (fun _ _ _ => False)) (hg : Gl X x) (hm : X.mg x = some (.ref C)) (ha : PA X (e :: es) ta)
    (hdb : (x == ("__debug__" : Str)) = false := by decide) (he : starEach (e :: es) X.env = (false, eval e X.env) :: starEach es X.env := by rfl) (hpl : (backTo pos (starEach es X.env)).any (·.1) = false := by rfl) :
    L2N.PMk X (.Call (.Name x p) (e :: es) [] pos) (tMkO C sp [] ta) := by
  intro pins s σ H Q I h
  obtain ⟨nm, q, N, bs, bm, sn, sub, ab, col, dd, k0, k1, k2, k3, k5, hC, hbm⟩ := T.cls
  refine wpAny_Call_Name_kw (ld_glob I hg hm ?_ hdb)
  refine PySem.W.callWith_K (h₀ := X.base) I.ok.mod.kin T.kC (thn (ha.run pos pins s σ H _ I h) fun us s1 ⟨vs, H1, I1, r1, hz, q1⟩ => ⟨I1.kIn, ?_⟩) he hpl
  show wpAny _ _ (call (.ref C) us) _ _ _
  obtain ⟨hp, g, dr, tk, os⟩ := s1
  have hsz : hp.objs.size ≤ hp.objs.size + 1 := Nat.le_succ _
  have hn : H1 (hp.objs.size + 1) = none := I1.hok.fresh hsz
  have hq := q1 (hp.objs.size + 1) hn
  have kk : ∀ b o, hp.get? b = some o → ((hp.push (PySem.W.kdv_tup us)).push (PySem.HandSPX.excO C hp.objs.size)).get? b = some o := fun b o e => Heap.get?_push_of_some _ (Heap.get?_push_of_some _ e)
  have hget : ((hp.push (PySem.W.kdv_tup us)).push (PySem.HandSPX.excO C hp.objs.size)).get? (hp.objs.size + 1) = some (PySem.HandSPX.excO C hp.objs.size) := by heap_get
  have I2 : Inv X pins σ (upd H1 (hp.objs.size + 1) (exo (hp.objs.size + 1) C none)) ⟨(hp.push (PySem.W.kdv_tup us)).push (PySem.HandSPX.excO C hp.objs.size), g, dr, tk, os⟩ :=
    I1.laid (t' := tk) (a := hp.objs.size + 1) (o := exo (hp.objs.size + 1) C none) (h' := (hp.push (PySem.W.kdv_tup us)).push (PySem.HandSPX.excO C hp.objs.size)) kk hsz (exo_ok hget)
  have r2 : Vals (V.ref (hp.objs.size + 1) :: (vs ++ [])) (Value.ref (hp.objs.size + 1) :: (us ++ [])) := .cons rfl (r1.append .nil)
  have hl : (Value.ref (hp.objs.size + 1) :: us ++ []).length = ps.length := by
    have e := r2.length
    rw [F1.len _ _ _ _ hq] at e
    exact e.symm
  have hus : us.length ≤ sizeLine := by
    rw [← Paired.length r1, sizeLine_eq]
    omega
  refine wpAny_call (PySem.HandSPX.call_own F.excBase_ValueError (fun Y => PySem.HandSPX.refsVE_contains Y bm hbm) (I1.kIn _ _ hC) (PySem.W.looks_findIn I1.kIn iC) (fun self => PySem.W.bind_fn I1.kIn self tI) hus
    (codeAny_mono (F1.run _ X.stack _ _ ⟨Value.ref (hp.objs.size + 1) :: us, []⟩ (Value.ref (hp.objs.size + 1) :: (us ++ [])) _ _ (fun _ _ _ => False) (hr.make C us []) (I2.env0.make C us []) (by rw [List.append_nil]; have z := hb _ (Value.ref (hp.objs.size + 1) :: us) I2.kIn hl; rw [List.append_nil] at z; exact z) r2 hq) fun r s' hq' => ?_))
  cases r with
  | error er => exact hx pins σ _ _ er s' I2 hq'
  | ok fl =>
    cases fl with
    | ret u =>
      obtain ⟨v, H2, os2, bare2, un2, hok2, rv, ev, d, fs, ea, ed, hd1, q2⟩ := hq'
      subst ev
      obtain ⟨h2, g2, d2, t2, os'⟩ := s'
      obtain ⟨t0, G, J, kG, ge, hoe, na⟩ := mk_end0 (d2 := d2) (t2 := t2) I1 hsz kk un2 hok2 os2 bare2 ea ed hd1
      exact ⟨rv, ⟨hp.objs.size + 1, _, _, ⟨G, g2, d2, t2, os'⟩, _, .ref C, some d, rfl, J, kG, ge, hoe, ⟨rfl, rfl, fun vs hv => by
        cases hv
        rfl⟩, rfl, rfl, na, rfl, bare2, raises_own T.exC T.tyC, q2⟩⟩
    | next => exact False.elim hq'
    | brk => exact False.elim hq'
    | cont => exact False.elim hq'
end
/-! ### isinstance of the error that a suite holds, with fields of its own -/
def rIsD (K : PySem.W.Frag) (D a : Addr) (cls : Value) (d : Option Addr) : List V → Hp → VK → Prop := fun xs H Q => ∃ (c : V) (cv : Value) (b : Bool) (dd : Addr) (fs : List (Str × V)), xs = [.ref a, c] ∧ cls = .ref D ∧ d = some dd ∧ H dd = some (.xd fs) ∧ (∀ u, RelV c u → u = cv) ∧ PySem.W.kitOne K (.ref D) cv = some b ∧ Q (.bl b) H
theorem clsIn_some {K : PySem.W.Frag} {D : Addr} (h : PySem.W.hasDictIn K D = true) : (PySem.W.clsIn K D).isSome = true := by
  obtain ⟨cd, hc, _⟩ := PySem.W.any_some h
  rw [hc]
  rfl
theorem call_isD {X : Cx} {a D : Addr} {oe : Obj} {cls : Value} {d : Option Addr} {pn : List (Addr × Obj)} (C : ExcC X.K D) (hz : Zc cls d oe) (hf : ∃ vs, oe.data = .fields vs) : CallR (X.suite a ((a, oe) :: pn)) (.builtin "isinstance") (rIsD X.K D a cls d) := by
  intro pins s σ H xs us Q I r h
  obtain ⟨c, cv, b, dd, fs, rfl, rfl, rfl, ed, hcv, e, q⟩ := h
  obtain ⟨u1, u2, rfl, r1, r2⟩ := vals2 r
  cases (show u1 = Value.ref a from r1)
  have ec := hcv _ r2
  subst ec
  obtain ⟨hget, _⟩ := I.pin (a, oe) (List.mem_append.mpr (.inl List.mem_cons_self))
  obtain ⟨vs, hv⟩ := hf
  have hx : ObjOk X.prog X.w H s.heap dd (.xd fs) := I.hok dd _ ed
  obtain ⟨mA, hns, hr⟩ := hx
  obtain ⟨od, ho, hl⟩ := lookIn_ns hns
  have J : PySem.W.InstAt s.heap a oe D (some od) := ⟨hget, hz.1, by unfold PySem.W.notCls; rw [hv] <;> rfl, by rw [hz.2]; exact ho⟩
  exact PySem.W.kia_one (PySem.W.kitx_exc (clsIn_some C.hd) C.hg C.hk C.hs C.ha C.hn C.ht C.hm) I.kIn J e (fun z => nomatch z) fun tk => ⟨.bl b, H, I.tok tk, rfl, q⟩
end K26
namespace L2H
open PySem PySem.Spec PyProof.Rows L2
/-! ### a def walked while an error is handled -/
theorem okH {P : Program} {w : World} {K : PySem.W.Frag} {mg : Str → Option Value} {base : Heap} {x qual : Str} {params : Arguments} {body : List Stmt} {scope : Scope} {dvs : List V} {kws : List (Str × V)} {f : Addr} {fd : FuncData}
    {CX : CXT} {N ps : List Str} {k : Nat} {sp : Sp} (F : FunD K x qual params body scope dvs kws f fd) (S : FnScope N ps scope) (len : ∀ vs H Q E, sp vs H Q E → vs.length = ps.length)
    (hbody : ∀ (cdv : Value) (A : Around) (outer : List Env) (s : Shared) (H : Hp) (vs : List V) (Q : VK) (E : XK) (p : Addr × Obj), Hot1 A p → RoomH k (A.deeper (envOfC qual scope s.heap.objs.size f cdv)) → sp vs H Q E →
      ∃ t, PSs (cxH CX P w K mg base N qual scope f cdv A outer s H E p) body t ∧ t { nx := fun _ H' => Q .non H', rt := Q } (L2.start N vs) H) : FnH P w K mg base CX (k + 1) f fd ps sp := by
  obtain ⟨oc, od, dV, kV, doc, pm, an, cdv, ct, osl, rfl, lk, hcd, _, _⟩ := F.ex
  exact fn_ofH lk hcd S len fun A outer s H vs Q E p hot hr hsp => hbody cdv A outer s H vs Q E p hot hr hsp
end L2H

/-! enumerate over a tuple -/
namespace K26
open PySem PySem.Spec PyProof.Rows
open AutoSeq1 (wpAny_loadPart')
theorem enum_new_tuple (l : Addr) (items : Array Value) (n : Nat) (dct : Option Addr) (sl : Array (Option Value)) :
    Meets (Builtin.«enumerate.__new__» ⟨[.type "enumerate", .ref l], []⟩) (fun _ R s => s.heap.get? l = some { cls := .type "tuple", dict := dct, data := .seq items n, slots := sl } ∧
      R (.ok (.ret (.ref (s.heap.push { cls := .type "tuple_iterator", data := .fields #[.ref l, .int 0 0] }).objs.size)))
        { s with heap := (s.heap.push { cls := .type "tuple_iterator", data := .fields #[.ref l, .int 0 0] }).push { cls := .type "enumerate", data := .fields #[.none, .bool false, .ref s.heap.objs.size, rawInt 0, .none, .none] } }) :=
  .of_wp fun prog w A R s h => by
    obtain ⟨hp, g, d, tk, os⟩ := s
    obtain ⟨hl, h⟩ := h
    have subE := sub_enumerate
    have isT : Heap.IsTuple (Shared.heap ⟨hp, g, d, tk, os⟩) l items := ⟨_, hl, rfl, n, rfl⟩
    wp_walk using wpAny_loadPart' hl
    refine wpAny_stack_any fun st => wpAny_pure ?_
    split
    · rename_i c _ _ _ _ _
      cases (c == Value.type "enumerate")
      · wp_walk using wpAny_loadPart' hl, wpAny_pyIter_tuple isT
        exact ⟨_, rfl, h⟩
      · wp_walk using wpAny_loadPart' hl, wpAny_pyIter_tuple isT
        exact ⟨_, rfl, h⟩
    · wp_walk using wpAny_loadPart' hl, wpAny_pyIter_tuple isT
      exact ⟨_, rfl, h⟩
section
variable {prog : Program} {w : World} {A : Around} {E : Value → Shared → Prop} {s : Shared}
theorem call_enum_tuple {l : Addr} {items : Array Value} {Q : Value → Shared → Prop} (hL : IsTup s.heap l items)
    (h : ∀ h', IsEnum h' (s.heap.objs.size + 1) s.heap.objs.size 0 .none → h'.IsTupleIter s.heap.objs.size l 0 → h'.objs.size = s.heap.objs.size + 2 →
      (∀ b o, s.heap.get? b = some o → h'.get? b = some o) → Q (.ref (s.heap.objs.size + 1)) { s with heap := h' }) :
    wpAny (model prog w) A (call (.type "enumerate") [.ref l]) Q E s := by
  obtain ⟨⟨c, dct, dt, sl⟩, hl, hc, n, hd⟩ := hL
  replace hc : c = .type "tuple" := hc
  replace hd : dt = .seq items n := hd
  subst hc hd
  refine callType_new F.called_enumerate (by decide) (F.typeCall_enumerate_1 _) (F.newCall_enumerate_1 _) (fun obj => F.args_object_init_2 obj _) F.entry_enumerate_new (enum_new_tuple l items n dct sl) ⟨hl, ?_⟩
  have hz : (s.heap.push { cls := .type "tuple_iterator", data := .fields #[.ref l, .int 0 0] }).objs.size = s.heap.objs.size + 1 := Heap.size_push ..
  show _ ∧ _
  rw [hz]
  have he : IsEnum ((s.heap.push { cls := .type "tuple_iterator", data := .fields #[.ref l, .int 0 0] }).push
      { cls := .type "enumerate", data := .fields #[.none, .bool false, .ref s.heap.objs.size, rawInt 0, .none, .none] }) (s.heap.objs.size + 1) s.heap.objs.size 0 .none := by
    have e0 := Heap.get?_push_size (s.heap.push { cls := .type "tuple_iterator", data := .fields #[.ref l, .int 0 0] })
      (o := { cls := .type "enumerate", data := .fields #[.none, .bool false, .ref s.heap.objs.size, rawInt 0, .none, .none] }) rfl
    rw [hz] at e0
    exact e0
  exact ⟨⟨_, he, rfl⟩, h _ he ⟨_, Heap.get?_push_of_some _ (Heap.get?_push_size _ rfl), rfl, rfl⟩ (by rw [Heap.size_push, hz]) fun b o x => Heap.get?_push_of_some _ (Heap.get?_push_of_some _ x)⟩
end
open L2
/-- the tuple at a, its items in new pairs with their numbers -/
def IteT (K : PySem.W.Frag) (a : Addr) : It :=
  ⟨fun i H => ∃ (xs : List V) (x : V), SqT K H a xs ∧ xs[i]? = some x, fun i H v H' => ∃ T x, v = .ref T ∧ H T = none ∧ H' = upd H T (.tup [.int (i : Nat), x]) ∧ ∀ xs, SqT K H a xs → xs[i]? = some x, fun i H => ∃ xs : List V, SqT K H a xs ∧ xs.length = i⟩
theorem turn_enumT {P : Program} {w : World} {K : PySem.W.Frag} {elts : List Expr} {kk : Nat} {tpos : Pos} (a e it : Addr) :
    Turn P w K (.Tuple elts kk tpos) (IteT K a) [e, it] e (fun i h => (∃ old, IsEnum h e it ((i : Nat) : Int) old) ∧ h.IsTupleIter it a i ∧ e ≠ it) where
  mem := by simp
  obj := fun i h st b hb => by
    obtain ⟨⟨old, he⟩, ⟨o, ho, hc, hd⟩, _⟩ := st
    have e' : b = e ∨ b = it := by simpa using hb
    rcases e' with z | z
    · rw [z]; exact ⟨_, he, fun v q => nomatch q⟩
    · rw [z]; exact ⟨o, ho, fun v q => by rw [hd] at q; cases q⟩
  keep := fun i h h' st k => let ⟨⟨old, he⟩, hi, hne⟩ := st; ⟨⟨old, k e (by simp) _ he⟩, hi.at fun o q => k it (by simp) o q, hne⟩
  item := by
    intro X hP hw hK hc i pins s σ H E I hf st hg
    subst hP hw hK
    obtain ⟨⟨old, he⟩, hit, hne⟩ := st
    obtain ⟨xs, x, hq, hx⟩ := hg
    obtain ⟨its, rv, p, hz⟩ := I.tuple hq
    obtain ⟨u, hu, ru⟩ := rv.get hx
    have hel : e < s.heap.objs.size := Heap.lt_size he
    have hil : it < s.heap.objs.size := by obtain ⟨_, q, _⟩ := hit; exact Heap.lt_size q
    have nae : e ≠ a := fun z => by
      obtain ⟨o, ho, hcl, _⟩ := p
      rw [← z, he] at ho
      have z2 := Option.some.inj ho
      subst z2
      exact absurd (Value.type.inj hcl) (by decide)
    have nai : a ≠ it := fun z => by
      obtain ⟨o, ho, hcl, _⟩ := p
      obtain ⟨o2, ho2, hc2, _⟩ := hit
      rw [z, ho2] at ho
      have z2 := Option.some.inj ho
      subst z2
      rw [hcl] at hc2
      exact absurd (Value.type.inj hc2) (by decide)
    have hi : i < its.toArray.size := by
      have z := (List.getElem?_eq_some_iff.mp hu).1
      simpa using z
    refine wpAny_pyNext_enum_itemD (Draws.tuple (A := X.A.in1) (I.ok.hd hc) it a nai its.toArray) he ⟨hit, show s.heap.IsTuple a its.toArray from p⟩ hi hne (by simp only [List.mem_cons, List.not_mem_nil, or_false, not_or]; exact ⟨hne, nae⟩) fun y h' tk hP ho hst' hT hsz hk => ?_
    have ey : y = u := by
      have z : its.toArray[i]? = some u := by simpa using hu
      exact Option.some.inj (hP.symm.trans z)
    subst ey
    refine ⟨_, rfl, wpAny_letOwnedTupleGo_enum (s := { s with heap := h', toks := tk + 1 }) ho fun h'' he' sb => ?_⟩
    have hT2 : h''.get? s.heap.objs.size = some { cls := .type "tuple", data := .seq #[.int i tk, y] } := (sb.2 _ (Nat.ne_of_gt hel)).trans hT
    have new : ObjOk X.prog X.w (upd H s.heap.objs.size (.tup [.int (i : Nat), x])) h'' s.heap.objs.size (.tup [.int (i : Nat), x]) :=
      ⟨by show 2 ≤ sizeLine; decide, [.int i tk, y], .cons ⟨_, rfl⟩ (.cons ru .nil), ⟨_, hT2, rfl, _, rfl⟩⟩
    have I1 : Inv X pins σ (upd H s.heap.objs.size (.tup [.int (i : Nat), x])) { s with heap := h'', toks := tk + 1 } :=
      I.turnedNew (ch := [e, it]) (fun b ob hb q => (sb.2 b (fun z => hb (by simp [z]))).trans (hk b ob (fun z => hb (by simp [z])) (fun z => hb (by simp [z])) q)) hf (Nat.le_refl _) new
    refine ⟨.ref s.heap.objs.size, _, I1, rfl, ⟨_, x, rfl, I.hok.fresh (Nat.le_refl _), rfl, fun ys hy => by rw [I.tuple_inj hy hq]; exact hx⟩, ⟨⟨y, ?_⟩, hst'.1.at fun o q => (sb.2 it (Ne.symm hne)).trans q, hne⟩, fun b hb => ?_⟩
    · have e1 : ((i + 1 : Nat) : Int) = (i : Int) + 1 := by omega
      rw [e1]; exact he'
    · have hb' : b < s.heap.objs.size := by
        have e' : b = e ∨ b = it := by simpa using hb
        rcases e' with z | z
        · rw [z]; exact hel
        · rw [z]; exact hil
      rw [upd_ne (Nat.ne_of_lt hb')]
      exact (hf b hb).1
  done := by
    intro X hP hw hK hc i pins s σ H E I hf st hg
    subst hP hw hK
    obtain ⟨⟨old, he⟩, hit, hne⟩ := st
    obtain ⟨xs, hq, hx⟩ := hg
    obtain ⟨its, rv, p, hz⟩ := I.tuple hq
    obtain ⟨f0, f1, f2, f3, f4, f5⟩ := hf it (by simp)
    have nai : a ≠ it := fun z => by
      obtain ⟨o, ho, hcl, _⟩ := p
      obtain ⟨o2, ho2, hc2, _⟩ := hit
      rw [z, ho2] at ho
      have z2 := Option.some.inj ho
      subst z2
      rw [hcl] at hc2
      exact absurd (Value.type.inj hc2) (by decide)
    have hn : its.toArray.size = i := by
      have hl := rv.length
      simp only [List.size_toArray]
      omega
    have D := Draws.tuple (prog := X.prog) (w := X.w) (A := X.A.in1) (I.ok.hd hc) it a nai its.toArray
    rw [hn] at D
    exact wpAny_pyNext_enum_endD D he ⟨hit, show s.heap.IsTuple a its.toArray from p⟩ fun h' eb => ⟨rfl, I.turned (t' := s.toks) (fun b o hb q => eb b o hb q) f0 f1 f3 f4 f5⟩
  self := fun A i s Q E st h => let ⟨⟨_, he⟩, _⟩ := st; wpAny_pyIter_enum he h
def iEnumT (K : PySem.W.Frag) (ta : TA) : TI := fun σ H R => ta σ H fun vs H1 => ∃ a xs, vs = [.ref a] ∧ SqT K H1 a xs ∧ R (IteT K a) H1
theorem pi_enumT {X : Cx} {e : Expr} {ta : TA} {p pos tpos : Pos} {elts : List Expr} {kk : Nat} (hg : Gl X "enumerate") (hm : X.mg "enumerate" = none) (ha : PA X [e] ta) (hs : starEach [e] X.env = [(false, eval e X.env)]) :
    PI X (.Tuple elts kk tpos) (.Call (.Name "enumerate" p) [e] [] pos) (iEnumT X.K ta) := by
  refine ⟨fun pins s σ H R I h => ?_⟩
  refine Call_ (ld_blt I hg hm boot_enumerate (PyProof.Rows.callWith_type1 (thn (ha.run pos pins s σ H _ I h) fun us s1 ⟨vs, H1, I1, r1, q1⟩ => ?_) hs rfl))
  obtain ⟨a, xs, rfl, hq, q⟩ := q1
  obtain ⟨u, rfl, rx⟩ := vals1 r1
  cases (show u = Value.ref a from rx)
  obtain ⟨its, rv, tp, hz⟩ := I1.tuple hq
  refine call_enum_tuple tp fun h' he hit hsz hk => wpAny_pyIter_enum he ?_
  have I2 : Inv X pins σ H1 { s1 with heap := h' } := I1.kept (t' := s1.toks) hk
  refine ⟨s1.heap.objs.size + 1, [s1.heap.objs.size + 1, s1.heap.objs.size], _, _, H1, rfl, I2, turn_enumT a (s1.heap.objs.size + 1) s1.heap.objs.size, ⟨⟨.none, he⟩, hit, Nat.succ_ne_self _⟩, fun b hb => ?_, q⟩
  have hle : s1.heap.objs.size ≤ b := by
    have e' : b = s1.heap.objs.size + 1 ∨ b = s1.heap.objs.size := by simpa using hb
    rcases e' with z | z
    · rw [z]
      exact Nat.le_succ _
    · rw [z]
      exact Nat.le_refl _
  exact I1.fpOk hle (I1.hok.fresh hle)
theorem walk_enumT {K : PySem.W.Frag} {a : Addr} {xs : List V} : Walk (IteT K a) xs.length (fun H => SqT K H a xs) (YPair (fun i => some (.int (i : Nat))) (fun i => xs[i]?)) := by
  refine ⟨fun i _ hi q => ⟨xs, xs[i], q, by simp [hi]⟩, fun _ q => ⟨xs, q, rfl⟩, fun i H v H' _ q y => ?_⟩
  obtain ⟨T, x, h1, h2, h3, h4⟩ := y
  exact ⟨T, .int (i : Nat), x, h1, h2, h3, rfl, h4 xs q⟩
/-- one walk or the other -/
theorem pi_or {X : Cx} {tg it : Expr} {w1 w2 : TI} (h1 : PI X tg it w1) (h2 : PI X tg it w2) : PI X tg it (fun σ H R => w1 σ H R ∨ w2 σ H R) :=
  ⟨fun pins s σ H R I h => h.elim (h1.run pins s σ H R I) (h2.run pins s σ H R I)⟩
end K26

/-! the questions: is it a whole number, a kind, a sequence -/
namespace K26
open PySem PySem.Spec PyProof.Rows L2
/-- any thing that the law draws: its type's name -/
inductive Odd (H : Hp) : V → String → Prop where
  | int (i : Int) : Odd H (.int i) "int"
  | bl (b : Bool) : Odd H (.bl b) "bool"
  | non : Odd H .non "NoneType"
  | str (x : Str) (hx : x.length ≤ 1000) (hs : (PyData.str x).canLay0 = true) : Odd H (.str x) "str"
  | tup {a : Addr} {xs : List V} (h : H a = some (.tup xs)) : Odd H (.ref a) "tuple"
  | lst {a : Addr} {xs : List V} (h : H a = some (.lst xs)) : Odd H (.ref a) "list"
  | dic {a : Addr} {kvs : List (Key × V)} (h : H a = some (.dK kvs)) : Odd H (.ref a) "dict"
theorem Odd.ty {K : PySem.W.Frag} {H : Hp} {v : V} {t : String} (o : Odd H v t) : TyX K H v (.type t) := by
  cases o with
  | int i => exact .base (.int i)
  | bl b => exact .base (.bl b)
  | non => exact .base .non
  | str x _ _ => exact .base (.str x)
  | tup h => exact .base (.tup h)
  | lst h => exact .base (.lst h)
  | dic h => exact .base (.dK h)
section
variable {P : Program} {w : World} {K : PySem.W.Frag} {mg : Str → Option Value} {base : Heap}
def seqT (t : String) : Bool := t == "list" || t == "tuple"
def spSeq : Sp := fun vs H Q _ => ∃ (v : V) (t : String), vs = [v] ∧ Odd H v t ∧ ∀ p, H p = none → Q (.bl (seqT t)) (upd H p (.tup [.ty "list", .ty "tuple"]))
theorem kit_seq {K : PySem.W.Frag} {t : String} {b1 b2 r : Bool} (h1 : kitB t "list" = some b1) (h2 : kitB t "tuple" = some b2) (e : (b1 || b2) = r) : PySem.W.kitAny K (.type t) [.type "list", .type "tuple"] = some r := by
  subst e
  refine kitAny_cons (kit_ty h1) (fun e1 => ?_) (fun e1 => by rw [e1]; rfl)
  subst e1
  refine kitAny_cons (kit_ty h2) (fun e2 => ?_) (fun e2 => by rw [e2]; rfl)
  subst e2
  exact kitAny_nil
theorem scSeq : FnScope ["thing"] ["thing"] (defScope sPIsSequence) := ⟨rfl, rfl, rfl, by decide +kernel, rfl, by decide +kernel, by decide +kernel⟩
theorem Odd.same {H H' : Hp} {v : V} {t : String} (o : Odd H v t) (s : Same H H') : Odd H' v t := by
  cases o with
  | int i => exact .int i
  | bl b => exact .bl b
  | non => exact .non
  | str x hx hs => exact .str x hx hs
  | tup h => exact .tup (s _ _ h)
  | lst h => exact .lst (s _ _ h)
  | dic h => exact .dic (s _ _ h)
theorem ok_seq {f : Addr} {fd : FuncData} (F : FnP K "is_sequence" sPIsSequence f fd) (zl : mg "list" = none) (zt : mg "tuple" = none) (zs : mg "isinstance" = none) : FnOk P w K mg base CX0 1 f fd ["thing"] spSeq := by
  refine F.ok scSeq (fun vs H Q E h => ?_) (fun cdv A outer s H vs Q E hr h => ?_)
  · obtain ⟨v, t, rfl, _⟩ := h
    rfl
  · obtain ⟨v, t, rfl, o, q⟩ := h
    refine ⟨_, PSs.nox (pss_one (ps_ret (pe_callB call_isiT (by rfl) zs (by decide +kernel) (pa_cons (pv 0) (pa_cons (pe_tup (pa_cons (pe_bltn (by rfl) zl (by decide +kernel) (v := .ty "list") rfl) (pa_cons (pe_bltn (by rfl) zt (by decide +kernel) (v := .ty "tuple") rfl) pa_nil))) pa_nil))))), ?_⟩
    refine ⟨_, rfl, (by show 2 ≤ sizeLine; decide), fun p np => ⟨_, p, _, _, [.type "list", .type "tuple"], seqT t, rfl, upd_same, .cons (.ty _) (.cons (.ty _) .nil), (o.same (same_upd np)).ty, ?_, q p np⟩⟩
    cases o with
    | tup _ => exact kit_seq (b1 := false) (b2 := true) (by decide +kernel) (by decide +kernel) (by decide +kernel)
    | lst _ => exact kit_seq (b1 := true) (b2 := false) (by decide +kernel) (by decide +kernel) (by decide +kernel)
    | _ => exact kit_seq (b1 := false) (b2 := false) (by decide +kernel) (by decide +kernel) (by decide +kernel)
end
end K26

/-! a list or a tuple, walked; the model of patterns, lives, pairs -/
namespace K26
open PySem PySem.Spec PyProof.Rows L2
theorem not_t {b : Bool} (h : (!b) = true) : b = false := by
  cases b with
  | false => rfl
  | true => cases h
theorem not_f {b : Bool} (h : ¬ (!b) = true) : b = true := by
  cases b with
  | true => rfl
  | false => exact absurd rfl h
/-- at a stands a list or a tuple of xs -/
def Sq (H : Hp) (a : Addr) (xs : List V) : Prop := H a = some (.lst xs) ∨ H a = some (.tup xs)
def Kp (a : Addr) (H H' : Hp) : Prop := ∀ o, H a = some o → H' a = some o
theorem Same.kp {H H' : Hp} {a : Addr} (s : Same H H') : Kp a H H' := fun o e => s a o e
theorem Sq.kp {H H' : Hp} {a : Addr} {xs : List V} (h : Sq H a xs) (k : Kp a H H') : Sq H' a xs := h.elim (fun h => .inl (k _ h)) fun h => .inr (k _ h)
theorem Sq.same {H H' : Hp} {a : Addr} {xs : List V} (h : Sq H a xs) (s : Same H H') : Sq H' a xs := h.kp (Same.kp s)
theorem Sq.or {K : PySem.W.Frag} {H : Hp} {a : Addr} {xs : List V} (h : Sq H a xs) : SqL K H a xs ∨ SqT K H a xs := h.elim (fun h => .inl (SqL.of h)) fun h => .inr (SqT.of h)
theorem Sq.odd {H : Hp} {a : Addr} {xs : List V} (h : Sq H a xs) : ∃ t, Odd H (.ref a) t ∧ seqT t = true := h.elim (fun h => ⟨_, .lst h, by decide⟩) fun h => ⟨_, .tup h, by decide⟩
theorem enum_any {K : PySem.W.Frag} {σ : L2.St} {H : Hp} {R : It → Hp → Prop} {te : TE} {a : Addr} {xs : List V} (he : ∀ Q : VK, Q (.ref a) H → te σ H Q) (hS : Sq H a xs)
    (key : ∀ (it : It) (G : Hp → Prop), Walk it xs.length G (YPair (fun i => some (.int (i : Nat))) (fun i => xs[i]?)) → (∀ H', Kp a H H' → G H') → R it H) :
    iEnum K (tCons te tNil) σ H R ∨ iEnumT K (tCons te tNil) σ H R := by
  rcases hS with h | h
  · exact .inl (he _ ⟨a, xs, rfl, SqL.of h, key _ _ walk_enum fun H' k => SqL.of (k _ h)⟩)
  · exact .inr (he _ ⟨a, xs, rfl, SqT.of h, key _ _ walk_enumT fun H' k => SqT.of (k _ h)⟩)
theorem seq_any {K : PySem.W.Frag} {σ : L2.St} {H : Hp} {R : It → Hp → Prop} {te : TE} {a : Addr} {xs : List V} (he : ∀ Q : VK, Q (.ref a) H → te σ H Q) (hS : Sq H a xs)
    (key : ∀ (it : It) (G : Hp → Prop), Walk it xs.length G (YAt xs) → (∀ H', Kp a H H' → G H') → R it H) :
    iList K te σ H R ∨ iTup K te σ H R := by
  rcases hS with h | h
  · exact .inl (he _ ⟨a, rfl, ⟨_, SqL.of h⟩, key _ _ walk_list fun H' k => SqL.of (k _ h)⟩)
  · exact .inr (he _ ⟨a, rfl, ⟨_, SqT.of h⟩, key _ _ walk_tup fun H' k => SqT.of (k _ h)⟩)
theorem none_of {H H' : Hp} {y : Addr} (s : Same H H') (h : H' y = none) : H y = none := by
  cases e : H y with
  | none => rfl
  | some o =>
    have z := s _ _ e
    rw [h] at z
    cases z
def rTupS : List V → Hp → VK → Prop := fun vs H Q => ∃ (a : Addr) (xs : List V), vs = [.ref a] ∧ Sq H a xs ∧ ∀ (H2 : Hp) (t : Addr), Same H H2 → H2 t = some (.tup xs) → Q (.ref t) H2
theorem call_tupS {X : Cx} : CallR X (.type "tuple") rTupS := fun pins s σ H vs us Q I r h => by
  obtain ⟨a, xs, rfl, hS, k⟩ := h
  refine call_tuple_of pins s σ H _ us Q I r ⟨a, xs, rfl, ?_⟩
  exact hS.elim (fun h => .inl ⟨SqL.of h, fun l nl => k _ l (same_upd nl) upd_same⟩) fun h => .inr ⟨SqT.of h, k H a (Same.refl _) h⟩
/-! ### entries -/
def stepE (c : Nat) (v : V) : Option Nat := match v with
  | .non => some c
  | .int i => if i < 0 then none else if (c : Int) < i then none else if i = c then some (c + 1) else some c
  | _ => none
def cnt : Nat → List V → Option Nat
  | c, [] => some c
  | c, v :: vs => match stepE c v with
    | some c' => cnt c' vs
    | none => none
/-- flat values -/
inductive Fl : V → Prop where
  | non : Fl .non
  | bl (b : Bool) : Fl (.bl b)
  | int (i : Int) : Fl (.int i)
  | str (x : Str) (hx : x.length ≤ 1000) (hs : (PyData.str x).canLay0 = true) : Fl (.str x)
def tyF : V → String
  | .non => "NoneType"
  | .bl _ => "bool"
  | .int _ => "int"
  | _ => "str"
theorem Fl.odd {H : Hp} {v : V} (f : Fl v) : Odd H v (tyF v) := by
  cases f with
  | non => exact .non
  | bl b => exact .bl b
  | int i => exact .int i
  | str x h1 h2 => exact .str x h1 h2
theorem Fl.flat {v : V} (f : Fl v) : flatV v = true := by cases f <;> rfl
/-- what is handed as entries -/
inductive Nm (H : Hp) : V → List V → Option Nat → Prop where
  | seq {a : Addr} {xs : List V} (h : Sq H a xs) (hl : xs.length ≤ 40) (fl : ∀ x ∈ xs, Fl x) : Nm H (.ref a) xs (cnt 0 xs)
  | bad {v : V} {t : String} (o : Odd H v t) (ns : seqT t = false) : Nm H v [] none
theorem Nm.same {H H' : Hp} {v : V} {xs : List V} {o : Option Nat} (n : Nm H v xs o) (s : Same H H') : Nm H' v xs o := by
  cases n with
  | seq h hl fl => exact .seq (h.same s) hl fl
  | bad o ns => exact .bad (o.same s) ns
theorem cnt_cons (c : Nat) (v : V) (vs : List V) : cnt c (v :: vs) = (match stepE c v with | some c' => cnt c' vs | none => none) := rfl
theorem stepE_le {c c' : Nat} {v : V} (h : stepE c v = some c') : c ≤ c' := by
  unfold stepE at h
  split at h
  · injection h with h; omega
  · split at h
    · cases h
    · split at h
      · cases h
      · split at h <;> injection h with h <;> omega
  · cases h
theorem cnt_le : ∀ {vs : List V} {c c' : Nat}, cnt c vs = some c' → c ≤ c'
  | [], c, c', h => by
    injection h with h
    omega
  | v :: vs, c, c', h => by
    rw [cnt_cons] at h
    cases e : stepE c v with
    | none => rw [e] at h; cases h
    | some d =>
      rw [e] at h
      exact Nat.le_trans (stepE_le e) (cnt_le h)
/-- the whole numbers among the entries -/
def intsOf : List V → List Int
  | [] => []
  | .int i :: vs => i :: intsOf vs
  | _ :: vs => intsOf vs
theorem cnt_ints : ∀ {vs : List V} {c c' : Nat}, cnt c vs = some c' → (∀ y ∈ intsOf vs, y < c') ∧ (c < c' → ((c' : Int) - 1) ∈ intsOf vs)
  | [], c, c', h => by
    injection h with h
    exact ⟨fun y hy => (by cases hy), fun z => by omega⟩
  | v :: vs, c, c', h => by
    rw [cnt_cons] at h
    cases e : stepE c v with
    | none => rw [e] at h; cases h
    | some d =>
      rw [e] at h
      obtain ⟨h1, h2⟩ := cnt_ints h
      have hd := cnt_le h
      cases v with
      | int i =>
        have e' : (if i < 0 then none else if (c : Int) < i then none else if i = c then some (c + 1) else some c) = some d := e
        show (∀ y ∈ i :: intsOf vs, y < (c' : Int)) ∧ (c < c' → ((c' : Int) - 1) ∈ i :: intsOf vs)
        by_cases n0 : i < 0
        · rw [if_pos n0] at e'; cases e'
        rw [if_neg n0] at e'
        by_cases n1 : (c : Int) < i
        · rw [if_pos n1] at e'; cases e'
        rw [if_neg n1] at e'
        by_cases n2 : i = c
        · rw [if_pos n2] at e'
          injection e' with e'
          refine ⟨fun y hy => ?_, fun z => ?_⟩
          · rcases List.mem_cons.mp hy with rfl | hy
            · omega
            · exact h1 y hy
          · by_cases n3 : d < c'
            · exact List.mem_cons_of_mem _ (h2 n3)
            · have : (c' : Int) - 1 = i := by omega
              rw [this]
              exact List.mem_cons_self
        · rw [if_neg n2] at e'
          injection e' with e'
          refine ⟨fun y hy => ?_, fun z => List.mem_cons_of_mem _ (h2 (by omega))⟩
          rcases List.mem_cons.mp hy with rfl | hy
          · omega
          · exact h1 y hy
      | non =>
        have e' : some c = some d := e
        injection e' with e'
        subst e'
        exact ⟨h1, h2⟩
      | _ => cases e
theorem stepE_odd {c d : Nat} {v : V} (h : stepE c v = some d) : v = .non ∨ ∃ i, v = .int i := by
  cases v with
  | non => exact .inl rfl
  | int i => exact .inr ⟨i, rfl⟩
  | _ => cases h
end K26

/-! what is wrong with entries -/
namespace K26
open PySem PySem.Spec PyProof.Rows L2
structure Df (P : Program) (w : World) (K : PySem.W.Frag) (mg : Str → Option Value) (base : Heap) (x : Str) (k : Nat) (ps : List Str) (sp : Sp) (f : Addr) (fd : FuncData) : Prop where
  gl : mg x = some (.ref f)
  ok : FnOk P w K mg base CX0 k f fd ps sp
  bi : Binds K fd ps []
  kp : PySem.W.keepIn K (.ref f) = true
def spEF : Sp := fun vs H Q _ => ∃ (v : V) (xs : List V) (o : Option Nat), vs = [v] ∧ Nm H v xs o ∧
  (o = none → ∀ (H' : Hp) (t : Addr) (i : Int) (z : Str), Same H H' → H' t = some (.tup [.int i, .str z]) → Q (.ref t) H') ∧ (∀ c, o = some c → ∀ H', Same H H' → Q .non H')
section
variable {P : Program} {w : World} {K : PySem.W.Frag} {mg : Str → Option Value} {base : Heap}
theorem scEF : FnScope ["entries", "classes", "index", "entry"] ["entries"] (defScope sPEntriesFault) := ⟨rfl, rfl, rfl, by decide +kernel, rfl, by decide +kernel, by decide +kernel⟩
theorem drop_cons {xs : List V} {i : Nat} {v : V} (h : xs[i]? = some v) : xs.drop i = v :: xs.drop (i + 1) := by
  obtain ⟨hi, e⟩ := List.getElem?_eq_some_iff.mp h
  rw [List.drop_eq_getElem_cons hi, e]
theorem ok_ef {f fS : Addr} {fd fdS : FuncData} (F : FnP K "_entries_fault" sPEntriesFault f fd) (z_len : mg "len" = none) (z_enumerate : mg "enumerate" = none) (z_isinstance : mg "isinstance" = none) (z_int : mg "int" = none) (z_bool : mg "bool" = none)
    (g_MOST_PLACES : ∃ t, mg "MOST_PLACES" = some (.int 40 t)) (dS : Df P w K mg base "is_sequence" 1 ["thing"] spSeq fS fdS) : FnOk P w K mg base CX0 2 f fd ["entries"] spEF := by
  obtain ⟨tk, g_MOST_PLACES⟩ := g_MOST_PLACES
  refine F.ok scEF (fun vs H Q E h => ?_) (fun cdv A outer s H vs Q E hr1 h => ?_)
  · obtain ⟨v, xs, o, rfl, _⟩ := h
    rfl
  · obtain ⟨v, xs, o, rfl, nm, q0, q1⟩ := h
    refine ⟨_, PSs.nox (pss_cons (ps_if (PW.pt (pw_or (pt_not (pt_val (pe_call dS.ok hr1 (by rfl) dS.gl dS.kp dS.bi .nil pass0 (pa_cons (pv 0) pa_nil)))) (pw_or1 (pt_cmpR op_gt (pe_callB call_len_seq (by rfl) z_len boot_len (pa_cons (pv 0) pa_nil)) (pe_glob (by rfl) g_MOST_PLACES (v := .int 40) ⟨_, rfl⟩) (nomark _)))))
      (pss_one (ps_ret (pe_tup (pa_cons pe_int (pa_cons pe_str pa_nil)))))
      pss_nil)
    (pss_cons (ps_set (i := 1) scEF.nd rfl (.inl rfl) pe_int)
    (pss_cons (ps_for PassesOwn.never rfl (pi_or (pi_enum (by rfl) z_enumerate (pa_cons (pv 0) pa_nil)) (pi_enumT (by rfl) z_enumerate (pa_cons (pv 0) pa_nil) rfl)) (pg_tup (by rfl) (pgs_cons (pg_name (i := 2) scEF.nd rfl (.inl rfl)) (pgs_cons (pg_name (i := 3) scEF.nd rfl (.inl rfl)) pgs_nil)))
      (pss_cons (ps_if (pt_cmpR op_isN (pv 3) pe_non (nomark _))
        (pss_one ps_continue)
        pss_nil)
      (pss_cons (ps_if (PW.pt (pw_or (pt_not (pt_val (pe_callB call_isi (by rfl) z_isinstance (by decide +kernel) (pa_cons (pv 3) (pa_cons (pe_bltn (by rfl) z_int (by decide +kernel) (v := .ty "int") rfl) pa_nil))))) (pw_or (pt_val (pe_callB call_isi (by rfl) z_isinstance (by decide +kernel) (pa_cons (pv 3) (pa_cons (pe_bltn (by rfl) z_bool (by decide +kernel) (v := .ty "bool") rfl) pa_nil)))) (pw_or1 (pt_cmpR op_lt (pv 3) pe_int (nomark _))))))
        (pss_one (ps_ret (pe_tup (pa_cons (pv 2) (pa_cons pe_str pa_nil)))))
        pss_nil)
      (pss_cons (ps_if (pt_cmpR op_gt (pv 3) (pv 1) (nomark _))
        (pss_one (ps_ret (pe_tup (pa_cons (pv 2) (pa_cons pe_str pa_nil)))))
        pss_nil)
      (pss_one (ps_if (pt_cmpR op_eq (pv 3) (pv 1) (nomark _))
        (pss_one (ps_aug (i := 1) scEF.nd rfl (.inl rfl) pe_int ip_add))
        pss_nil))))))
    (pss_one (ps_ret pe_non))))), ?_⟩
    cases nm with
    | bad o ns =>
      refine ⟨_, rfl, _, _, rfl, o, fun u nu => ?_⟩
      rw [ns]
      exact ⟨_, rfl, iteT ⟨(by show 2 ≤ sizeLine; decide), fun z nz => q0 rfl _ z _ _ ((same_upd nu).trans (same_upd nz)) upd_same⟩⟩
    | @seq a xs h hl fl =>
      obtain ⟨t, o, hs⟩ := h.odd
      refine ⟨_, rfl, _, _, rfl, o, fun u nu => ?_⟩
      rw [hs]
      refine ⟨_, rfl, iteF ?_⟩
      have su := same_upd (o := .tup [.ty "list", .ty "tuple"]) nu
      have h1 := h.same su
      generalize upd H u (.tup [.ty "list", .ty "tuple"]) = H0 at su h1 ⊢
      refine ⟨_, rfl, _, _, rfl, h1.or, _, _, rfl, rfl, _, rfl, ite2 (fun z => absurd (of_decide_eq_true z) (by omega)) (fun _ => ?_)⟩
      refine enum_any (fun Q q => ⟨_, rfl, q⟩) h1 fun it G wk keep => for_it wk (fun i σ H' => ∃ (c : Nat) (x2 x3 : Option V), σ = [some (.ref a), some (.int (c : Int)), x2, x3] ∧ cnt c (xs.drop i) = cnt 0 xs ∧ Same H0 H')
        ⟨0, none, none, rfl, by rw [List.drop_zero], Same.refl _⟩ (fun i σ H' _ ⟨_, _, _, _, _, s⟩ => keep _ (Same.kp s)) ?_ ?_
      · rintro i x σ H1 H2 hi ⟨c, x2, x3, rfl, hc, sm⟩ ⟨T, u', v, rfl, nT, rfl, eu, ev⟩
        obtain rfl : u' = .int (i : Int) := (Option.some.inj eu).symm
        have fv := fl v (List.mem_of_getElem? ev)
        rw [drop_cons ev, cnt_cons] at hc
        have sT := sm.trans (same_upd (o := .tup [.int (i : Int), v]) nT)
        have sH := su.trans sT
        refine ⟨T, _, rfl, .inl (.inl upd_same), rfl, _, _, rfl, _, _, rfl, rfl, ?_⟩
        have ret : ∀ z : Str, cnt 0 xs = none → ∀ p, upd H1 T (.tup [.int (i : Int), v]) p = none → Q (.ref p) (upd (upd H1 T (.tup [.int (i : Int), v])) p (.tup [.int (i : Int), .str z])) := fun z e p np => q0 e _ p _ z (sH.trans (same_upd np)) upd_same
        cases fv with
        | non => exact ⟨_, rfl, rfl, _, rfl, iteT ⟨c, _, _, rfl, hc, sT⟩⟩
        | bl b =>
          refine ⟨_, rfl, rfl, _, rfl, iteF ?_⟩
          refine ⟨_, rfl, _, _, _, _, true, rfl, .ty _, .base (.bl b), kit_ty (by decide +kernel), _, rfl, iteF ⟨_, rfl, _, _, _, _, true, rfl, .ty _, .base (.bl b), kit_ty (by decide +kernel), _, rfl, iteT ?_⟩⟩
          exact ⟨_, rfl, (by show 2 ≤ sizeLine; decide), fun p np => ret _ hc.symm p np⟩
        | str z h1 h2 =>
          refine ⟨_, rfl, rfl, _, rfl, iteF ?_⟩
          refine ⟨_, rfl, _, _, _, _, false, rfl, .ty _, .base (.str z), kit_ty (by decide +kernel), _, rfl, iteT ?_⟩
          exact ⟨_, rfl, (by show 2 ≤ sizeLine; decide), fun p np => ret _ hc.symm p np⟩
        | int j =>
          refine ⟨_, rfl, rfl, _, rfl, iteF ?_⟩
          refine ⟨_, rfl, _, _, _, _, true, rfl, .ty _, .base (.int j), kit_ty (by decide +kernel), _, rfl, iteF ⟨_, rfl, _, _, _, _, false, rfl, .ty _, .base (.int j), kit_ty (by decide +kernel), _, rfl, iteF ?_⟩⟩
          have hc' : (match (if j < 0 then none else if (c : Int) < j then none else if j = c then some (c + 1) else some c : Option Nat) with | some c' => cnt c' (xs.drop (i + 1)) | none => none) = cnt 0 xs := hc
          refine ⟨_, rfl, _, _, rfl, rfl, _, rfl, ite2 (fun g => ?_) (fun g => ?_)⟩
          · rw [if_pos (of_decide_eq_true g)] at hc'
            exact ⟨_, rfl, (by show 2 ≤ sizeLine; decide), fun p np => ret _ hc'.symm p np⟩
          rw [if_neg (fun z => g (decide_eq_true z))] at hc'
          refine ⟨_, rfl, _, rfl, _, _, rfl, rfl, _, rfl, ite2 (fun g => ?_) (fun g => ?_)⟩
          · rw [if_pos (of_decide_eq_true g)] at hc'
            exact ⟨_, rfl, (by show 2 ≤ sizeLine; decide), fun p np => ret _ hc'.symm p np⟩
          rw [if_neg (fun z => g (decide_eq_true z))] at hc'
          refine ⟨_, rfl, _, rfl, rfl, _, rfl, ite2 (fun g => ?_) (fun g => ?_)⟩
          · have ej : j = (c : Int) := V.int.inj (of_decide_eq_true g)
            rw [if_pos ej] at hc'
            refine ⟨_, rfl, _, _, rfl, rfl, ⟨c + 1, _, _, rfl, hc', sT⟩⟩
          · rw [if_neg (fun z => g (decide_eq_true (by rw [z])))] at hc'
            exact ⟨c, _, _, rfl, hc', sT⟩
      · rintro σ H1 ⟨c, x2, x3, rfl, hc, sm⟩
        rw [List.drop_of_length_le (Nat.le_refl _)] at hc
        exact q1 c hc.symm H1 (su.trans sm)
end
end K26

/-! the errors' __init__ -/
namespace K26
open PySem PySem.Spec PyProof.Rows L2 L2H
abbrev sPatErr : Stmt := inClass (top 3) 0
abbrev sMtErr : Stmt := inClass (top 4) 0
abbrev NoF (K : PySem.W.Frag) (C : Addr) (f : Str) : Prop := PySem.W.findIn K (.ref C) f = some none
abbrev patF (i : Int) (x : Str) : List (Str × V) := [("what", .str x), ("index", .int i)]
abbrev stF (x : Str) : List (Str × V) := [("what", .str x)]
theorem keep_new {H : Hp} {a d : Addr} {o u : HO} (nd : H d = none) : ∀ b x, b ≠ a → H b = some x → (upd (upd H d u) a o) b = some x := fun b x n e => by
  rw [upd_ne n, upd_ne (ne_of_none e nd)]
  exact e
theorem keep_dict {H H1 : Hp} {a d : Addr} {o : HO} (nd : H d = none) (k : ∀ b x, b ≠ a → H b = some x → H1 b = some x) : ∀ b x, b ≠ a → H b = some x → (upd H1 d o) b = some x := fun b x n e => by
  rw [upd_ne (ne_of_none e nd)]
  exact k b x n e
def spPatErr (C : Addr) : Sp := fun vs H Q _ => ∃ (a : Addr) (i : Int) (x : Str), vs = [.ref a, .int i, .str x] ∧ H a = some (exo a C none) ∧
  ∀ (H' : Hp) (d : Addr), H d = none → H' a = some (exo a C (some d)) → H' d = some (exd d (patF i x)) → (∀ b o, b ≠ a → H b = some o → H' b = some o) → Q .non H'
def spMtErr (C : Addr) : Sp := fun vs H Q _ => ∃ (a : Addr) (x : Str), vs = [.ref a, .str x] ∧ H a = some (exo a C none) ∧
  ∀ (H' : Hp) (d : Addr), H d = none → H' a = some (exo a C (some d)) → H' d = some (exd d (stF x)) → (∀ b o, b ≠ a → H b = some o → H' b = some o) → Q .non H'
section
variable {P : Program} {w : World} {K : PySem.W.Frag} {mg : Str → Option Value} {base : Heap}
theorem ok_patErr {f C : Addr} {fd : FuncData} (F : FunD K "__init__" "BadPattern.__init__" (defArgs sPatErr) (defBody sPatErr) (defScope sPatErr) [] [] f fd) (T : OexC K C) (n0 : NoF K C "index") (n1 : NoF K C "what") :
    FnOk P w K mg base CX0 1 f fd ["self", "index", "what"] (spPatErr C) := by
  have sc : FnScope ["self", "index", "what"] ["self", "index", "what"] (defScope sPatErr) := ⟨rfl, rfl, rfl, by decide +kernel, rfl, by decide +kernel, by decide +kernel⟩
  refine F.ok sc (fun vs H Q E h => ?_) (fun cdv A outer s H vs Q E hr h => ?_)
  · obtain ⟨a, i, x, rfl, _⟩ := h
    rfl
  · obtain ⟨a, i, x, rfl, ea, q⟩ := h
    refine ⟨_, PSs.nox (pss_cons (ps_ost (pv 0) (pv 1)) (pss_one (ps_ost (pv 0) (pv 2)))), ?_⟩
    refine ⟨_, rfl, _, rfl, a, C, rfl, T, n0, .inl ⟨ea, fun d nd ne => ?_⟩⟩
    refine ⟨_, rfl, _, rfl, a, C, rfl, T, n1, .inr ⟨d, _, upd_same, Eq.trans (upd_ne ne) upd_same, (by show 1 ≤ 900; decide), ?_⟩⟩
    exact q _ d nd (Eq.trans (upd_ne (Ne.symm ne)) upd_same) upd_same (keep_dict nd (keep_new nd))
theorem ok_mtErr {f C : Addr} {fd : FuncData} (F : FunD K "__init__" "BadMatch.__init__" (defArgs sMtErr) (defBody sMtErr) (defScope sMtErr) [] [] f fd) (T : OexC K C) (n1 : NoF K C "what") :
    FnOk P w K mg base CX0 1 f fd ["self", "what"] (spMtErr C) := by
  have sc : FnScope ["self", "what"] ["self", "what"] (defScope sMtErr) := ⟨rfl, rfl, rfl, by decide +kernel, rfl, by decide +kernel, by decide +kernel⟩
  refine F.ok sc (fun vs H Q E h => ?_) (fun cdv A outer s H vs Q E hr h => ?_)
  · obtain ⟨a, x, rfl, _⟩ := h
    rfl
  · obtain ⟨a, x, rfl, ea, q⟩ := h
    refine ⟨_, PSs.nox (pss_one (ps_ost (pv 0) (pv 1))), ?_⟩
    refine ⟨_, rfl, _, rfl, a, C, rfl, T, n1, .inl ⟨ea, fun d nd ne => ?_⟩⟩
    exact q _ d nd upd_same (Eq.trans (upd_ne ne) upd_same) (keep_new nd)
theorem ok_mtErrH {f C : Addr} {fd : FuncData} (F : FunD K "__init__" "BadMatch.__init__" (defArgs sMtErr) (defBody sMtErr) (defScope sMtErr) [] [] f fd) (T : OexC K C) (n1 : NoF K C "what") :
    FnH P w K mg base CX0 1 f fd ["self", "what"] (spMtErr C) := by
  have sc : FnScope ["self", "what"] ["self", "what"] (defScope sMtErr) := ⟨rfl, rfl, rfl, by decide +kernel, rfl, by decide +kernel, by decide +kernel⟩
  refine okH F sc (fun vs H Q E h => ?_) (fun cdv A outer s H vs Q E p hot hr h => ?_)
  · obtain ⟨a, x, rfl, _⟩ := h
    rfl
  · obtain ⟨a, x, rfl, ea, q⟩ := h
    refine ⟨_, PSs.nox (pss_one (ps_ost (pv 0) (pv 1))), ?_⟩
    refine ⟨_, rfl, _, rfl, a, C, rfl, T, n1, .inl ⟨ea, fun d nd ne => ?_⟩⟩
    exact q _ d nd upd_same (Eq.trans (upd_ne ne) upd_same) (keep_new nd)
end
end K26

/-! a pattern is made, or refused -/
namespace K26
open PySem PySem.Spec PyProof.Rows L2
abbrev sPInit : Stmt := inClass (top 11) 0
theorem intsOf_app : ∀ (xs ys : List V), intsOf (xs ++ ys) = intsOf xs ++ intsOf ys
  | [], ys => rfl
  | v :: vs, ys => by
    have ih := intsOf_app vs ys
    cases v with
    | int i => exact congrArg (List.cons i) ih
    | _ => exact ih
theorem cnt_kinds : ∀ {vs : List V} {c c' : Nat}, cnt c vs = some c' → ∀ v ∈ vs, v = .non ∨ ∃ i : Int, v = .int i ∧ 0 ≤ i
  | [], c, c', h => fun v hv => by cases hv
  | v :: vs, c, c', h => by
    rw [cnt_cons] at h
    cases e : stepE c v with
    | none => rw [e] at h; cases h
    | some d =>
      rw [e] at h
      intro u hu
      rcases List.mem_cons.mp hu with rfl | hu
      · cases u with
        | non => exact .inl rfl
        | int i =>
          refine .inr ⟨i, rfl, ?_⟩
          have e' : (if i < 0 then none else if (c : Int) < i then none else if i = c then some (c + 1) else some c : Option Nat) = some d := e
          by_cases n0 : i < 0
          · rw [if_pos n0] at e'; cases e'
          · omega
        | _ => cases e
      · exact cnt_kinds h u hu
theorem len_intsOf : ∀ vs : List V, (intsOf vs).length ≤ vs.length
  | [] => Nat.le_refl _
  | v :: vs => by
    have ih := len_intsOf vs
    cases v with
    | int i => exact Nat.succ_le_succ ih
    | _ => exact Nat.le_succ_of_le ih
theorem mem_intsOf : ∀ {vs : List V} {i : Int}, i ∈ intsOf vs → V.int i ∈ vs
  | [], i, h => by cases h
  | v :: vs, i, h => by
    cases v with
    | int j =>
      rcases List.mem_cons.mp h with rfl | h
      · exact List.mem_cons_self
      · exact List.mem_cons_of_mem _ (mem_intsOf h)
    | _ => exact List.mem_cons_of_mem _ (mem_intsOf (show i ∈ intsOf vs from h))
theorem cnt_max {vs : List V} {c : Nat} (h : cnt 0 vs = some c) {m : Int} (hm : m ∈ intsOf vs) (hle : ∀ y ∈ intsOf vs, y ≤ m) : 1 + m = c := by
  obtain ⟨h1, h2⟩ := cnt_ints h
  have z1 := h1 m hm
  have z0 : 0 ≤ m := by
    rcases cnt_kinds h _ (mem_intsOf hm) with e | ⟨i, e, hi⟩
    · cases e
    · injection e with e
      omega
  have z2 := hle _ (h2 (by omega))
  omega
theorem cnt_none {vs : List V} {c : Nat} (h : cnt 0 vs = some c) (hn : intsOf vs = []) : c = 0 := by
  obtain ⟨h1, h2⟩ := cnt_ints h
  by_cases z : 0 < c
  · have y := h2 z
    rw [hn] at y
    cases y
  · omega
/-- the class of patterns -/
structure PatC (K : PySem.W.Frag) (CP : Addr) : Prop where
  cl : Cls K CP
  nE : NoAttr K CP "entries"
  nC : NoAttr K CP "_classes"
/-- BadPattern(..), BadState(..) -/
structure ErrC (P : Program) (w : World) (K : PySem.W.Frag) (mg : Str → Option Value) (base : Heap) (x : Str) (ps : List Str) (sp : Addr → Sp) (C fI : Addr) (fd : FuncData) : Prop where
  cl : OexC K C
  ini : PySem.W.findIn K (.ref C) "__init__" = some (some (.ref fI))
  ty : PySem.W.typeIn K (.ref fI) = some (.type "function")
  gl : mg x = some (.ref C)
  ok : FnOk P w K mg base CX0 1 fI fd ps (sp C)
  bi : Binds K fd ps []
abbrev patO (t : Addr) (c : Nat) : List (Str × V) := [("entries", .ref t), ("_classes", .int c)]
def spPat (CP CE : Addr) : Sp := fun vs H Q E => ∃ (x dx : Addr) (v : V) (xs : List V) (o : Option Nat), vs = [.ref x, v] ∧ H x = some (.ins CP dx []) ∧ Nm H v xs o ∧
  (∀ c, o = some c → ∀ (H' : Hp) (t : Addr), H' x = some (.ins CP dx (patO t c)) → H' t = some (.tup xs) → (∀ z u, H z = some u → z ≠ x → H' z = some u) → Q .non H') ∧
  (o = none → ∀ (H' : Hp) (d : Addr) (i : Int) (z : Str), H d = none → H' d = some (.xd (patF i z)) → Same H H' → E (.ref CE) (some d) H')
section
variable {P : Program} {w : World} {K : PySem.W.Frag} {mg : Str → Option Value} {base : Heap}
abbrev nmPI : List Str := ["self", "entries", "fault", "entry"]
theorem scPI : FnScope nmPI ["self", "entries"] (defScope sPInit) := ⟨rfl, rfl, rfl, by decide +kernel, rfl, by decide +kernel, by decide +kernel⟩
theorem ok_pat {f fE fX CP CE : Addr} {fd fdE fdX : FuncData} (F : FunD K "__init__" "Pattern.__init__" (defArgs sPInit) (defBody sPInit) (defScope sPInit) [] [] f fd) (T : PatC K CP) (z_tuple : mg "tuple" = none) (z_max : mg "max" = none)
    (dE : Df P w K mg base "_entries_fault" 2 ["entries"] spEF fE fdE) (X : ErrC P w K mg base "BadPattern" ["self", "index", "what"] spPatErr CE fX fdX) : FnOk P w K mg base (L2.CX P w) 3 f fd ["self", "entries"] (spPat CP CE) := by
  refine F.ok scPI (fun vs H Q E h => ?_) (fun cdv A outer s H vs Q E hr h => ?_)
  · obtain ⟨x, dx, v, xs, o, rfl, _⟩ := h
    rfl
  · obtain ⟨x, dx, v, xs, o, rfl, hx, nm, q1, q0⟩ := h
    have hu := hu_of hr
    refine ⟨_, pss_cons (ps_set (i := 2) scPI.nd rfl (.inl rfl) (pe_call dE.ok hr (by rfl) dE.gl dE.kp dE.bi .nil pass0 (pa_cons (pv 1) pa_nil)))
      (pss_cons (ps_if (pt_cmpR op_notN (pv 2) pe_non (nomark _))
          (pss_one (ps_raise rfl (takes_of rfl rfl rfl rfl) (pmk_oex X.cl X.ini X.ty X.ok hr X.bi .nil pass0 (by rfl) X.gl (pa_cons (pe_ix ix_tup (pv 2) pe_int (fun _ _ => rfl)) (pa_cons (pe_ix ix_tup (pv 2) pe_int (fun _ _ => rfl)) pa_nil))))) pss_nil)
      (PSs.nox (pss_cons (ps_fld (pv 0) (pe_callTy call_tupS (by rfl) z_tuple (by decide +kernel) (pa_cons (pv 1) pa_nil)) rfl)
      (pss_one (ps_fld (pv 0) (pe_op op_add pe_int (pe_callBK (crk_max rfl (Nat.lt_of_le_of_lt (Nat.add_le_add_left (by decide : 3 ≤ 64) _) hr.units)) (by rfl) z_max (by decide +kernel)
        (pa_cons (pe_lc (own := [("entry", 3)]) (g := gName 3) rfl scPI.nd (pi_or (pi_list (pv 1)) (pi_tup (pv 1))) (blkOk_by (N := nmPI) (sc := defScope sPInit) (by decide +kernel))
          (fun _ _ _ _ _ => pg_name (i := 3) scPI.nd rfl (Or.inl rfl)) (fun _ _ _ _ _ => pts_one (pt_cmpR op_notN (pv 3) pe_non (nomark _))) (fun _ _ _ _ _ => pv 3)) pa_nil) (pk_cons (pe_un un_neg pe_int) pk_nil))) rfl))))), ?_⟩
    refine ⟨_, rfl, v, xs, o, rfl, nm, fun eo H1 t i z s1 ht => ?_, fun c eo H1 s1 => ?_⟩
    · refine ⟨_, rfl, rfl, _, rfl, iteT ?_⟩
      refine ⟨_, rfl, _, _, _, _, rfl, rfl, SqT.of ht, rfl, _, rfl, _, _, _, _, rfl, rfl, SqT.of ht, rfl, (by show 2 ≤ 1000; decide), fun av nav => ⟨av, i, z, rfl, upd_same, fun H3 dd nd3 ha3 hd3 kp => ⟨rfl, dd, _, ha3, hd3, ?_, ?_⟩⟩⟩
      · exact none_of (same_upd nav) nd3
      · refine q0 eo _ dd i z (none_of s1 (none_of (same_upd nav) nd3)) upd_same fun y' o' e' => ?_
        have e2 := s1 _ _ e'
        rw [upd_ne (ne_of_none e2 (none_of (same_upd nav) nd3)), del_ne (ne_of_none e2 nav)]
        exact kp _ _ (ne_of_none e2 nav) (same_upd nav _ _ e2)
    · refine ⟨_, rfl, rfl, _, rfl, iteF ?_⟩
      cases nm with
      | bad o ns => cases eo
      | @seq a xs h hl fl =>
        have h1 := h.same s1
        have hx1 := s1 _ _ hx
        have ax : a ≠ x := h.elim (fun e => ne_of e hx (by intro z; cases z)) fun e => ne_of e hx (by intro z; cases z)
        refine ⟨_, rfl, a, xs, rfl, h1, fun H2 t s2 ht => ?_⟩
        have hx2 := s2 _ _ hx1
        have tx : t ≠ x := ne_of ht hx2 (by intro z; cases z)
        refine ⟨_, rfl, x, CP, dx, _, rfl, hx2, T.cl, T.nE, by decide, ?_⟩
        have hx3 : upd H2 x (.ins CP dx (putF "entries" (.ref t) [])) x = some (.ins CP dx (putF "entries" (.ref t) [])) := upd_same
        have ht3 : upd H2 x (.ins CP dx (putF "entries" (.ref t) [])) t = some (.tup xs) := (upd_ne tx).trans ht
        have k3 : ∀ z u, H z = some u → z ≠ x → upd H2 x (.ins CP dx (putF "entries" (.ref t) [])) z = some u := fun z u e ne => (upd_ne ne).trans (s2 _ _ (s1 _ _ e))
        have h3 : Sq (upd H2 x (.ins CP dx (putF "entries" (.ref t) []))) a xs := (h1.same s2).elim (fun e => .inl ((upd_ne ax).trans e)) fun e => .inr ((upd_ne ax).trans e)
        generalize upd H2 x (.ins CP dx (putF "entries" (.ref t) [])) = H3 at hx3 ht3 k3 h3
        refine seq_any (fun Q q => ⟨_, rfl, q⟩) h3 fun it G wk keep D nD => lc_it wk (fun i H' => Same H3 H' ∧ H' D = some (.lst ((intsOf (xs.take i)).map V.int))) ⟨same_upd nD, upd_same⟩ (fun i H' _ ⟨s, _⟩ => keep _ (Same.kp s)) ?_ ?_
        · rintro i y H4 H5 hi ⟨s4, eD⟩ ⟨rfl, ev⟩
          have et : xs.take (i + 1) = xs.take i ++ [y] := by rw [List.take_add_one, ev]; rfl
          have hlen : ((intsOf (xs.take i)).map V.int).length < sizeLine := by
            rw [List.length_map]
            refine Nat.lt_of_le_of_lt (Nat.le_trans (len_intsOf _) ?_) (show 40 < sizeLine by decide)
            rw [List.length_take]
            exact Nat.le_trans (Nat.min_le_right _ _) hl
          rcases cnt_kinds eo y (List.mem_of_getElem? ev) with rfl | ⟨j, rfl, _⟩
          · refine ⟨rfl, _, rfl, rfl, _, rfl, iteF ⟨s4, ?_⟩⟩
            rw [et, intsOf_app]
            show H5 D = some (.lst ((intsOf (xs.take i) ++ []).map V.int))
            rw [List.append_nil]
            exact eD
          · refine ⟨rfl, _, rfl, rfl, _, rfl, iteT ⟨_, rfl, _, eD, hlen, fun b o e => ?_, ?_⟩⟩
            · rw [upd_ne (ne_of_none e nD)]
              exact s4 _ _ e
            · rw [upd_same, et, intsOf_app, List.map_append]
              rfl
        · rintro H4 ⟨s4, eD⟩
          rw [List.take_of_length_le (Nat.le_refl _)] at eD
          refine ⟨_, rfl, D, intsOf xs, -1, rfl, rfl, SqL.of eD, fun en => ?_, fun m hm hle => ?_⟩
          · have ec := cnt_none eo en
            subst ec
            refine ⟨_, _, rfl, rfl, _, rfl, x, CP, dx, _, rfl, s4 _ _ hx3, T.cl, T.nC, (show 1 < 1000 by decide), ?_⟩
            exact q1 0 eo _ t upd_same ((upd_ne tx).trans (s4 _ _ ht3)) fun z u e ne => (upd_ne ne).trans (s4 _ _ (k3 z u e ne))
          · have ec := cnt_max eo hm hle
            refine ⟨_, _, rfl, rfl, _, rfl, x, CP, dx, _, rfl, s4 _ _ hx3, T.cl, T.nC, (show 1 < 1000 by decide), ?_⟩
            exact q1 c eo _ t (by rw [upd_same]; show some (HO.ins CP dx [("entries", V.ref t), ("_classes", V.int (1 + m))]) = _; rw [ec]) ((upd_ne tx).trans (s4 _ _ ht3)) fun z u e ne => (upd_ne ne).trans (s4 _ _ (k3 z u e ne))
end
end K26

/-! C(..) where its __init__ may raise -/
namespace K26
open PySem PySem.Spec PyProof.Rows L2 L2H
/-- C(..) in a try: its __init__ may raise -/
def tMakeS (C : Addr) (sp : Sp) (E : L2.St → XK) (t : TA) : TE := fun σ H Q => t σ H fun vs H1 => ∀ x dx, H1 x = none → H1 dx = none → dx ≠ x →
  sp (.ref x :: vs) (upd (upd H1 dx (.own x)) x (.ins C dx [])) (fun v H2 => v = .non ∧ Q (.ref x) H2) (E σ)
section
variable {X : Cx} {CX : CXT} {k : Nat} {f C : Addr} {fd : FuncData} {ps : List Str} {sp : Sp} {E : L2.St → XK} {x : Str} {p pos : Pos} {e : Expr} {es : List Expr} {t : TA}
theorem run_makeS {pins : List (Addr × Obj)} {σ : L2.St} {H : Hp} {s : Shared} {Q : VK} {us : List Value} {vs : List V} (M : Mk X.K C f) (F : FnOk X.prog X.w X.K X.mg X.base CX k f fd ps sp) (hr : Room (k + 1) X.A) (hb : Binds X.K fd ps [])
    (hx : PassesAt CX X σ (E σ)) (I : Inv X pins σ H s) (r : Vals vs us)
    (h : ∀ x dx, H x = none → H dx = none → dx ≠ x → sp (.ref x :: vs) (upd (upd H dx (.own x)) x (.ins C dx [])) (fun v H2 => v = .non ∧ Q (.ref x) H2) (E σ)) :
    wpAny (model X.prog X.w) X.A (call (.ref C) us) (EP X pins σ Q) X.xe s := by
  have hq := h (s.heap.objs.size + 1) s.heap.objs.size (I.hok.fresh (Nat.le_succ _)) (I.hok.fresh (Nat.le_refl _)) (Nat.ne_of_lt (Nat.lt_succ_self _))
  have I2 := Inv.made (C := C) I
  have r2 : Vals (V.ref (s.heap.objs.size + 1) :: vs) (Value.ref (s.heap.objs.size + 1) :: us) := .cons rfl r
  have hl : (Value.ref (s.heap.objs.size + 1) :: us ++ []).length = ps.length := by
    have e := r2.length
    rw [F.len _ _ _ _ hq] at e
    rw [List.append_nil]
    exact e.symm
  have hbb := hb _ (Value.ref (s.heap.objs.size + 1) :: us) I2.kIn hl
  rw [List.append_nil] at hbb
  refine wpAny_call (make_map (f := f) I.kIn M.makes M.init (beq_iff_eq.mp M.fn) (codeAny_mono (F.run _ X.stack _ _ ⟨Value.ref (s.heap.objs.size + 1) :: us, []⟩ (Value.ref (s.heap.objs.size + 1) :: us) _ _ (E σ) (hr.make C us [])
    (I2.env0.make C us []) hbb r2 hq) fun r s' hq' => ?_))
  cases r with
  | error e => exact hx pins _ _ e s' I2 hq'
  | ok fl =>
    cases fl with
    | ret u =>
      obtain ⟨v, H', I3, rv, ev, q3⟩ := I2.after hq'
      subst ev
      exact ⟨rv, ⟨V.ref (s.heap.objs.size + 1), H', I3, rfl, q3⟩⟩
    | next => exact False.elim hq'
    | brk => exact False.elim hq'
    | cont => exact False.elim hq'
theorem pe_makeS (M : Mk X.K C f) (F : FnOk X.prog X.w X.K X.mg X.base CX k f fd ps sp) (hr : Room (k + 1) X.A) (hg : Gl X x) (hm : X.mg x = some (.ref C)) (hb : Binds X.K fd ps []) (hx : ∀ σ, PassesAt CX X σ (E σ))
    (ha : PA X (e :: es) t) (hdb : (x == ("__debug__" : Str)) = false := by decide) (he : starEach (e :: es) X.env = (false, eval e X.env) :: starEach es X.env := by rfl) (hpl : (backTo pos (starEach es X.env)).any (·.1) = false := by rfl) :
    PE X (.Call (.Name x p) (e :: es) [] pos) (tMakeS C sp E t) := by
  refine ⟨fun pins s σ H Q I h => ?_⟩
  refine wpAny_Call_Name_kw (ld_glob I hg hm ?_ hdb)
  refine PySem.W.callWith_K (h₀ := X.base) I.ok.mod.kin M.kp (thn (ha.run pos pins s σ H _ I h) fun us s1 ⟨vs, H1, I1, r, q⟩ => ⟨I1.kIn, ?_⟩) he hpl
  exact run_makeS M F hr hb (hx σ) I1 r q
end
end K26

/-! odd things are drawn -/
namespace K26
open PySem PySem.Spec PyProof.Rows L2
def Kept (p : Addr) (H H' : Hp) : Prop := ∀ b o, b ≠ p → H b = some o → H' b = some o
theorem Kept.upd {p : Addr} {H : Hp} {o : HO} : Kept p H (upd H p o) := fun b u n e => by
  rw [upd_ne n]
  exact e
theorem Kept.refl {p : Addr} {H : Hp} : Kept p H H := fun b u n e => e
theorem Kept.trans {p : Addr} {H H1 H2 : Hp} (a : Kept p H H1) (b : Kept p H1 H2) : Kept p H H2 := fun c o n e => b c o n (a c o n e)
theorem Kept.same {p : Addr} {H H1 : Hp} (a : Same H H1) : Kept p H H1 := fun c o _ e => a c o e
theorem Kept.seq {p : Addr} {H H1 : Hp} {K : PySem.W.Frag} {a : Addr} {xs : List V} (k : Kept p H H1) (n : a ≠ p) (h : SqL K H a xs) : SqL K H1 a xs := by
  rcases h with (h | ⟨o, h⟩) | h
  · exact .inl (.inl (k _ _ n h))
  · exact .inl (.inr ⟨o, k _ _ n h⟩)
  · exact .inr h
theorem hand_apart {H : Hp} {p l : Addr} {cells : List Int} {i r t : Int} (h : HandAt H p l cells i r t) : l ≠ p := fun z => by
  have h1 := h.1
  have h2 := h.2.1
  rw [z, h1] at h2
  have h3 := Option.some.inj h2
  injection h3 with h4
  have h5 := congrArg List.head? h4
  cases cells with
  | nil => cases h5
  | cons c cs => cases h5
theorem hand_upd {H : Hp} {p l : Addr} {cells : List Int} {i r t i' r' t' : Int} (h : HandAt H p l cells i r t) (o : HandOk cells i' r' t') : HandAt (upd H p (handO l i' r' t')) p l cells i' r' t' := by
  refine ⟨upd_same, ?_, o⟩
  rw [upd_ne (hand_apart h)]
  exact h.2.1
theorem hand_same {H H' : Hp} {p l : Addr} {cells : List Int} {i r t : Int} (h : HandAt H p l cells i r t) (s : Same H H') : HandAt H' p l cells i r t := ⟨s _ _ h.1, s _ _ h.2.1, h.2.2⟩
theorem callR_or {X : Cx} {f : Value} {r1 r2 : List V → Hp → VK → Prop} (h1 : CallR X f r1) (h2 : CallR X f r2) : CallR X f (fun xs H Q => r1 xs H Q ∨ r2 xs H Q) := fun pins s σ H xs us Q I rv h => h.elim (h1 pins s σ H xs us Q I rv) (h2 pins s σ H xs us Q I rv)
/-- a list's item, or a text's sign -/
def spPick (K : PySem.W.Frag) : Sp := fun vs H Q _ => ∃ (p l : Addr) (cells : List Int) (i r t : Int), HandAt H p l cells i r t ∧
  ((∃ (a : Addr) (xs : List V), vs = [.ref p, .ref a] ∧ SqL K H a xs ∧ a ≠ p ∧ 0 < xs.length ∧ xs.length ≤ 1000 ∧ ∀ (v : V) (i' r' t' : Int), v ∈ xs → HandOk cells i' r' t' → Q v (upd H p (handO l i' r' t'))) ∨
   (∃ z : Str, vs = [.ref p, .str z] ∧ 0 < z.length ∧ z.length ≤ 1000 ∧ ∀ (c : Nat) (i' r' t' : Int), c ∈ z.cps.toList → HandOk cells i' r' t' → Q (.str ⟨#[c]⟩) (upd H p (handO l i' r' t'))))
section
variable {P : Program} {w : World} {K : PySem.W.Frag} {mg : Str → Option Value} {base : Heap}
theorem scPick : FnScope ["_law_hand_here", "_law_things"] ["_law_hand_here", "_law_things"] (defScope sPick) := ⟨rfl, rfl, rfl, by decide +kernel, rfl, by decide +kernel, by decide +kernel⟩
theorem ok_pick {f fD : Addr} {fd fdD : FuncData} (F : FnP K "_law_pick" sPick f fd) (zl : mg "len" = none) (dD : Df P w K mg base "_law_draw" 2 ["_law_hand_here", "_law_many"] spDraw fD fdD) : FnOk P w K mg base CX0 3 f fd ["_law_hand_here", "_law_things"] (spPick K) := by
  refine F.ok scPick (fun vs H Q E h => ?_) (fun cdv A outer s H vs Q E hr h => ?_)
  · obtain ⟨p, l, cells, i, r, t, hh, (⟨a, xs, rfl, _⟩ | ⟨z, rfl, _⟩)⟩ := h <;> rfl
  · obtain ⟨p, l, cells, i, r, t, hh, h⟩ := h
    refine ⟨_, PSs.nox (pss_one (ps_ret (pe_ix ix_seq (pv 1) (pe_call dD.ok hr (by rfl) dD.gl dD.kp dD.bi .nil pass0 (pa_cons (pv 0) (pa_cons (pe_callB (callR_or call_len_seq call_len_str) (by rfl) zl boot_len (pa_cons (pv 1) pa_nil)) pa_nil))) (fun _ _ => rfl)))), ?_⟩
    rcases h with ⟨a, xs, rfl, hS, nap, h0, h1, q⟩ | ⟨z, rfl, h0, h1, q⟩
    · refine ⟨_, rfl, _, rfl, _, rfl, .inl ⟨_, _, rfl, .inl hS, p, l, cells, i, r, t, _, rfl, hh, by omega, ?_, fun d i' r' t' d0 d1 ok' => ?_⟩⟩
      · have e : ((xs.length : Int)).natAbs = xs.length := by omega
        rw [e]
        exact Nat.lt_of_le_of_lt h1 (Nat.lt_of_lt_of_le (m := 2 ^ 20) (by decide) (Nat.pow_le_pow_right (by decide) (by decide)))
      · have hd : d.toNat < xs.length := by omega
        have hget : atI xs d = some xs[d.toNat] := by
          have z := atI_nat (xs := xs) (j := d.toNat) (v := xs[d.toNat]) (List.getElem?_eq_getElem hd)
          rw [Int.toNat_of_nonneg d0] at z
          exact z
        exact .inl ⟨_, _, _, _, rfl, rfl, Kept.upd.seq nap hS, hget, q _ i' r' t' (List.getElem_mem hd) ok'⟩
    · refine ⟨_, rfl, _, rfl, _, rfl, .inr ⟨z, rfl, Nat.le_trans h1 (by decide), p, l, cells, i, r, t, _, rfl, hh, by omega, ?_, fun d i' r' t' d0 d1 ok' => ?_⟩⟩
      · have e : ((z.length : Int)).natAbs = z.length := by omega
        rw [e]
        exact Nat.lt_of_le_of_lt h1 (Nat.lt_of_lt_of_le (m := 2 ^ 20) (by decide) (Nat.pow_le_pow_right (by decide) (by decide)))
      · have hl : z.cps.toList.length = z.length := Array.length_toList
        have hd : d.toNat < z.cps.toList.length := by omega
        have hget : atI z.cps.toList d = some (z.cps.toList[d.toNat]) := by
          have y := atI_nat (xs := z.cps.toList) (j := d.toNat) (v := z.cps.toList[d.toNat]) (List.getElem?_eq_getElem hd)
          rw [Int.toNat_of_nonneg d0] at y
          exact y
        exact .inr (.inr ⟨z, d, _, rfl, rfl, Nat.le_trans h1 (by decide), hget, q _ i' r' t' (List.getElem_mem hd) ok'⟩)
def layS (x : Str) : Prop := (PyData.str x).canLay0 = true
theorem lay_app {x : Str} {c : Nat} (h : layS x) (hc : c < 0x110000) : layS (x ++ ⟨#[c]⟩) := by
  have h1 : x.cps.all (fun c => decide (c < 0x110000)) = true := h
  show (x.cps ++ #[c]).all (fun c => decide (c < 0x110000)) = true
  rw [← Array.all_toList] at h1 ⊢
  rw [Array.toList_append, List.all_append, h1, Bool.true_and]
  show (List.all [c] _) = true
  rw [List.all_cons, decide_eq_true hc]
  rfl
theorem len_app {x : Str} {c : Nat} : (x ++ (⟨#[c]⟩ : Str)).length = x.length + 1 := by
  show (x.cps ++ #[c]).size = x.cps.size + 1
  rw [Array.size_append]
  rfl
theorem small2 {m : Int} (h : m.natAbs < 2 ^ 200) : m.natAbs < 2 ^ 8000 := Nat.lt_of_lt_of_le h (Nat.pow_le_pow_right (by decide) (by decide))
end
end K26

/-! things as data; the hand; written things -/
namespace K26
open PySem PySem.Spec PyProof.Rows L2
mutual
/-- d stands at v, all its objects are in S -/
inductive Dt (S : Addr → Prop) (H : Hp) : V → PyData → Prop
  | non : Dt S H .non .none
  | bl (b : Bool) : Dt S H (.bl b) (.bool b)
  | int (i : Int) : Dt S H (.int i) (.int i)
  | str (x : Str) (hx : x.length ≤ 1000) (hs : (PyData.str x).canLay0 = true) : Dt S H (.str x) (.str x)
  | lst {a : Addr} {xs : List V} {ds : List PyData} : S a → H a = some (.lst xs) → DtAll S H xs ds → Dt S H (.ref a) (.list ds)
  | tup {a : Addr} {xs : List V} {ds : List PyData} : S a → H a = some (.tup xs) → DtAll S H xs ds → Dt S H (.ref a) (.tuple ds)
inductive DtAll (S : Addr → Prop) (H : Hp) : List V → List PyData → Prop
  | nil : DtAll S H [] []
  | cons {v : V} {vs : List V} {d : PyData} {ds : List PyData} : Dt S H v d → DtAll S H vs ds → DtAll S H (v :: vs) (d :: ds)
end
section
variable {S S' : Addr → Prop} {H H' : Hp} {K : PySem.W.Frag}
mutual
theorem Dt.dp {v : V} {d : PyData} (h : Dt S H v d) : Dp K H v d := by
  cases h with
  | non => exact .non
  | bl b => exact .bl b
  | int i => exact .int i
  | str x _ _ => exact .str x
  | lst _ e r => exact .lst (SqL.of e) r.dp
  | tup _ e r => exact .tup (SqT.of e) r.dp
theorem DtAll.dp {vs : List V} {ds : List PyData} (h : DtAll S H vs ds) : DpAll K H vs ds := by
  cases h with
  | nil => exact .nil
  | cons a b => exact .cons a.dp b.dp
end
mutual
/-- carried to another heap -/
theorem Dt.to {v : V} {d : PyData} (h : Dt S H v d) (hS : ∀ a, S a → S' a) (k : ∀ a o, S a → H a = some o → H' a = some o) : Dt S' H' v d := by
  cases h with
  | non => exact .non
  | bl b => exact .bl b
  | int i => exact .int i
  | str x h1 h2 => exact .str x h1 h2
  | lst s e r => exact .lst (hS _ s) (k _ _ s e) (r.to hS k)
  | tup s e r => exact .tup (hS _ s) (k _ _ s e) (r.to hS k)
theorem DtAll.to {vs : List V} {ds : List PyData} (h : DtAll S H vs ds) (hS : ∀ a, S a → S' a) (k : ∀ a o, S a → H a = some o → H' a = some o) : DtAll S' H' vs ds := by
  cases h with
  | nil => exact .nil
  | cons a b => exact .cons (a.to hS k) (b.to hS k)
end
theorem Dt.same {v : V} {d : PyData} (h : Dt S H v d) (s : Same H H') : Dt S H' v d := h.to (fun _ z => z) fun a o _ e => s _ _ e
theorem DtAll.same {vs : List V} {ds : List PyData} (h : DtAll S H vs ds) (s : Same H H') : DtAll S H' vs ds := h.to (fun _ z => z) fun a o _ e => s _ _ e
abbrev Any : Addr → Prop := fun _ => True
theorem Dt.any {v : V} {d : PyData} (h : Dt S H v d) : Dt Any H v d := h.to (fun _ _ => trivial) fun _ _ _ e => e
theorem DtAll.any {vs : List V} {ds : List PyData} (h : DtAll S H vs ds) : DtAll Any H vs ds := h.to (fun _ _ => trivial) fun _ _ _ e => e
/-- another place than p, changed -/
theorem Dt.kept {v : V} {d : PyData} {p : Addr} (h : Dt S H v d) (np : ¬ S p) (k : Kept p H H') : Dt S H' v d := h.to (fun _ z => z) fun a o s e => k _ _ (fun z => np (z ▸ s)) e
theorem DtAll.kept {vs : List V} {ds : List PyData} {p : Addr} (h : DtAll S H vs ds) (np : ¬ S p) (k : Kept p H H') : DtAll S H' vs ds := h.to (fun _ z => z) fun a o s e => k _ _ (fun z => np (z ▸ s)) e
theorem DtAll.len {vs : List V} {ds : List PyData} (h : DtAll S H vs ds) : vs.length = ds.length := by
  induction ds generalizing vs with
  | nil => cases h; rfl
  | cons d ds ih => cases h with | cons a b => exact congrArg Nat.succ (ih b)
theorem DtAll.get {vs : List V} {ds : List PyData} (h : DtAll S H vs ds) {i : Nat} {v : V} (e : vs[i]? = some v) : ∃ d, ds[i]? = some d ∧ Dt S H v d := by
  induction ds generalizing vs i with
  | nil => cases h; cases e
  | cons d ds ih =>
    cases h with
    | cons a b =>
      cases i with
      | zero => cases e; exact ⟨d, rfl, a⟩
      | succ i => exact ih b e
theorem DtAll.app {vs us : List V} {ds es : List PyData} (h : DtAll S H vs ds) (g : DtAll S H us es) : DtAll S H (vs ++ us) (ds ++ es) := by
  induction ds generalizing vs with
  | nil => cases h; exact g
  | cons d ds ih => cases h with | cons a b => exact .cons a (ih b)
theorem DtAll.take {vs : List V} {ds : List PyData} (h : DtAll S H vs ds) (n : Nat) : DtAll S H (vs.take n) (ds.take n) := by
  induction ds generalizing vs n with
  | nil => cases h; cases n <;> exact .nil
  | cons d ds ih =>
    cases h with
    | cons a b =>
      cases n with
      | zero => exact .nil
      | succ n => exact .cons a (ih b n)
theorem DtAll.drop {vs : List V} {ds : List PyData} (h : DtAll S H vs ds) (n : Nat) : DtAll S H (vs.drop n) (ds.drop n) := by
  induction ds generalizing vs n with
  | nil => cases h; cases n <;> exact .nil
  | cons d ds ih =>
    cases h with
    | cons a b =>
      cases n with
      | zero => exact .cons a b
      | succ n => exact ih b n
def tyD : PyData → String
  | .none => "NoneType"
  | .bool _ => "bool"
  | .int _ => "int"
  | .str _ => "str"
  | .list _ => "list"
  | .tuple _ => "tuple"
  | .dict _ => "dict"
theorem Dt.odd {v : V} {d : PyData} (h : Dt S H v d) : Odd H v (tyD d) := by
  cases h with
  | non => exact .non
  | bl b => exact .bl b
  | int i => exact .int i
  | str x h1 h2 => exact .str x h1 h2
  | lst _ e r => exact .lst e
  | tup _ e r => exact .tup e
end
section
variable {S : Addr → Prop} {H : Hp}
mutual
theorem Dt.lay {v : V} {d : PyData} (h : Dt S H v d) : d.canLay0 = true := by
  cases h with
  | non => rfl
  | bl b => rfl
  | int i => rfl
  | str x h1 h2 => exact h2
  | lst s e r => exact r.lay
  | tup s e r => exact r.lay
theorem DtAll.lay {vs : List V} {ds : List PyData} (h : DtAll S H vs ds) : PyData.canLayAll0 ds = true := by
  cases h with
  | nil => rfl
  | cons a b => exact Bool.and_eq_true_iff.mpr ⟨a.lay, b.lay⟩
end
end
theorem shaped_of {d : PyData} (h : d.canLay0 = true) (k : d.depth ≤ 64) : SeqAt.shaped d = true := Bool.and_eq_true_iff.mpr ⟨h, decide_eq_true k⟩
/-- the hand stands at p -/
def Hand (p l : Addr) (H : Hp) : Prop := ∃ (cells : List Int) (i r t : Int), HandAt H p l cells i r t
theorem Hand.same {p l : Addr} {H H' : Hp} (h : Hand p l H) (s : Same H H') : Hand p l H' := by
  obtain ⟨cells, i, r, t, h⟩ := h
  exact ⟨cells, i, r, t, hand_same h s⟩
theorem Hand.at_ {p l : Addr} {H : Hp} (h : Hand p l H) : ∃ xs, H p = some (.lst xs) := by
  obtain ⟨cells, i, r, t, h⟩ := h
  exact ⟨_, h.1⟩
theorem Hand.nn {p l : Addr} {H : Hp} (h : Hand p l H) {a : Addr} (n : H a = none) : a ≠ p := fun z => by
  obtain ⟨xs, e⟩ := h.at_
  rw [z, e] at n
  cases n
theorem Hand.app {p l a : Addr} {H : Hp} {o : HO} (h : Hand p l H) (n1 : a ≠ p) (n2 : a ≠ l) : Hand p l (upd H a o) := by
  obtain ⟨cells, i, r, t, h⟩ := h
  exact ⟨cells, i, r, t, (upd_ne (Ne.symm n1)).trans h.1, (upd_ne (Ne.symm n2)).trans h.2.1, h.2.2⟩
theorem Hand.nl {p l : Addr} {H : Hp} (h : Hand p l H) {a : Addr} (n : H a = none) : a ≠ l := fun z => by
  obtain ⟨cells, i, r, t, h⟩ := h
  rw [z, h.2.1] at n
  cases n
theorem Hand.back {p l : Addr} {H H' : Hp} (h : Hand p l H') (k : Kept p H H') {a : Addr} (n : H' a = none) : H a = none := by
  cases e : H a with
  | none => rfl
  | some o =>
    have z := k _ _ (h.nn n) e
    rw [n] at z
    cases z
abbrev New (H : Hp) : Addr → Prop := fun a => H a = none
theorem Dt.newer {H H1 H' : Hp} {v : V} {d : PyData} {p l : Addr} (h : Dt (New H1) H' v d) (hp : Hand p l H1) (k : Kept p H H1) : Dt (New H) H' v d := h.to (fun a n => hp.back k n) fun _ _ _ e => e
theorem Dt.new_kept {H H1 H' : Hp} {v : V} {d : PyData} {p l : Addr} (h : Dt (New H) H1 v d) (hp : Hand p l H) (k : Kept p H1 H') : Dt (New H) H' v d := h.kept (fun n => (hp.nn n) rfl) k
theorem DtAll.newer {H H1 H' : Hp} {v : List V} {d : List PyData} {p l : Addr} (h : DtAll (New H1) H' v d) (hp : Hand p l H1) (k : Kept p H H1) : DtAll (New H) H' v d := h.to (fun a n => hp.back k n) fun _ _ _ e => e
theorem DtAll.new_kept {H H1 H' : Hp} {v : List V} {d : List PyData} {p l : Addr} (h : DtAll (New H) H1 v d) (hp : Hand p l H) (k : Kept p H1 H') : DtAll (New H) H' v d := h.kept (fun n => (hp.nn n) rfl) k
def spDr : Sp := fun vs H Q _ => ∃ (p l : Addr) (m : Int), vs = [.ref p, .int m] ∧ Hand p l H ∧ 0 < m ∧ m.natAbs < 2 ^ 200 ∧ ∀ (d : Int) (H' : Hp), 0 ≤ d → d < m → Kept p H H' → Hand p l H' → Q (.int d) H'
def spPk : Sp := fun vs H Q _ => ∃ (p l a : Addr) (xs : List V), vs = [.ref p, .ref a] ∧ Hand p l H ∧ H a = some (.lst xs) ∧ a ≠ p ∧ 0 < xs.length ∧ xs.length ≤ 1000 ∧ ∀ (v : V) (H' : Hp), v ∈ xs → Kept p H H' → Hand p l H' → Q v H'
section
variable {P : Program} {w : World} {K : PySem.W.Frag} {mg : Str → Option Value} {base : Heap}
theorem Df.draw {f : Addr} {fd : FuncData} (d : Df P w K mg base "_law_draw" 2 ["_law_hand_here", "_law_many"] spDraw f fd) : Df P w K mg base "_law_draw" 2 ["_law_hand_here", "_law_many"] spDr f fd :=
  ⟨d.gl, d.ok.imp fun vs H Q E ⟨p, l, m, e, ⟨cells, i, r, t, h⟩, h0, h1, q⟩ => ⟨p, l, cells, i, r, t, m, e, h, h0, small2 h1, fun d i' r' t' d0 d1 ok => q _ _ d0 d1 Kept.upd ⟨cells, i', r', t', hand_upd h ok⟩⟩, d.bi, d.kp⟩
theorem Df.pick {f : Addr} {fd : FuncData} (d : Df P w K mg base "_law_pick" 3 ["_law_hand_here", "_law_things"] (spPick K) f fd) : Df P w K mg base "_law_pick" 3 ["_law_hand_here", "_law_things"] spPk f fd :=
  ⟨d.gl, d.ok.imp fun vs H Q E ⟨p, l, a, xs, e, ⟨cells, i, r, t, h⟩, ha, nap, h0, h1, q⟩ => ⟨p, l, cells, i, r, t, h, .inl ⟨a, xs, e, SqL.of ha, nap, h0, h1, fun v i' r' t' hv ok => q _ _ hv Kept.upd ⟨cells, i', r', t', hand_upd h ok⟩⟩⟩, d.bi, d.kp⟩
end
/-! ### written things -/
def DtE (t : TE) (d : PyData) : Prop := ∀ (σ : L2.St) (H : Hp) (Q : VK), (∀ v H', Same H H' → Dt (New H) H' v d → Q v H') → t σ H Q
def DtA (t : TA) (ds : List PyData) : Prop := ∀ (σ : L2.St) (H : Hp) (Q : List V → Hp → Prop), (∀ vs H', Same H H' → DtAll (New H) H' vs ds → Q vs H') → t σ H Q
theorem deN : DtE (tC .non) .none := fun σ H Q q => q _ _ (Same.refl _) .non
theorem deB {b : Bool} : DtE (tC (.bl b)) (.bool b) := fun σ H Q q => q _ _ (Same.refl _) (.bl b)
theorem deI {i : Int} : DtE (tC (.int i)) (.int i) := fun σ H Q q => q _ _ (Same.refl _) (.int i)
def okS (x : Str) : Bool := decide (x.length ≤ 1000) && (PyData.str x).canLay0
theorem okS_dt {S : Addr → Prop} {H : Hp} {x : Str} (h : okS x = true) : Dt S H (.str x) (.str x) := by
  obtain ⟨a, b⟩ := Bool.and_eq_true_iff.mp h
  exact .str x (of_decide_eq_true a) b
theorem deS {x : Str} (h : okS x = true) : DtE (tC (.str x)) (.str x) := fun σ H Q q => q _ _ (Same.refl _) (okS_dt h)
theorem deU {i : Int} : DtE (tUn (rU fun i => .int (-i)) (tC (.int i))) (.int (-i)) := fun σ H Q q => ⟨i, rfl, q _ _ (Same.refl _) (.int _)⟩
theorem deP {i j : Int} (h : 0 ≤ j ∧ j ≤ 1000000 ∧ i.natAbs < 2 ^ 64) : DtE (tOp (rI CPow fun i j => .int (i ^ j.toNat)) (tC (.int i)) (tC (.int j))) (.int (i ^ j.toNat)) := fun σ H Q q => ⟨_, _, rfl, rfl, h, q _ _ (Same.refl _) (.int _)⟩
theorem dePA {i j k : Int} (h : 0 ≤ j ∧ j ≤ 1000000 ∧ i.natAbs < 2 ^ 64) : DtE (tOp (rI0 fun i j => .int (i + j)) (tOp (rI CPow fun i j => .int (i ^ j.toNat)) (tC (.int i)) (tC (.int j))) (tC (.int k))) (.int (i ^ j.toNat + k)) := fun σ H Q q => ⟨_, _, rfl, rfl, h, _, _, rfl, rfl, q _ _ (Same.refl _) (.int _)⟩
theorem daN : DtA tNil [] := fun σ H Q q => q [] H (Same.refl _) .nil
theorem Dt.from {H H1 H2 : Hp} {v : V} {d : PyData} (h : Dt (New H1) H2 v d) (s : Same H H1) : Dt (New H) H2 v d := h.to (fun a n => none_of s n) fun _ _ _ e => e
theorem DtAll.from {H H1 H2 : Hp} {v : List V} {d : List PyData} (h : DtAll (New H1) H2 v d) (s : Same H H1) : DtAll (New H) H2 v d := h.to (fun a n => none_of s n) fun _ _ _ e => e
theorem daK {t : TE} {d : PyData} {ta : TA} {ds : List PyData} (h : DtE t d) (r : DtA ta ds) : DtA (tCons t ta) (d :: ds) := fun σ H Q q => h σ H _ fun v H1 s1 h1 => r σ H1 _ fun vs H2 s2 h2 => q _ _ (s1.trans s2) (.cons (h1.same s2) (h2.from s1))
theorem deL {t : TA} {ds : List PyData} (h : DtA t ds) (hl : ds.length ≤ 1000) : DtE (tLst t) (.list ds) := fun σ H Q q => h σ H _ fun vs H1 s1 h1 => ⟨by rw [h1.len]; exact Nat.le_trans hl (by decide), fun p np => q _ _ (s1.trans (same_upd np)) (.lst (none_of s1 np) upd_same (h1.same (same_upd np)))⟩
theorem deT {t : TA} {ds : List PyData} (h : DtA t ds) (hl : ds.length ≤ 1000) : DtE (tTup t) (.tuple ds) := fun σ H Q q => h σ H _ fun vs H1 s1 h1 => ⟨by rw [h1.len]; exact Nat.le_trans hl (by decide), fun p np => q _ _ (s1.trans (same_upd np)) (.tup (none_of s1 np) upd_same (h1.same (same_upd np)))⟩
theorem DtAll.mem {S : Addr → Prop} {H : Hp} {vs : List V} {ds : List PyData} (h : DtAll S H vs ds) {v : V} (hv : v ∈ vs) : ∃ d ∈ ds, Dt S H v d := by
  obtain ⟨i, hi, e⟩ := List.mem_iff_getElem.mp hv
  obtain ⟨d, ed, hd⟩ := h.get (i := i) (v := v) (by rw [List.getElem?_eq_getElem hi, e])
  exact ⟨d, List.mem_of_getElem? ed, hd⟩
/-- one of a written list is picked -/
theorem pick_menu {j : Nat} {p l : Addr} {tl : TE} {ds : List PyData} {σ : L2.St} {H : Hp} {Q : VK} (e : σ[j]? = some (some (.ref p))) (hp : Hand p l H) (hl : DtE tl (.list ds)) (h0 : 0 < ds.length) (h1 : ds.length ≤ 1000)
    (q : ∀ v d H', d ∈ ds → Dt (New H) H' v d → Kept p H H' → Hand p l H' → Q v H') : tCall spPk [] E0 (tCons (tVar j) (tCons tl tNil)) σ H Q := by
  refine ⟨_, e, hl σ H _ fun v H1 s1 hd => ?_⟩
  cases hd with
  | @lst a xs _ na ea hx =>
    have el := hx.len
    refine ⟨p, l, a, xs, rfl, hp.same s1, ea, hp.nn na, by omega, by omega, fun v H2 hv k h2 => ?_⟩
    obtain ⟨d, hd, hvd⟩ := hx.mem hv
    exact q v d H2 hd (hvd.new_kept hp k) ((Kept.same s1).trans k) h2
end K26

set_option maxHeartbeats 1000000
/-! d.get(None), d with ints or with pairs of ints for keys -/
namespace K26
open PySem PySem.Spec PyProof.Rows L2
section
variable {prog : Program} {w : World} {A : Around} {E : Value → Shared → Prop} {s : Shared}
/-- a stored key that is quiet and not None -/
def NotNone (prog : Program) (w : World) (A : Around) (s : Shared) (v : Value) : Prop :=
  carriedByValue v = false ∧ (∀ (E : Value → Shared → Prop) (Q : Bool → Shared → Prop), Q true s → wpAny (model prog w) A (eqIsQuiet 8 v) Q E s) ∧ SeqAt.EqAt A s v .none false
theorem tells_none {stored : List Value} {Q : Bool → Shared → Prop} (hk : ∀ v ∈ stored, NotNone prog w A s v) (h : Q false s) : wpAny (model prog w) A (tableMayTell .none stored) Q E s := by
  unfold tableMayTell
  split
  · exact wpAny_pure h
  · refine wpAny_bind ?_
    show wpAny _ _ (pure true) _ _ _
    refine wpAny_pure ?_
    simp only [Bool.not_true, Bool.false_eq_true, if_false]
    refine wpAny_bind (wpAny_forIn_list _ (fun rest r s' => s' = s ∧ r = (none, ()) ∧ ∀ v ∈ rest, v ∈ stored) _ ?_ ?_ _ _ ⟨rfl, rfl, fun v hv => hv⟩)
    · rintro x rest r s' ⟨rfl, rfl, hr⟩
      refine wpAny_bind ((hk x (hr x List.mem_cons_self)).2.1 _ _ ?_)
      simp only [Bool.not_true, Bool.false_eq_true, if_false]
      exact wpAny_pure ⟨rfl, rfl, fun v hv => hr v (List.mem_cons_of_mem _ hv)⟩
    · rintro r s' ⟨rfl, rfl, _⟩
      exact wpAny_pure h
theorem find_none {d : Addr} {o : Obj} {es : Array DictEntry} {ep : Nat} {hs : Int} {Q : Option Nat → Shared → Prop} (ho : s.heap.get? d = some o) (hd : o.data = .dict es ep) (hk : ∀ e ∈ es, NotNone prog w A s e.key) (h : Q none s) :
    wpAny (model prog w) A (dictFind d .none hs) Q E s := by
  have hst : ∀ v ∈ (placesWithHash es.size (fun i => es[i]?.map (·.hash)) hs).filterMap (fun i => es[i]?.map (·.key)), NotNone prog w A s v := by
    intro v hv
    obtain ⟨i, _, hi⟩ := List.mem_filterMap.mp hv
    cases hei : es[i]? with
    | none => rw [hei] at hi; cases hi
    | some e =>
      rw [hei] at hi
      obtain rfl : e.key = v := by simpa using hi
      exact hk e (Array.mem_of_getElem? hei)
  have hpl : ∀ i ∈ placesWithHash es.size (fun i => es[i]?.map (·.hash)) hs, ∃ e, es[i]? = some e ∧ e.hash = hs := by
    intro i hi
    have z : ((es[i]?.map (·.hash)) == some hs) = true := by
      unfold placesWithHash at hi
      exact (List.mem_filter.mp hi).2
    cases hei : es[i]? with
    | none => rw [hei] at z; cases z
    | some e =>
      rw [hei] at z
      exact ⟨e, rfl, by simpa using z⟩
  unfold dictFind
  try with_reducible refine wpAny_holding ?_
  refine wpAny_bind (wpAny_dictEntries ho hd ?_)
  dsimp only
  generalize placesWithHash es.size (fun i => es[i]?.map (·.hash)) hs = places at hst hpl ⊢
  by_cases hall : ((Value.none :: places.filterMap (fun i => es[i]?.map (·.key))).all carriedByValue) = true
  · rw [if_pos hall]
    have emp : places = [] := by
      cases hp : places with
      | nil => rfl
      | cons i rest =>
        exfalso
        obtain ⟨e, he, _⟩ := hpl i (by rw [hp]; exact List.mem_cons_self)
        have hm : e.key ∈ places.filterMap (fun i => es[i]?.map (·.key)) := List.mem_filterMap.mpr ⟨i, by rw [hp]; exact List.mem_cons_self, by rw [he]; rfl⟩
        have c := List.all_eq_true.mp hall e.key (List.mem_cons_of_mem _ hm)
        rw [(hst _ hm).1] at c
        cases c
    rw [emp]
    unfold dictWalkPlain
    exact wpAny_bind (wpAny_pure (wpAny_bind (wpAny_pure (wpAny_pure h))))
  · rw [if_neg hall]
    by_cases hone : (places.filterMap (fun i => es[i]?.map (·.key)) == [Value.none]) = true <;>
    (first | rw [if_pos hone] | rw [if_neg hone]) <;> (first | refine wpAny_bind (wpAny_pure ?_) | refine wpAny_bind (tells_none hst ?_)) <;> (
      rw [if_neg (by simp)]
      refine wpAny_bind (wpAny_forIn_list _ (fun rest b s' => s' = s ∧ b = (none, none) ∧ ∀ i ∈ rest, i ∈ places) _ ?_ ?_ _ _ ⟨rfl, rfl, fun i hi => hi⟩)
      · rintro i rest b s' ⟨rfl, rfl, hr⟩
        obtain ⟨e, he, eh⟩ := hpl i (hr i List.mem_cons_self)
        have hn := hk e (Array.mem_of_getElem? he)
        rw [he]
        dsimp only
        rw [if_pos (by rw [eh]; simp)]
        refine wpAny_bind (wpAny_dictEpoch ho hd (wpAny_bind (hn.2.2 _ _ _ _ (wpAny_bind (wpAny_dictEpoch ho hd ?_)))))
        show wpAny _ _ (if (ep != ep) = true then _ else _) _ E _
        rw [if_neg (by simp)]
        simp only [Bool.false_eq_true, if_false, Bool.false_and]
        exact wpAny_bind (wpAny_rule (wpAny_pure ⟨rfl, rfl, fun j hj => hr j (List.mem_cons_of_mem _ hj)⟩))
      · rintro b s' ⟨rfl, rfl, _⟩
        exact wpAny_pure h)
/-- what is told of None -/
theorem meets_getNone {d : Addr} (hd : (d == sysModules) = false) :
    MeetsIn prog w (Builtin.«dict.get» ⟨[.ref d, .none], []⟩) (fun A R s => (∃ o es ep, s.heap.get? d = some o ∧ o.data = .dict es ep ∧ ∀ e ∈ es, ∀ s', s'.heap = s.heap → NotNone prog w A.in1 s' e.key) ∧ ∀ t, R (.ok (.ret .none)) { s with toks := t }) :=
  .of_wp fun A R s ⟨⟨o, es, ep, ho, hdt, hk⟩, h⟩ => by
    show wpAny _ _ (dictGet d .none >>= _) _ _ s
    unfold dictGet
    try with_reducible refine wpAny_bind (wpAny_holding ?_)
    refine wpAny_bind (PySem.W.pyHash_slot (T := "NoneType") rfl PySem.F.slot_NoneType_hash PySem.F.entry_NoneType_hash (PySem.F.args_NoneType_hash_1 _) (beq_builtin_none _) (.inl rfl) (wpAny_bind (wpAny_pure (wpAny_bind (wpAny_mkInt (wpAny_pure ⟨_, _, rfl, ?_⟩))))))
    refine wpAny_bind (find_none (s := { s with toks := s.toks + 1 }) ho hdt (fun e he => hk e he _ rfl) (wpAny_pure ?_))
    dsimp only
    show wpAny _ _ (Builtin.Dict.missed d .none >>= _) _ _ _
    exact wpAny_bind (wpAny_missed_other hd (wpAny_pure ⟨.none, rfl, h _⟩))
end
section
variable {X : Cx} {pins : List (Addr × Obj)} {σ : L2.St} {H : Hp} {s : Shared} {a : Addr} {A : Around} {E : Value → Shared → Prop}
/-- the keys of d, as pairs of whole numbers -/
def Pairs (kvs : List (List Key × V)) : Prop := ∀ kv ∈ kvs, ∃ x y : Int, kv.1 = [Sum.inl x, Sum.inl y]
theorem paired_mem {α β : Type} {R : α → β → Prop} : ∀ {l : List α} {m : List β}, Paired R l m → ∀ y ∈ m, ∃ x ∈ l, R x y
  | _, _, .nil, y, h => by cases h
  | _, _, .cons r t, y, h => by
    rcases List.mem_cons.mp h with rfl | h
    · exact ⟨_, List.mem_cons_self, r⟩
    · obtain ⟨x, hx, rx⟩ := paired_mem t y h
      exact ⟨x, List.mem_cons_of_mem _ hx, rx⟩
theorem getNone_run {Q : Value → Shared → Prop} (hu : A.units + 64 < cLine) (I : Inv X pins σ H s) (g : (∃ kvs, Rd H a (.dK kvs)) ∨ ∃ kvs, Rd H a (.dT kvs) ∧ Pairs kvs) (h : ∀ s', Inv X pins σ H s' → Q .none s') :
    wpAny (model X.prog X.w) A (call (.builtin "dict.get") [.ref a, .none]) Q E s := by
  rcases g with ⟨kvs, e⟩ | ⟨kvs, e, hp⟩
  · obtain ⟨_, hd, vs, _, dd⟩ := dk_rd I.hok e
    obtain ⟨f, hm, hf⟩ := none_map dd
    have kn : (noneKind X.prog X.w).is none .none = true := rfl
    refine call_meetsIn PySem.F.slot_dict_get dd.typeIs PySem.F.entry_dict_get (PySem.F.args_dict_get_2 _ _) (meets_dict_get (noneKind X.prog X.w) a kn hd) ⟨f, hm, ?_⟩
    rw [hf]
    exact h _ (I.tok _)
  · obtain ⟨_, hd, xs, rel, dd⟩ := dt_rd I.hok e
    have ty := dd.typeIs
    obtain ⟨o, es, ep, ho, _, hdt, he, his, _⟩ := dd
    refine call_meetsIn PySem.F.slot_dict_get ty PySem.F.entry_dict_get (PySem.F.args_dict_get_2 _ _) (meets_getNone hd) ⟨⟨o, es, ep, ho, hdt, fun en hen s' hs' => ?_⟩, fun t => h _ (I.tok _)⟩
    have hm : en ∈ xs.map (entryOfKey (tupleKind (mixKind X.prog X.w))) := he ▸ Array.mem_toList_iff.mpr hen
    obtain ⟨x, hx, rfl⟩ := List.mem_map.mp hm
    obtain ⟨kv, hkv, r1, r2, _⟩ := paired_mem rel x hx
    obtain ⟨i, j, ek⟩ := hp kv hkv
    have ht : H x.2.1 = some (.tup [.int i, .int j]) := by
      have z := r2
      first | (rw [ek] at z; exact z) | (rw [← r1, ek] at z; exact z)
    have d : Dp X.K H (.ref x.2.1) (.tuple [.int i, .int j]) := .tup (SqT.of ht) (.cons (.int i) (.cons (.int j) .nil))
    obtain ⟨as, rd⟩ := Dp.reads I _ _ (.ref x.2.1) d rfl
    obtain ⟨bs, rn⟩ := Dp.reads I .none .non .none .non rfl
    have key := his x hx
    refine ⟨rfl, fun E' Q' q => ?_, ?_⟩
    · refine (tupleKind (mixKind X.prog X.w)).quiet (k := x.1) ?_ q
      rw [hs']
      exact key
    · have z := SeqAt.eqAt_reads (.tuple [.int i, .int j]) .none A.in1 s' (.ref x.2.1) .none as bs (by rw [hs']; exact rd) (by rw [hs']; exact rn) rfl rfl (by
        show A.in1.units + min _ _ < cLine
        have e1 : A.in1.units = A.units + 1 := rfl
        have e2 : min (PyData.tuple [.int i, .int j]).depth PyData.none.depth ≤ (PyData.tuple [.int i, .int j]).depth := Nat.min_le_left _ _
        have e3 : (PyData.tuple [.int i, .int j]).depth = 1 := rfl
        omega)
      exact z
/-- d.get(x), x among the keys or None -/
def tGetN (td ty : TE) : TE := fun σ H Q => td σ H fun x H1 => ∃ a, x = .ref a ∧ IsD H1 a ∧ ty σ H1 fun y H2 =>
  (∃ o, DGet H2 a y o ∧ Q (o.getD .non) H2) ∨ (y = .non ∧ ((∃ kvs, Rd H2 a (.dK kvs)) ∨ ∃ kvs, Rd H2 a (.dT kvs) ∧ Pairs kvs) ∧ Q .non H2)
theorem pe_getN {o e : Expr} {apos cpos : Pos} {td ty : TE} (hu : X.A.units + 64 < cLine) (ho : PE X o td) (he : PE X e ty) (m : M1 X o "get" apos e cpos) : PE X (.Call (.Attribute o "get" apos) [e] [] cpos) (tGetN td ty) := by
  constructor
  intro pins s σ H Q I h
  refine wpAny_Call_method m.base m.few m.line PySem.F.plainAttrs_dict PySem.F.slot_dict_get PySem.F.type_dict_get (thn (ho.run pins s σ H _ I h) ?_)
  rintro u s1 ⟨x, H1, I1, rx, a, rfl, d, q1⟩
  cases rx
  obtain ⟨t1, t2, _⟩ := isD_at I1 d
  refine ⟨t1, t2, ?_⟩
  rw [m.trees]
  refine Calls.callWith_builtin rfl (Calls.evalArgs_plain (Calls.spliced_cons (thn (he.run pins s1 σ H1 _ I1 q1) ?_)))
  rintro iv s2 ⟨y, H2, I2, ry, ⟨ov, g, q2⟩ | ⟨rfl, g, q2⟩⟩
  · refine Calls.spliced_nil ?_
    exact d_get1 (by omega) I2 g ry fun w' s3 I3 rw' => ⟨_, H2, I3, rw', q2⟩
  · refine Calls.spliced_nil ?_
    cases ry
    exact getNone_run hu I2 g fun s3 I3 => ⟨V.non, H2, I3, rfl, q2⟩
end
end K26

/-! | and & by an own method; how many a set of pairs holds -/
namespace K26
open PySem PySem.Spec PyProof.Rows L2
def rOpI (C : Addr) (sp : Sp) (E : XK) : R2 := fun x y H Q => ∃ (a b dx dy : Addr) (fs gs : List (Str × V)), x = .ref a ∧ y = .ref b ∧ H a = some (.ins C dx fs) ∧ H b = some (.ins C dy gs) ∧ sp [.ref a, .ref b] H (fun v H' => ∃ z, v = .ref z ∧ Q (.ref z) H') E
section
variable {X : Cx} {n : Nat}
theorem op_own {op : Operator} {CX : CXT} {C f : Addr} {fd : FuncData} {ps : List Str} {sp : Sp} {E : XK} (F : FnOk X.prog X.w X.K X.mg X.base CX n f fd ps sp) (hc : PySem.W.selfFirst X.K C = true)
    (hs : PySem.W.findIn X.K (.ref C) (PySem.dunder op.info.2) = some (some (.ref f))) (hf : PySem.W.isFn X.K (.ref f) = true) (hb : Binds X.K fd ps []) (hx : Passes CX X E) (hr : Room n X.A) : OpR X (binaryOp op) (rOpI C sp E) := by
  rintro pins s σ H x y u v Q I rx ry ⟨a, b, dx, dy, fs, gs, rfl, rfl, ha, hb2, hsp⟩
  cases rx
  cases ry
  obtain ⟨mA, J, _⟩ := ins_get I.hok ha
  obtain ⟨od, J, _⟩ := J.look
  obtain ⟨mA2, J2, _⟩ := ins_get I.hok hb2
  obtain ⟨od2, J2, _⟩ := J2.look
  obtain ⟨m, hF⟩ := I.fr
  refine PySem.W.binop_K hF I.ok.mod.kin J J2.type hc hs hf ?_
  have e0 : Env0 X.prog X.w X.K X.mg X.base X.A X.stack s H := I.env0
  have hl := F.len _ _ _ _ hsp
  have bind := hb s [.ref a, .ref b] I.kIn (by simpa using hl)
  have r2 : Vals [V.ref a, V.ref b] [Value.ref a, Value.ref b] := .cons rfl (.cons rfl .nil)
  refine wpAny_call (codeAny_mono (F.run X.A X.stack s H ⟨[.ref a, .ref b], []⟩ [.ref a, .ref b] [.ref a, .ref b] _ E hr e0 (by simpa using bind) r2 hsp) fun r s' hq => ?_)
  cases r with
  | error e => exact hx pins σ H s e s' I hq
  | ok fl =>
    cases fl with
    | next => exact hq.elim
    | brk => exact hq.elim
    | cont => exact hq.elim
    | ret w =>
      obtain ⟨z, H', I', rz, c, rfl, q⟩ := I.after hq
      cases rz
      exact ⟨.ref c, H', I', rfl, q⟩
/-- len(s) of a set of tuples of whole numbers -/
def rLenT (K : PySem.W.Frag) (P : Program) (w : World) : List V → Hp → VK → Prop := fun xs H Q => ∃ (a : Addr) (L : List (Addr × List Int)), xs = [V.ref a] ∧ H a = some (SetTO P w a L) ∧ (∀ p ∈ L, SqT K H p.1 (p.2.map V.int)) ∧ ((L.map (·.2)).Nodup → L.length < 64 → Q (.int L.length) H)
theorem call_lenT : CallR X (.builtin "len") (rLenT X.K X.prog X.w) := by
  rintro pins s σ H xs us Q I r ⟨a, L, rfl, ha, hk, q⟩
  rw [Vals.ref1 r]
  have R0 : SetT0 X.prog X.w s.heap a L := (I.hok a _ ha).1
  obtain ⟨es, ep, t, R⟩ := R0.full fun p hp => I.isT (hk p hp)
  obtain ⟨o, ho, hex, hd⟩ := R.ob
  have z := R.size
  have few := R.few
  refine call_len_set ho hex hd R.fits (by rw [z]; omega) ⟨.int L.length, H, I.tok _, ⟨_, by rw [z]⟩, q R.nd few⟩
end
end K26

/-! entries as values; a pattern, as it stands; numbers in a dict -/
namespace K26
open PySem PySem.Spec PyProof.Rows L2
def optV : Option Nat → V
  | none => .non
  | some n => .int (n : Int)
abbrev vals (p : List (Option Nat)) : List V := p.map optV
theorem optV_inj {a b : Option Nat} (h : optV a = optV b) : a = b := by
  cases a with
  | none => cases b with
    | none => rfl
    | some n => cases h
  | some m => cases b with
    | none => cases h
    | some n =>
      have := V.int.inj h
      rw [show m = n by omega]
theorem vals_inj {p q : List (Option Nat)} (h : vals p = vals q) : p = q := (List.map_inj_right fun _ _ z => optV_inj z).mp h
theorem vals_get {p : List (Option Nat)} {i : Nat} : (vals p)[i]? = (p[i]?).map optV := List.getElem?_map ..
theorem vals_app (p q : List (Option Nat)) : vals (p ++ q) = vals p ++ vals q := List.map_append
theorem fl_opt (o : Option Nat) : Fl (optV o) := by
  cases o with
  | none => exact .non
  | some n => exact .int _
theorem fl_vals {p : List (Option Nat)} : ∀ v ∈ vals p, Fl v := fun v hv => by
  obtain ⟨o, _, rfl⟩ := List.mem_map.mp hv
  exact fl_opt o
def datO : Option Nat → PyData
  | none => .none
  | some n => .int (n : Int)
theorem dt_opt {S : Addr → Prop} {H : Hp} (o : Option Nat) : Dt S H (optV o) (datO o) := by
  cases o with
  | none => exact .non
  | some n => exact .int _
theorem dt_vals {S : Addr → Prop} {H : Hp} : ∀ p : List (Option Nat), DtAll S H (vals p) (p.map datO)
  | [] => .nil
  | o :: p => .cons (dt_opt o) (dt_vals p)
theorem stepE_some {c k : Nat} : stepE c (optV (some k)) = if c < k then none else if k = c then some (c + 1) else some c := by
  show (if (k : Int) < 0 then none else if (c : Int) < (k : Int) then none else if (k : Int) = (c : Int) then some (c + 1) else some c) = _
  rw [if_neg (by omega)]
  by_cases h : c < k
  · rw [if_pos (by omega), if_pos h]
  · rw [if_neg (by omega), if_neg h]
    by_cases h2 : k = c
    · rw [if_pos (by omega), if_pos h2]
    · rw [if_neg (by omega), if_neg h2]
/-- what is counted is numbered -/
theorem cnt_numA : ∀ {p : List (Option Nat)} {c c' : Nat}, cnt c (vals p) = some c' → numA (List.range c) p = p
  | [], _, _, _ => rfl
  | none :: p, c, c', h => congrArg (List.cons none) (cnt_numA (p := p) h)
  | some k :: p, c, c', h => by
    have h : (match stepE c (optV (some k)) with | some d => cnt d (vals p) | none => none) = some c' := h
    rw [stepE_some] at h
    by_cases h1 : c < k
    · rw [if_pos h1] at h; cases h
    rw [if_neg h1] at h
    unfold numA
    by_cases h2 : k = c
    · rw [if_pos h2] at h
      subst h2
      have z := cnt_numA h
      rw [List.range_succ] at z
      rw [if_neg (by rw [List.mem_range]; omega), List.length_range, z]
    · rw [if_neg h2] at h
      have hk : k ∈ List.range c := List.mem_range.mpr (by omega)
      have e : (List.range c).idxOf k = k := by
        have z := idx_of hk
        obtain ⟨hl, e⟩ := List.getElem?_eq_some_iff.mp z
        rw [List.getElem_range] at e
        exact e
      rw [if_pos hk, e, cnt_numA h]
theorem pt_of_cnt {p : List (Option Nat)} {c : Nat} (h : cnt 0 (vals p) = some c) : Pt p := cnt_numA (c := 0) h
/-- numbers are counted: how many there are -/
theorem cnt_of_numA {α : Type} [DecidableEq α] : ∀ (l : List (Option α)) (met : List α), met.Nodup → ∃ c', cnt met.length (vals (numA met l)) = some c' ∧ met.length ≤ c' ∧ ∀ k, (k < met.length ∨ ∃ i : Nat, (numA met l)[i]? = some (some k)) ↔ k < c'
  | [], met, _ => ⟨met.length, rfl, Nat.le_refl _, fun k => ⟨fun h => h.elim id fun ⟨i, e⟩ => (by cases e), .inl⟩⟩
  | none :: r, met, nd => by
    obtain ⟨c', h1, h2, h3⟩ := cnt_of_numA r met nd
    refine ⟨c', h1, h2, fun k => (h3 k).symm.trans (or_congr Iff.rfl ?_) |>.symm⟩
    exact ⟨fun ⟨i, e⟩ => ⟨i + 1, e⟩, fun ⟨i, e⟩ => by
      cases i with
      | zero => cases e
      | succ i => exact ⟨i, e⟩⟩
  | some x :: r, met, nd => by
    unfold numA
    by_cases hx : x ∈ met
    · rw [if_pos hx]
      obtain ⟨c', h1, h2, h3⟩ := cnt_of_numA r met nd
      have il := List.idxOf_lt_length_of_mem hx
      refine ⟨c', ?_, h2, fun k => ?_⟩
      · show (match stepE met.length (optV (some (met.idxOf x))) with | some d => cnt d (vals (numA met r)) | none => none) = some c'
        rw [stepE_some, if_neg (by omega), if_neg (by omega)]
        exact h1
      · rw [← h3 k]
        constructor
        · rintro (h | ⟨i, e⟩)
          · exact .inl h
          · cases i with
            | zero => cases e; exact .inl il
            | succ i => exact .inr ⟨i, e⟩
        · rintro (h | ⟨i, e⟩)
          · exact .inl h
          · exact .inr ⟨i + 1, e⟩
    · rw [if_neg hx]
      have nd2 : (met ++ [x]).Nodup := by
        rw [List.nodup_append]
        refine ⟨nd, by simp, fun a ha b hb => ?_⟩
        rw [List.mem_singleton.mp hb]
        exact fun z => hx (z ▸ ha)
      obtain ⟨c', h1, h2, h3⟩ := cnt_of_numA r (met ++ [x]) nd2
      have el : (met ++ [x]).length = met.length + 1 := by simp
      rw [el] at h1 h2 h3
      refine ⟨c', ?_, by omega, fun k => ?_⟩
      · show (match stepE met.length (optV (some met.length)) with | some d => cnt d (vals (numA (met ++ [x]) r)) | none => none) = some c'
        rw [stepE_some, if_neg (Nat.lt_irrefl _), if_pos rfl]
        exact h1
      · rw [← h3 k]
        constructor
        · rintro (h | ⟨i, e⟩)
          · exact .inl (by omega)
          · cases i with
            | zero => cases e; exact .inl (by omega)
            | succ i => exact .inr ⟨i, e⟩
        · rintro (h | ⟨i, e⟩)
          · rcases Nat.lt_succ_iff_lt_or_eq.mp h with h | rfl
            · exact .inl h
            · exact .inr ⟨0, rfl⟩
          · exact .inr ⟨i + 1, e⟩
theorem cnt_num {α : Type} [DecidableEq α] (l : List (Option α)) : ∃ c, cnt 0 (vals (num l)) = some c := by
  obtain ⟨c, h, _⟩ := cnt_of_numA l [] List.nodup_nil
  exact ⟨c, h⟩
theorem Pt.cnt {p : List (Option Nat)} (h : Pt p) : ∃ c, K26.cnt 0 (vals p) = some c := by
  obtain ⟨c, e⟩ := cnt_num p
  rw [h] at e
  exact ⟨c, e⟩
theorem Pt.classes {p : List (Option Nat)} {c : Nat} (h : Pt p) (e : K26.cnt 0 (vals p) = some c) : ∀ k, (∃ i : Nat, p[i]? = some (some k)) ↔ k < c := by
  obtain ⟨c', h1, _, h3⟩ := cnt_of_numA p [] List.nodup_nil
  have e2 : numA [] p = p := h
  rw [e2] at h1 h3
  have h1 : K26.cnt 0 (vals p) = some c' := h1
  rw [e] at h1
  cases h1
  intro k
  rw [← h3 k]
  exact ⟨.inr, fun z => z.elim (fun y => absurd y (Nat.not_lt_zero _)) id⟩
/-- a pattern of these entries stands at x -/
def PatAt (CP : Addr) (H : Hp) (x : Addr) (p : List (Option Nat)) : Prop := ∃ (dx t : Addr) (c : Nat), H x = some (.ins CP dx (patO t c)) ∧ H t = some (.tup (vals p)) ∧ p.length ≤ 40 ∧ cnt 0 (vals p) = some c
theorem PatAt.same {CP : Addr} {H H' : Hp} {x : Addr} {p : List (Option Nat)} (h : PatAt CP H x p) (s : ∀ b o, H b = some o → (∀ ps, o ≠ .tbl ps) → H' b = some o) : PatAt CP H' x p := by
  obtain ⟨dx, t, c, h1, h2, h3⟩ := h
  exact ⟨dx, t, c, s _ _ h1 (fun ps z => by cases z), s _ _ h2 (fun ps z => by cases z), h3⟩
theorem PatAt.sm {CP : Addr} {H H' : Hp} {x : Addr} {p : List (Option Nat)} (h : PatAt CP H x p) (s : Same H H') : PatAt CP H' x p := h.same fun b o e _ => s b o e
theorem PatAt.pt {CP : Addr} {H : Hp} {x : Addr} {p : List (Option Nat)} (h : PatAt CP H x p) : Pt p := by
  obtain ⟨_, _, _, _, _, _, e⟩ := h
  exact pt_of_cnt e
theorem PatAt.len {CP : Addr} {H : Hp} {x : Addr} {p : List (Option Nat)} (h : PatAt CP H x p) : p.length ≤ 40 := by
  obtain ⟨_, _, _, _, _, e, _⟩ := h
  exact e
/-! ### met things and their numbers, in a dict -/
section
variable {α κ : Type} [DecidableEq α] [DecidableEq κ]
def encM (f : α → κ) : Nat → List α → List (κ × V)
  | _, [] => []
  | n, x :: r => (f x, .int (n : Int)) :: encM f (n + 1) r
theorem encM_len (f : α → κ) : ∀ (n : Nat) (l : List α), (encM f n l).length = l.length
  | _, [] => rfl
  | n, x :: r => congrArg Nat.succ (encM_len f (n + 1) r)
theorem encM_app (f : α → κ) (x : α) : ∀ (n : Nat) (l : List α), encM f n (l ++ [x]) = encM f n l ++ [(f x, V.int ((n + l.length : Nat) : Int))]
  | n, [] => rfl
  | n, y :: r => by
    show (f y, V.int (n : Int)) :: encM f (n + 1) (r ++ [x]) = _
    rw [encM_app f x (n + 1) r]
    show _ = (f y, V.int (n : Int)) :: (encM f (n + 1) r ++ [(f x, V.int ((n + (r.length + 1) : Nat) : Int))])
    rw [show n + 1 + r.length = n + (r.length + 1) by omega]
theorem valV_encM {f : α → κ} (inj : ∀ a b, f a = f b → a = b) (x : α) : ∀ (n : Nat) (l : List α), valV (encM f n l) (f x) = if x ∈ l then some (V.int ((n + l.idxOf x : Nat) : Int)) else none
  | n, [] => rfl
  | n, y :: r => by
    show valV ((f y, V.int (n : Int)) :: encM f (n + 1) r) (f x) = _
    by_cases h : y = x
    · subst h
      rw [valV_pos rfl, if_pos List.mem_cons_self, List.idxOf_cons_self]
      rfl
    · rw [valV_neg (fun z => h (inj _ _ z)), valV_encM inj x (n + 1) r]
      by_cases h2 : x ∈ r
      · have e : (y :: r).idxOf x = r.idxOf x + 1 := by
          rw [List.idxOf_cons, beq_false_of_ne h]
          rfl
        rw [if_pos h2, if_pos (List.mem_cons_of_mem _ h2), e]
        rw [show n + 1 + r.idxOf x = n + (r.idxOf x + 1) by omega]
      · rw [if_neg h2, if_neg (by rw [List.mem_cons]; exact fun z => z.elim (fun e => h e.symm) h2)]
theorem putK_encM {f : α → κ} (inj : ∀ a b, f a = f b → a = b) {x : α} {l : List α} (h : ¬ x ∈ l) : putK (encM f 0 l) (f x) (V.int (l.length : Int)) = encM f 0 (l ++ [x]) := by
  rw [putK_new _ (by rw [valV_encM inj, if_neg h]), encM_app, Nat.zero_add]
end
/-- one more is numbered -/
def metN {α : Type} [DecidableEq α] (met : List α) : Option α → List α
  | none => met
  | some x => if x ∈ met then met else met ++ [x]
def oneN {α : Type} [DecidableEq α] (met : List α) : Option α → Option Nat
  | none => none
  | some x => if x ∈ met then some (met.idxOf x) else some met.length
theorem numA_cons {α : Type} [DecidableEq α] (met : List α) (o : Option α) (r : List (Option α)) : numA met (o :: r) = oneN met o :: numA (metN met o) r := by
  cases o with
  | none => rfl
  | some x =>
    by_cases h : x ∈ met
    · have e1 : oneN met (some x) = some (met.idxOf x) := if_pos h
      have e2 : metN met (some x) = met := if_pos h
      rw [e1, e2]
      show (if x ∈ met then some (met.idxOf x) :: numA met r else some met.length :: numA (met ++ [x]) r) = _
      rw [if_pos h]
    · have e1 : oneN met (some x) = some met.length := if_neg h
      have e2 : metN met (some x) = met ++ [x] := if_neg h
      rw [e1, e2]
      show (if x ∈ met then some (met.idxOf x) :: numA met r else some met.length :: numA (met ++ [x]) r) = _
      rw [if_neg h]
theorem metN_len {α : Type} [DecidableEq α] (met : List α) (o : Option α) : (metN met o).length ≤ met.length + 1 := by
  cases o with
  | none => exact Nat.le_succ _
  | some x =>
    show (if x ∈ met then met else met ++ [x]).length ≤ _
    split
    · exact Nat.le_succ _
    · rw [List.length_append]
      exact Nat.le_refl _
theorem get_met {α κ : Type} [DecidableEq α] [DecidableEq κ] {f : α → κ} (inj : ∀ a b, f a = f b → a = b) (met : List α) (x : α) : valV (encM f 0 (metN met (some x))) (f x) = some (optV (oneN met (some x))) := by
  rw [valV_encM inj]
  by_cases h : x ∈ met
  · have e1 : oneN met (some x) = some (met.idxOf x) := if_pos h
    have e2 : metN met (some x) = met := if_pos h
    rw [e1, e2, if_pos h, Nat.zero_add]
    rfl
  · have e1 : oneN met (some x) = some met.length := if_neg h
    have e2 : metN met (some x) = met ++ [x] := if_neg h
    rw [e1, e2, if_pos (List.mem_append.mpr (.inr List.mem_cons_self)), List.idxOf_append, if_neg h, List.idxOf_cons_self]
    show some (V.int ((0 + (0 + met.length) : Nat) : Int)) = some (V.int (met.length : Int))
    rw [Nat.zero_add, Nat.zero_add]
theorem drop_cons' {α : Type} {xs : List α} {i : Nat} {v : α} (h : xs[i]? = some v) : xs.drop i = v :: xs.drop (i + 1) := by
  obtain ⟨hi, e⟩ := List.getElem?_eq_some_iff.mp h
  rw [List.drop_eq_getElem_cons hi, e]
theorem take_snoc' {α : Type} {xs : List α} {i : Nat} {v : α} (h : xs[i]? = some v) : xs.take (i + 1) = xs.take i ++ [v] := by
  rw [List.take_add_one, h]
  rfl
/-- one turn -/
theorem num_turn {α : Type} [DecidableEq α] {l : List (Option α)} {met : List α} {i : Nat} {o : Option α} (e : numA met (l.drop i) = (num l).drop i) (h : l[i]? = some o) : (num l)[i]? = some (oneN met o) ∧ numA (metN met o) (l.drop (i + 1)) = (num l).drop (i + 1) := by
  rw [drop_cons' h, numA_cons] at e
  have e1 := congrArg (fun z => z[0]?) e
  have e2 := congrArg (fun z => z.drop 1) e
  refine ⟨?_, ?_⟩
  · have z : ((num l).drop i)[0]? = (num l)[i]? := by simp
    rw [← z]
    exact e1.symm
  · have z : ((num l).drop i).drop 1 = (num l).drop (i + 1) := by rw [List.drop_drop]
    rw [← z]
    exact e2
end K26

/-! whole numbers, numbered -/
namespace K26
open PySem PySem.Spec PyProof.Rows L2
def keyI (n : Nat) : Key := Sum.inl (n : Int)
theorem keyI_inj (a b : Nat) (h : keyI a = keyI b) : a = b := by
  have := Sum.inl.inj h
  omega
/-- a list of them; nobody's stay -/
def spNbI : Sp := fun vs H Q _ => ∃ (a : Addr) (l : List (Option Nat)), vs = [.ref a] ∧ H a = some (.lst (vals l)) ∧ l.length ≤ 64 ∧ ∀ (H' : Hp) (z : Addr), Same H H' → H z = none → H' z = some (.lst (vals (num l))) → Q (.ref z) H'
section
variable {P : Program} {w : World} {K : PySem.W.Frag} {mg : Str → Option Value} {base : Heap}
theorem ok_nbI {f : Addr} {fd : FuncData} (F : FnP K "numbered" sPNumbered f fd) (z_len : mg "len" = none) : FnOk P w K mg base CX0 1 f fd ["values"] spNbI := by
  have sc : FnScope ["values", "numbers", "found", "value"] ["values"] (defScope sPNumbered) := ⟨rfl, rfl, rfl, by decide +kernel, rfl, by decide +kernel, by decide +kernel⟩
  refine F.ok sc (fun vs H Q E h => ?_) (fun cdv A outer s H vs Q E hr h => ?_)
  · obtain ⟨a, l, rfl, _⟩ := h
    rfl
  · obtain ⟨a, l, rfl, ha, hl, q⟩ := h
    have hu := hu_of hr
    refine ⟨_, PSs.nox (pss_cons (ps_set (i := 1) sc.nd rfl (.inl rfl) pe_dnewK)
    (pss_cons (ps_set (i := 2) sc.nd rfl (.inl rfl) (pe_lst pa_nil))
    (pss_cons (ps_for PassesOwn.never rfl (pi_list (pv 0)) (pg_name (i := 3) sc.nd rfl (.inl rfl))
      (pss_cons (ps_if (PW.pt (pw_and (pt_cmpR op_notN (pv 3) pe_non (nomark _)) (pw_and1 (pt_cmp (pc_dnotin hu (pv 3) (pv 1))))))
        (pss_one (ps_dput hu (pv 1) (pv 3) (pe_callB call_lenD (by rfl) z_len boot_len (pa_cons (pv 1) pa_nil)) rfl))
        pss_nil)
      (pss_one (ps_expr (pe_bm PySem.F.plainAttrs_list PySem.F.slot_list_append PySem.F.type_list_append mt_append (pv 2) (pa_cons (pe_getN hr.units (pv 1) (pv 3) ⟨by rfl, by rfl, by rfl, by rfl⟩) pa_nil))))))
    (pss_one (ps_ret (pv 2)))))), ?_⟩
    intro d nd
    have sd := same_upd (o := .dK []) nd
    refine ⟨(by show 0 ≤ sizeLine; decide), fun g ng => ?_⟩
    have sg := same_upd (o := .lst []) ng
    have dg : d ≠ g := ne_of_none upd_same ng
    have ad : a ≠ d := ne_of_none ha nd
    have ag : a ≠ g := ne_of_none (sd _ _ ha) ng
    have ng0 : H g = none := by rw [upd_ne (Ne.symm dg)] at ng; exact ng
    refine ⟨_, rfl, a, rfl, ⟨_, SqL.of (sg _ _ (sd _ _ ha))⟩, for_it walk_list (fun i σ H' => ∃ (met : List Nat) (x3 : Option V), σ = [some (.ref a), some (.ref d), some (.ref g), x3] ∧ numA met (l.drop i) = (num l).drop i ∧ met.length ≤ i ∧ H' d = some (.dK (encM keyI 0 met)) ∧ H' g = some (.lst (vals ((num l).take i))) ∧ Same H H')
      ⟨[], none, rfl, rfl, Nat.le_refl _, sg _ _ upd_same, upd_same, sd.trans sg⟩ (fun i σ H' _ ⟨_, _, _, _, _, _, _, s'⟩ => SqL.of (s' _ _ ha)) ?_ ?_⟩
    · rintro i y σ H1 H2 hi ⟨met, x3, rfl, en, ml, hd, hg, s1⟩ ⟨rfl, ev⟩
      rw [vals_get] at ev
      obtain ⟨o, eo, rfl⟩ := Option.map_eq_some_iff.mp ev
      obtain ⟨t1, t2⟩ := num_turn en eo
      have il : i < l.length := (List.getElem?_eq_some_iff.mp eo).1
      have fin : ∀ H3 : Hp, H3 d = some (.dK (encM keyI 0 (metN met o))) → H3 g = some (.lst (vals ((num l).take i))) → Same H H3 →
          ∃ (met' : List Nat) (x3 : Option V), [some (V.ref a), some (.ref d), some (.ref g), some (optV o)] = [some (.ref a), some (.ref d), some (.ref g), x3] ∧ numA met' (l.drop (i + 1)) = (num l).drop (i + 1) ∧ met'.length ≤ i + 1 ∧ (upd H3 g (.lst (vals ((num l).take i) ++ [optV (oneN met o)]))) d = some (.dK (encM keyI 0 met')) ∧ (upd H3 g (.lst (vals ((num l).take i) ++ [optV (oneN met o)]))) g = some (.lst (vals ((num l).take (i + 1)))) ∧ Same H (upd H3 g (.lst (vals ((num l).take i) ++ [optV (oneN met o)]))) := fun H3 h1 h2 h3 =>
        ⟨metN met o, _, rfl, t2, Nat.le_trans (metN_len met o) (Nat.succ_le_succ ml), by rw [upd_ne dg]; exact h1, by rw [upd_same, take_snoc' t1, vals_app]; rfl, fun b u e => by rw [upd_ne (ne_of_none e ng0)]; exact h3 _ _ e⟩
      have few : (vals ((num l).take i)).length < sizeLine := by
        rw [List.length_map]
        refine Nat.lt_of_le_of_lt (Nat.le_trans (List.length_take_le _ _) (Nat.le_trans (Nat.le_of_lt il) hl)) (by decide)
      cases o with
      | none =>
        refine ⟨_, rfl, rfl, _, rfl, iteF (iteF ?_)⟩
        refine ⟨_, rfl, .inl ⟨rfl, _, SqL.of hg⟩, _, rfl, d, rfl, .inl ⟨_, .inl hd⟩, _, rfl, .inr ⟨rfl, .inl ⟨_, .inl hd⟩, g, _, .non, rfl, rfl, hg, few, ?_⟩⟩
        exact fin H2 hd hg s1
      | some x =>
        refine ⟨_, rfl, rfl, _, rfl, iteT ?_⟩
        refine ⟨_, rfl, _, rfl, d, _, rfl, DGet.k (k := keyI x) hd, _, rfl, ?_⟩
        rw [valV_encM keyI_inj]
        by_cases hx : x ∈ met
        · rw [if_pos hx]
          refine iteF ?_
          have em : metN met (some x) = met := if_pos hx
          refine ⟨_, rfl, .inl ⟨rfl, _, SqL.of hg⟩, _, rfl, d, rfl, .inl ⟨_, .inl hd⟩, _, rfl, .inl ⟨_, DGet.k (k := keyI x) hd, g, _, _, rfl, rfl, hg, few, ?_⟩⟩
          have gm := get_met keyI_inj met x
          rw [em] at gm
          rw [gm]
          exact fin H2 (by rw [em]; exact hd) hg s1
        · rw [if_neg hx]
          refine iteT ?_
          have em : metN met (some x) = met ++ [x] := if_neg hx
          refine ⟨_, rfl, d, _, rfl, hd, _, rfl, _, rfl, d, _, rfl, DPut.k (k := keyI x) hd (by rw [encM_len]; exact Nat.lt_of_le_of_lt (Nat.le_trans ml (Nat.le_trans (Nat.le_of_lt il) hl)) (by decide)), ?_⟩
          rw [encM_len, putK_encM keyI_inj hx, ← em]
          have hg3 : upd H2 d (.dK (encM keyI 0 (metN met (some x)))) g = some (.lst (vals ((num l).take i))) := (upd_ne (Ne.symm dg)).trans hg
          have s3 : Same H (upd H2 d (.dK (encM keyI 0 (metN met (some x))))) := fun b u e => by rw [upd_ne (ne_of_none e nd)]; exact s1 _ _ e
          refine ⟨_, rfl, .inl ⟨rfl, _, SqL.of hg3⟩, _, rfl, d, rfl, .inl ⟨_, .inl upd_same⟩, _, rfl, .inl ⟨_, DGet.k (k := keyI x) upd_same, g, _, _, rfl, rfl, hg3, few, ?_⟩⟩
          rw [get_met keyI_inj]
          exact fin _ upd_same hg3 s3
    · rintro σ H1 ⟨met, x3, rfl, _, _, _, hg, s1⟩
      refine ⟨_, rfl, q H1 g s1 ng0 ?_⟩
      rw [hg, List.length_map, List.take_of_length_le (by rw [num_len]; exact Nat.le_refl _)]
end
end K26

/-! pairs of whole numbers, numbered -/
namespace K26
open PySem PySem.Spec PyProof.Rows L2
def keyT (p : Nat × Nat) : List Key := [Sum.inl (p.1 : Int), Sum.inl (p.2 : Int)]
theorem keyT_inj (a b : Nat × Nat) (h : keyT a = keyT b) : a = b := by
  obtain ⟨a1, a2⟩ := a
  obtain ⟨b1, b2⟩ := b
  unfold keyT at h
  injection h with h1 h2
  injection h2 with h2 _
  have e1 := Sum.inl.inj h1
  have e2 := Sum.inl.inj h2
  have e1 : (a1 : Int) = (b1 : Int) := e1
  have e2 : (a2 : Int) = (b2 : Int) := e2
  rw [show a1 = b1 by omega, show a2 = b2 by omega]
/-- a pair or nobody -/
def PrV (H : Hp) (v : V) : Option (Nat × Nat) → Prop
  | none => v = .non
  | some p => ∃ t, v = .ref t ∧ H t = some (.tup [.int (p.1 : Int), .int (p.2 : Int)])
theorem PrV.same {H H' : Hp} {v : V} {o : Option (Nat × Nat)} (h : PrV H v o) (s : Same H H') : PrV H' v o := by
  cases o with
  | none => exact h
  | some p =>
    obtain ⟨t, e, ht⟩ := h
    exact ⟨t, e, s _ _ ht⟩
def PrAll (H : Hp) (vs : List V) (l : List (Option (Nat × Nat))) : Prop := vs.length = l.length ∧ ∀ (i : Nat) (v : V) (o : Option (Nat × Nat)), vs[i]? = some v → l[i]? = some o → PrV H v o
theorem pairs_enc : ∀ (n : Nat) (l : List (Nat × Nat)), Pairs (encM keyT n l)
  | _, [] => fun kv h => by cases h
  | n, x :: r => fun kv h => by
    rcases List.mem_cons.mp h with rfl | h
    · exact ⟨_, _, rfl⟩
    · exact pairs_enc (n + 1) r kv h
def spNbT : Sp := fun vs H Q _ => ∃ (a : Addr) (us : List V) (l : List (Option (Nat × Nat))), vs = [.ref a] ∧ H a = some (.lst us) ∧ PrAll H us l ∧ l.length ≤ 64 ∧ ∀ (H' : Hp) (z : Addr), Same H H' → H z = none → H' z = some (.lst (vals (num l))) → Q (.ref z) H'
section
variable {P : Program} {w : World} {K : PySem.W.Frag} {mg : Str → Option Value} {base : Heap}
theorem ok_nbT {f : Addr} {fd : FuncData} (F : FnP K "numbered" sPNumbered f fd) (z_len : mg "len" = none) : FnOk P w K mg base CX0 1 f fd ["values"] spNbT := by
  have sc : FnScope ["values", "numbers", "found", "value"] ["values"] (defScope sPNumbered) := ⟨rfl, rfl, rfl, by decide +kernel, rfl, by decide +kernel, by decide +kernel⟩
  refine F.ok sc (fun vs H Q E h => ?_) (fun cdv A outer s H vs Q E hr h => ?_)
  · obtain ⟨a, us, l, rfl, _⟩ := h
    rfl
  · obtain ⟨a, us, l, rfl, ha, hp, hl, q⟩ := h
    have hu := hu_of hr
    refine ⟨_, PSs.nox (pss_cons (ps_set (i := 1) sc.nd rfl (.inl rfl) pe_dnewT)
    (pss_cons (ps_set (i := 2) sc.nd rfl (.inl rfl) (pe_lst pa_nil))
    (pss_cons (ps_for PassesOwn.never rfl (pi_list (pv 0)) (pg_name (i := 3) sc.nd rfl (.inl rfl))
      (pss_cons (ps_if (PW.pt (pw_and (pt_cmpR op_notN (pv 3) pe_non (nomark _)) (pw_and1 (pt_cmp (pc_dnotin hu (pv 3) (pv 1))))))
        (pss_one (ps_dput hu (pv 1) (pv 3) (pe_callB call_len_dT (by rfl) z_len boot_len (pa_cons (pv 1) pa_nil)) rfl))
        pss_nil)
      (pss_one (ps_expr (pe_bm PySem.F.plainAttrs_list PySem.F.slot_list_append PySem.F.type_list_append mt_append (pv 2) (pa_cons (pe_getN hr.units (pv 1) (pv 3) ⟨by rfl, by rfl, by rfl, by rfl⟩) pa_nil))))))
    (pss_one (ps_ret (pv 2)))))), ?_⟩
    intro d nd
    have sd := same_upd (o := .dT []) nd
    refine ⟨(by show 0 ≤ sizeLine; decide), fun g ng => ?_⟩
    have sg := same_upd (o := .lst []) ng
    have dg : d ≠ g := ne_of_none upd_same ng
    have ad : a ≠ d := ne_of_none ha nd
    have ag : a ≠ g := ne_of_none (sd _ _ ha) ng
    have ng0 : H g = none := by rw [upd_ne (Ne.symm dg)] at ng; exact ng
    refine ⟨_, rfl, a, rfl, ⟨_, SqL.of (sg _ _ (sd _ _ ha))⟩, for_it walk_list (fun i σ H' => ∃ (met : List (Nat × Nat)) (x3 : Option V), σ = [some (.ref a), some (.ref d), some (.ref g), x3] ∧ numA met (l.drop i) = (num l).drop i ∧ met.length ≤ i ∧ H' d = some (.dT (encM keyT 0 met)) ∧ H' g = some (.lst (vals ((num l).take i))) ∧ Same H H')
      ⟨[], none, rfl, rfl, Nat.le_refl _, sg _ _ upd_same, upd_same, sd.trans sg⟩ (fun i σ H' _ ⟨_, _, _, _, _, _, _, s'⟩ => SqL.of (s' _ _ ha)) ?_ ?_⟩
    · rintro i y σ H1 H2 hi ⟨met, x3, rfl, en, ml, hd, hg, s1⟩ ⟨rfl, ev⟩
      have il : i < l.length := by rw [← hp.1]; exact (List.getElem?_eq_some_iff.mp ev).1
      obtain ⟨o, eo⟩ : ∃ o, l[i]? = some o := ⟨_, List.getElem?_eq_getElem il⟩
      have pv_ := hp.2 i y o ev eo
      obtain ⟨t1, t2⟩ := num_turn en eo
      have fin : ∀ H3 : Hp, H3 d = some (.dT (encM keyT 0 (metN met o))) → H3 g = some (.lst (vals ((num l).take i))) → Same H H3 →
          ∃ (met' : List (Nat × Nat)) (x3 : Option V), [some (V.ref a), some (.ref d), some (.ref g), some y] = [some (.ref a), some (.ref d), some (.ref g), x3] ∧ numA met' (l.drop (i + 1)) = (num l).drop (i + 1) ∧ met'.length ≤ i + 1 ∧ (upd H3 g (.lst (vals ((num l).take i) ++ [optV (oneN met o)]))) d = some (.dT (encM keyT 0 met')) ∧ (upd H3 g (.lst (vals ((num l).take i) ++ [optV (oneN met o)]))) g = some (.lst (vals ((num l).take (i + 1)))) ∧ Same H (upd H3 g (.lst (vals ((num l).take i) ++ [optV (oneN met o)]))) := fun H3 h1 h2 h3 =>
        ⟨metN met o, _, rfl, t2, Nat.le_trans (metN_len met o) (Nat.succ_le_succ ml), by rw [upd_ne dg]; exact h1, by rw [upd_same, take_snoc' t1, vals_app]; rfl, fun b u e => by rw [upd_ne (ne_of_none e ng0)]; exact h3 _ _ e⟩
      have few : (vals ((num l).take i)).length < sizeLine := by
        rw [List.length_map]
        refine Nat.lt_of_le_of_lt (Nat.le_trans (List.length_take_le _ _) (Nat.le_trans (Nat.le_of_lt il) hl)) (by decide)
      cases o with
      | none =>
        obtain rfl : y = .non := pv_
        refine ⟨_, rfl, rfl, _, rfl, iteF (iteF ?_)⟩
        refine ⟨_, rfl, .inl ⟨rfl, _, SqL.of hg⟩, _, rfl, d, rfl, .inr ⟨_, .inl hd⟩, _, rfl, .inr ⟨rfl, .inr ⟨_, .inl hd, pairs_enc 0 met⟩, g, _, .non, rfl, rfl, hg, few, ?_⟩⟩
        exact fin H2 hd hg s1
      | some x =>
        obtain ⟨t, rfl, ht⟩ := pv_
        refine ⟨_, rfl, rfl, _, rfl, iteT ?_⟩
        refine ⟨_, rfl, _, rfl, d, _, rfl, DGet.t (k := keyT x) hd (s1 _ _ ht), _, rfl, ?_⟩
        rw [valV_encM keyT_inj]
        by_cases hx : x ∈ met
        · rw [if_pos hx]
          refine iteF ?_
          have em : metN met (some x) = met := if_pos hx
          refine ⟨_, rfl, .inl ⟨rfl, _, SqL.of hg⟩, _, rfl, d, rfl, .inr ⟨_, .inl hd⟩, _, rfl, .inl ⟨_, DGet.t (k := keyT x) hd (s1 _ _ ht), g, _, _, rfl, rfl, hg, few, ?_⟩⟩
          have gm := get_met keyT_inj met x
          rw [em] at gm
          rw [gm]
          exact fin H2 (by rw [em]; exact hd) hg s1
        · rw [if_neg hx]
          refine iteT ?_
          have em : metN met (some x) = met ++ [x] := if_neg hx
          refine ⟨_, rfl, d, _, rfl, hd, _, rfl, _, rfl, d, _, rfl, DPut.t (k := keyT x) hd (s1 _ _ ht) (by rw [encM_len]; exact Nat.lt_of_le_of_lt (Nat.le_trans ml (Nat.le_trans (Nat.le_of_lt il) hl)) (by decide)), ?_⟩
          rw [encM_len, putK_encM keyT_inj hx, ← em]
          have hg3 : upd H2 d (.dT (encM keyT 0 (metN met (some x)))) g = some (.lst (vals ((num l).take i))) := (upd_ne (Ne.symm dg)).trans hg
          have s3 : Same H (upd H2 d (.dT (encM keyT 0 (metN met (some x))))) := fun b u e => by rw [upd_ne (ne_of_none e nd)]; exact s1 _ _ e
          have ht3 := s3 _ _ ht
          refine ⟨_, rfl, .inl ⟨rfl, _, SqL.of hg3⟩, _, rfl, d, rfl, .inr ⟨_, .inl upd_same⟩, _, rfl, .inl ⟨_, DGet.t (k := keyT x) upd_same ht3, g, _, _, rfl, rfl, hg3, few, ?_⟩⟩
          rw [get_met keyT_inj]
          exact fin _ upd_same hg3 s3
    · rintro σ H1 ⟨met, x3, rfl, _, _, _, hg, s1⟩
      refine ⟨_, rfl, q H1 g s1 ng0 ?_⟩
      rw [hg, hp.1, List.take_of_length_le (by rw [num_len]; exact Nat.le_refl _)]
end
end K26

/-! comprehensions, in general -/
namespace K26
open PySem PySem.Spec PyProof.Rows L2
/-- what was built so far; only the new list's place may change -/
structure LcR (D : Addr) (R : Nat → List V → Hp → Prop) : Prop where
  keep : ∀ i acc H H' ys, R i acc H → H D = some (.lst ys) → (∀ b o, b ≠ D → H b = some o → H' b = some o) → R i acc H'
  few : ∀ i acc H, R i acc H → acc.length ≤ i
theorem lc_N {J : It} {xs : List V} {G : Hp → Prop} (w : Walk J xs.length G (YAt xs)) {j : Nat} {tt : TT} {te : TE} {vs : List Nat} {σ : L2.St} {H1 : Hp} {D : Addr} {Qd : Hp → Prop} (R : Nat → List V → Hp → Prop) (hR : LcR D R) (nD : H1 D = none) (hl : xs.length < sizeLine)
    (h0 : R 0 [] (upd H1 D (.lst []))) (hG : ∀ H', Same H1 H' → G H') (hw : ∀ x, wipe ((wipe σ vs).set j (some x)) vs = wipe σ vs)
    (hs : ∀ i x acc H', xs[i]? = some x → Same H1 H' → H' D = some (.lst acc) → R i acc H' → tt ((wipe σ vs).set j (some x)) H' fun b H3 => Same H' H3 ∧ if b = true then te ((wipe σ vs).set j (some x)) H3 fun y H4 => Same H3 H4 ∧ R (i + 1) (acc ++ [y]) H4 else R (i + 1) acc H3)
    (mt : ∀ σ H (Q Q' : Bool → Hp → Prop), (∀ b H', Q b H' → Q' b H') → tt σ H Q → tt σ H Q') (me : ∀ σ H (Q Q' : VK), (∀ v H', Q v H' → Q' v H') → te σ H Q → te σ H Q')
    (hd : ∀ H' acc, Same H1 H' → H' D = some (.lst acc) → R xs.length acc H' → Qd H') :
    ∃ W : Nat → Nat → Hp → Prop, (∃ m, W 0 m (upd H1 D (.lst []))) ∧ ∀ i m H, W i m H →
      (J.stop i H ∧ Qd H) ∨ (J.go i H ∧ ∃ Nx : Hp → Prop, (∀ H', Nx H' → ∃ m', m' < m ∧ W (i + 1) m' H') ∧ ∀ x H', J.yld i H x H' → gName j x (wipe σ vs) H' fun σ2 H2 => wipe σ2 vs = wipe σ vs ∧ tt σ2 H2 fun b H3 =>
        if b = true then te σ2 H3 fun y H4 => ∃ acc, H4 D = some (.lst acc) ∧ acc.length < sizeLine ∧ Nx (upd H4 D (.lst (acc ++ [y]))) else Nx H3) := by
  refine lc_it w (fun i H' => Same H1 H' ∧ ∃ acc, H' D = some (.lst acc) ∧ R i acc H') ⟨same_upd nD, [], upd_same, h0⟩ (fun i H' _ h => hG H' h.1) ?_ (fun H' ⟨s, acc, e, r⟩ => hd H' acc s e r)
  rintro i x H2 H3 hi ⟨s2, acc, eD, r⟩ ⟨rfl, ev⟩
  refine ⟨hw x, mt _ _ _ _ ?_ (hs i x acc _ ev s2 eD r)⟩
  rintro b H4 ⟨s4, hb⟩
  have eD4 := s4 _ _ eD
  cases b with
  | false => exact ⟨s2.trans s4, acc, eD4, hb⟩
  | true =>
    refine me _ _ _ _ ?_ hb
    rintro y H5 ⟨s5, r5⟩
    have eD5 := s5 _ _ eD4
    refine ⟨acc, eD5, Nat.lt_of_le_of_lt (hR.few _ _ _ r) (by omega), fun b u e => ?_, acc ++ [y], upd_same, hR.keep _ _ _ _ _ r5 eD5 fun b u nb e => (upd_ne nb).trans e⟩
    rw [upd_ne (ne_of_none e nD)]
    exact s5 _ _ (s4 _ _ (s2 _ _ e))
theorem lc_E {K : PySem.W.Frag} {J : It} {xs : List V} {G : Hp → Prop} (w : Walk J xs.length G (YPair (fun i => some (.int (i : Nat))) (fun i => xs[i]?))) {j1 j2 : Nat} {tt : TT} {te : TE} {vs : List Nat} {σ : L2.St} {H1 : Hp} {D : Addr} {Qd : Hp → Prop} (R : Nat → List V → Hp → Prop) (hR : LcR D R) (nD : H1 D = none) (hl : xs.length < sizeLine)
    (h0 : R 0 [] (upd H1 D (.lst []))) (hG : ∀ H', Same H1 H' → G H') (hw : ∀ u x, wipe (((wipe σ vs).set j1 (some u)).set j2 (some x)) vs = wipe σ vs)
    (hs : ∀ (i : Nat) x acc H', xs[i]? = some x → Same H1 H' → H' D = some (.lst acc) → R i acc H' → tt (((wipe σ vs).set j1 (some (.int (i : Int)))).set j2 (some x)) H' fun b H3 => Same H' H3 ∧ if b = true then te (((wipe σ vs).set j1 (some (.int (i : Int)))).set j2 (some x)) H3 fun y H4 => Same H3 H4 ∧ R (i + 1) (acc ++ [y]) H4 else R (i + 1) acc H3)
    (mt : ∀ σ H (Q Q' : Bool → Hp → Prop), (∀ b H', Q b H' → Q' b H') → tt σ H Q → tt σ H Q') (me : ∀ σ H (Q Q' : VK), (∀ v H', Q v H' → Q' v H') → te σ H Q → te σ H Q')
    (hd : ∀ H' acc, Same H1 H' → H' D = some (.lst acc) → R xs.length acc H' → Qd H') :
    ∃ W : Nat → Nat → Hp → Prop, (∃ m, W 0 m (upd H1 D (.lst []))) ∧ ∀ i m H, W i m H →
      (J.stop i H ∧ Qd H) ∨ (J.go i H ∧ ∃ Nx : Hp → Prop, (∀ H', Nx H' → ∃ m', m' < m ∧ W (i + 1) m' H') ∧ ∀ x H', J.yld i H x H' → gTup K 2 (gCons (gName j1) (gCons (gName j2) gNil)) x (wipe σ vs) H' fun σ2 H2 => wipe σ2 vs = wipe σ vs ∧ tt σ2 H2 fun b H3 =>
        if b = true then te σ2 H3 fun y H4 => ∃ acc, H4 D = some (.lst acc) ∧ acc.length < sizeLine ∧ Nx (upd H4 D (.lst (acc ++ [y]))) else Nx H3) := by
  refine lc_it w (fun i H' => Same H1 H' ∧ ∃ acc, H' D = some (.lst acc) ∧ R i acc H') ⟨same_upd nD, [], upd_same, h0⟩ (fun i H' _ h => hG H' h.1) ?_ (fun H' ⟨s, acc, e, r⟩ => hd H' acc s e r)
  rintro i x H2 H3 hi ⟨s2, acc, eD, r⟩ ⟨T, u, v, rfl, nT, rfl, eu, ev⟩
  obtain rfl : u = .int (i : Int) := (Option.some.inj eu).symm
  have sT := same_upd (o := .tup [.int (i : Int), v]) nT
  have eDT := sT _ _ eD
  have rT := hR.keep _ _ _ _ _ r eD fun b o nb e => sT b o e
  refine ⟨T, _, rfl, .inl (.inl upd_same), rfl, _, _, rfl, _, _, rfl, rfl, hw _ v, mt _ _ _ _ ?_ (hs i v acc _ ev (s2.trans sT) eDT rT)⟩
  rintro b H4 ⟨s4, hb⟩
  have eD4 := s4 _ _ eDT
  cases b with
  | false => exact ⟨(s2.trans sT).trans s4, acc, eD4, hb⟩
  | true =>
    refine me _ _ _ _ ?_ hb
    rintro y H5 ⟨s5, r5⟩
    have eD5 := s5 _ _ eD4
    refine ⟨acc, eD5, Nat.lt_of_le_of_lt (hR.few _ _ _ r) (by omega), fun b u e => ?_, acc ++ [y], upd_same, hR.keep _ _ _ _ _ r5 eD5 fun b u nb e => (upd_ne nb).trans e⟩
    rw [upd_ne (ne_of_none e nD)]
    exact s5 _ _ (s4 _ _ (sT _ _ (s2 _ _ e)))
/-! ### what is wanted may be more -/
def MonoE (t : TE) : Prop := ∀ (σ : L2.St) (H : Hp) (Q Q' : VK), (∀ v H', Q v H' → Q' v H') → t σ H Q → t σ H Q'
def MonoT (t : TT) : Prop := ∀ (σ : L2.St) (H : Hp) (Q Q' : Bool → Hp → Prop), (∀ v H', Q v H' → Q' v H') → t σ H Q → t σ H Q'
def MonoA (t : TA) : Prop := ∀ (σ : L2.St) (H : Hp) (Q Q' : List V → Hp → Prop), (∀ v H', Q v H' → Q' v H') → t σ H Q → t σ H Q'
def MonoR (r : R2) : Prop := ∀ (x y : V) (H : Hp) (Q Q' : VK), (∀ v H', Q v H' → Q' v H') → r x y H Q → r x y H Q'
theorem mE_var {i : Nat} : MonoE (tVar i) := fun _ _ _ _ h ⟨x, e, q⟩ => ⟨x, e, h _ _ q⟩
theorem mE_c {v : V} : MonoE (tC v) := fun _ _ _ _ h q => h _ _ q
theorem mE_op {r : R2} {a b : TE} (hr : MonoR r) (ha : MonoE a) (hb : MonoE b) : MonoE (tOp r a b) := fun _ _ _ _ h q => ha _ _ _ _ (fun _ _ q1 => hb _ _ _ _ (fun _ _ q2 => hr _ _ _ _ _ h q2) q1) q
theorem mT_test {e : TE} (he : MonoE e) : MonoT (tTest e) := fun _ _ _ _ h q => he _ _ _ _ (fun _ _ ⟨k, e, q⟩ => ⟨k, e, h _ _ q⟩) q
theorem mT_yes : MonoT tYes := fun _ _ _ _ h q => h _ _ q
theorem mE_if {t : TT} {a b : TE} (ht : MonoT t) (ha : MonoE a) (hb : MonoE b) : MonoE (tIf t a b) := fun _ _ _ _ h q => ht _ _ _ _ (fun c H1 q1 => by
  cases c with
  | true => exact iteT (ha _ _ _ _ h (show a _ _ _ from q1))
  | false => exact iteF (hb _ _ _ _ h (show b _ _ _ from q1))) q
theorem mA_nil : MonoA tNil := fun _ _ _ _ h q => h _ _ q
theorem mA_cons {t : TE} {ta : TA} (ht : MonoE t) (ha : MonoA ta) : MonoA (tCons t ta) := fun _ _ _ _ h q => ht _ _ _ _ (fun _ _ q1 => ha _ _ _ _ (fun _ _ q2 => h _ _ q2) q1) q
theorem mE_tup {ta : TA} (ha : MonoA ta) : MonoE (tTup ta) := fun _ _ _ _ h q => ha _ _ _ _ (fun _ _ ⟨l, q⟩ => ⟨l, fun p np => h _ _ (q p np)⟩) q
theorem mR_eq : MonoR rEq := fun _ _ _ _ _ h ⟨s, q⟩ => ⟨s, h _ _ q⟩
theorem mR_ne : MonoR rNe := fun _ _ _ _ _ h ⟨s, q⟩ => ⟨s, h _ _ q⟩
theorem mR_ixT {K : PySem.W.Frag} : MonoR (rIxT K) := fun _ _ _ _ _ h ⟨p, xs, i, v, e1, e2, e3, e4, q⟩ => ⟨p, xs, i, v, e1, e2, e3, e4, h _ _ q⟩
theorem mR_ixL {K : PySem.W.Frag} : MonoR (rIxL K) := fun _ _ _ _ _ h ⟨p, xs, i, v, e1, e2, e3, e4, q⟩ => ⟨p, xs, i, v, e1, e2, e3, e4, h _ _ q⟩
theorem mR_in {K : PySem.W.Frag} {n : Bool} : MonoR (rIn K n) := fun _ _ _ _ _ h ⟨p, xs, e, o, f1, f2, q⟩ => ⟨p, xs, e, o, f1, f2, h _ _ q⟩
theorem mR_isN {f : V → V} : MonoR (fun x y H Q => y = V.non ∧ Q (f x) H) := fun _ _ _ _ _ h ⟨e, q⟩ => ⟨e, h _ _ q⟩
end K26

/-! do two patterns match -/
namespace K26
open PySem PySem.Spec PyProof.Rows L2
theorem passX0 {X : Cx} : Passes (L2.CX X.prog X.w) X E0 := fun _ _ _ _ _ _ _ h => by
  obtain ⟨_, _, _, _, _, _, _, _, _, _, _, _, e⟩ := h
  exact e.elim
theorem eqv_bools : ∀ l m : List Bool, PyData.eqvAll (l.map PyData.bool) (m.map PyData.bool) = decide (l = m)
  | [], [] => rfl
  | [], _ :: _ => rfl
  | _ :: _, [] => rfl
  | a :: l, b :: m => by
    show ((a == b) && PyData.eqvAll (l.map PyData.bool) (m.map PyData.bool)) = _
    rw [eqv_bools l m]
    cases a <;> cases b <;> simp
def maskB (p : List (Option Nat)) : List Bool := p.map Option.isNone
theorem mask_iff {p q : List (Option Nat)} : Mask p q ↔ maskB p = maskB q := by
  have e : ∀ l : List (Option Nat), maskB l = (l.map Option.isSome).map (!·) := fun l => by
    unfold maskB
    rw [List.map_map]
    refine List.map_congr_left fun o _ => ?_
    cases o <;> rfl
  rw [e, e]
  exact ⟨fun h => congrArg _ h, fun h => (List.map_inj_right fun a b z => by cases a <;> cases b <;> simp_all).mp h⟩
theorem dt_bools {S : Addr → Prop} {H : Hp} : ∀ l : List Bool, DtAll S H (l.map V.bl) (l.map PyData.bool)
  | [] => .nil
  | b :: l => .cons (.bl b) (dt_bools l)
theorem bools_depth : ∀ l : List Bool, PyData.depthAll (l.map PyData.bool) = 0
  | [] => rfl
  | b :: l => by
    show max 0 (PyData.depthAll (l.map PyData.bool)) = 0
    rw [bools_depth l]
    rfl
theorem shaped_bools {H : Hp} {a : Addr} (l : List Bool) (h : H a = some (.lst (l.map V.bl))) : SeqAt.shaped (.list (l.map PyData.bool)) = true :=
  shaped_of (Dt.lst (S := Any) (H := H) (a := a) trivial h (dt_bools l)).lay (by show PyData.depthAll (l.map PyData.bool) + 1 ≤ 64; rw [bools_depth]; decide)
theorem lcR_pure {D : Addr} {f : Nat → List V} (hf : ∀ i, (f i).length ≤ i) : LcR D fun i acc _ => acc = f i := ⟨fun _ _ _ _ _ r _ _ => r, fun i acc _ r => by rw [r]; exact hf i⟩
def wordM (p q : List (Option Nat)) : Str := if p.length = q.length then "nobody" else "places"
def spCM (CP CB : Addr) : Sp := fun vs H Q E => ∃ (x y : Addr) (p q : List (Option Nat)), vs = [.ref x, .ref y] ∧ PatAt CP H x p ∧ PatAt CP H y q ∧
  (Mask p q → ∀ H', Same H H' → Q .non H') ∧ (¬ Mask p q → ∀ (H' : Hp) (d : Addr), H d = none → H' d = some (.xd (stF (wordM p q))) → Same H H' → E (.ref CB) (some d) H')
section
variable {P : Program} {w : World} {K : PySem.W.Frag} {mg : Str → Option Value} {base : Heap}
theorem ok_cm {f fI CP CB : Addr} {fd fdI : FuncData} (F : FnP K "check_match" sPCheckMatch f fd) (T : PatC K CP) (z_len : mg "len" = none) (X : ErrC P w K mg base "BadMatch" ["self", "what"] spMtErr CB fI fdI) : FnOk P w K mg base (L2.CX P w) 3 f fd ["one", "other"] (spCM CP CB) := by
  have sc : FnScope ["one", "other", "entry"] ["one", "other"] (defScope sPCheckMatch) := ⟨rfl, rfl, rfl, by decide +kernel, rfl, by decide +kernel, by decide +kernel⟩
  refine F.ok sc (fun vs H Q E h => ?_) (fun cdv A outer s H vs Q E hr h => ?_)
  · obtain ⟨x, y, p, q, rfl, _⟩ := h
    rfl
  · obtain ⟨x, y, p, q, rfl, hx, hy, q1, q0⟩ := h
    have hr2 := hr.mono (show 2 ≤ 2 by decide)
    refine ⟨_, (pss_cons (ps_if (pt_cmpR op_ne (pe_callB call_len_seq (by rfl) z_len boot_len (pa_cons (pe_fld (pv 0) rfl) pa_nil)) (pe_callB call_len_seq (by rfl) z_len boot_len (pa_cons (pe_fld (pv 1) rfl) pa_nil)) (nomark _))
      (pss_one (ps_raise rfl (takes_of rfl rfl rfl rfl) (pmk_oex X.cl X.ini X.ty X.ok hr2 X.bi .nil pass0 (by rfl) X.gl (pa_cons pe_str pa_nil))))
      pss_nil)
    (pss_one (ps_if (pt_cmpR (op_neD hr.units) (pe_lc (own := [("entry", 2)]) (g := gName 2) (tt := tYes) rfl sc.nd (pi_tup (pe_fld (pv 0) rfl)) (blkOk_by (N := ["one", "other", "entry"]) (sc := defScope sPCheckMatch) (by decide +kernel)) (fun _ _ _ _ _ => pg_name (i := 2) sc.nd rfl (Or.inl rfl)) (fun _ _ _ _ _ => pts_nil) (fun _ _ _ _ _ => (pe_cmpR op_isN (pv 2) pe_non (nomark _)))) (pe_lc (own := [("entry", 2)]) (g := gName 2) (tt := tYes) rfl sc.nd (pi_tup (pe_fld (pv 1) rfl)) (blkOk_by (N := ["one", "other", "entry"]) (sc := defScope sPCheckMatch) (by decide +kernel)) (fun _ _ _ _ _ => pg_name (i := 2) sc.nd rfl (Or.inl rfl)) (fun _ _ _ _ _ => pts_nil) (fun _ _ _ _ _ => (pe_cmpR op_isN (pv 2) pe_non (nomark _)))) (nomark _))
      (pss_one (ps_raise rfl (takes_of rfl rfl rfl rfl) (pmk_oex X.cl X.ini X.ty X.ok hr2 X.bi .nil pass0 (by rfl) X.gl (pa_cons pe_str pa_nil))))
      pss_nil))), ?_⟩
    obtain ⟨dx, tx, cx, ex, etx, lx, _⟩ := hx
    obtain ⟨dy, ty, cy, ey, ety, ly, _⟩ := hy
    have fail : ∀ z : Str, ¬ Mask p q → wordM p q = z → ∀ (H0 : Hp), Same H H0 → ∀ av, H0 av = none → spMtErr CB [.ref av, .str z] (upd H0 av (exo av CB none)) (fun v H3 => v = .non ∧ ∃ dd fs, H3 av = some (exo av CB (some dd)) ∧ H3 dd = some (exd dd fs) ∧ H0 dd = none ∧ E (.ref CB) (some dd) (upd (del H3 av) dd (.xd fs))) E0 := fun z nm ez H0 s0 av nav =>
      ⟨av, z, rfl, upd_same, fun H3 dd nd3 ha3 hd3 kp => ⟨rfl, dd, _, ha3, hd3, none_of (same_upd nav) nd3, q0 nm _ dd (none_of s0 (none_of (same_upd nav) nd3)) (by rw [ez]; exact upd_same) fun y' o' e' => by
        have e2 := s0 _ _ e'
        rw [upd_ne (ne_of_none e2 (none_of (same_upd nav) nd3)), del_ne (ne_of_none e2 nav)]
        exact kp _ _ (ne_of_none e2 nav) (same_upd nav _ _ e2)⟩⟩
    refine ⟨_, rfl, x, CP, dx, _, _, rfl, ex, T.cl, T.nE, rfl, tx, _, rfl, .inr (SqT.of etx), _, rfl, y, CP, dy, _, _, rfl, ey, T.cl, T.nE, rfl, ty, _, rfl, .inr (SqT.of ety), rfl, _, rfl, ?_⟩
    rw [List.length_map, List.length_map]
    by_cases hlen : p.length = q.length
    · rw [hlen, decide_eq_true rfl]
      refine iteF ?_
      refine ⟨_, rfl, x, CP, dx, _, _, rfl, ex, T.cl, T.nE, rfl, tx, rfl, ⟨_, SqT.of etx⟩, fun D nD => lc_N walk_tup (fun i acc _ => acc = ((maskB p).take i).map V.bl) (lcR_pure fun i => by rw [List.length_map]; exact List.length_take_le _ _) nD (by rw [List.length_map]; exact Nat.lt_of_le_of_lt lx (by decide)) rfl (fun H' s' => SqT.of (s' _ _ etx)) (fun _ => rfl) ?_ (fun _ _ _ _ h q => h _ _ q) (fun _ _ _ _ h ⟨x, e, e2, q⟩ => ⟨x, e, e2, h _ _ q⟩) ?_⟩
      · rintro i v acc H' ev s' eD rfl
        rw [vals_get] at ev
        obtain ⟨o, eo, rfl⟩ := Option.map_eq_some_iff.mp ev
        refine ⟨Same.refl _, iteT ⟨_, rfl, rfl, Same.refl _, ?_⟩⟩
        rw [take_snoc' (v := o.isNone) (by unfold maskB; rw [List.getElem?_map, eo]; rfl), List.map_append]
        cases o <;> rfl
      rintro H1 acc s1 eD rfl
      rw [List.take_of_length_le (by unfold maskB; rw [List.length_map, List.length_map]; exact Nat.le_refl _)] at eD
      refine ⟨_, rfl, y, CP, dy, _, _, rfl, s1 _ _ ey, T.cl, T.nE, rfl, ty, rfl, ⟨_, SqT.of (s1 _ _ ety)⟩, fun D2 nD2 => lc_N walk_tup (fun i acc _ => acc = ((maskB q).take i).map V.bl) (lcR_pure fun i => by rw [List.length_map]; exact List.length_take_le _ _) nD2 (by rw [List.length_map]; exact Nat.lt_of_le_of_lt ly (by decide)) rfl (fun H' s' => SqT.of (s' _ _ (s1 _ _ ety))) (fun _ => rfl) ?_ (fun _ _ _ _ h q => h _ _ q) (fun _ _ _ _ h ⟨x, e, e2, q⟩ => ⟨x, e, e2, h _ _ q⟩) ?_⟩
      · rintro i v acc H' ev s' eD rfl
        rw [vals_get] at ev
        obtain ⟨o, eo, rfl⟩ := Option.map_eq_some_iff.mp ev
        refine ⟨Same.refl _, iteT ⟨_, rfl, rfl, Same.refl _, ?_⟩⟩
        rw [take_snoc' (v := o.isNone) (by unfold maskB; rw [List.getElem?_map, eo]; rfl), List.map_append]
        cases o <;> rfl
      rintro H2 acc s2 eD2 rfl
      rw [List.take_of_length_le (by unfold maskB; rw [List.length_map, List.length_map]; exact Nat.le_refl _)] at eD2
      have eD1 := s2 _ _ eD
      refine ⟨_, _, (Dt.lst (S := Any) trivial eD1 (dt_bools _)).dp, (Dt.lst (S := Any) trivial eD2 (dt_bools _)).dp, shaped_bools _ eD1, shaped_bools _ eD2, _, rfl, ?_⟩
      show if (!PyData.eqvAll ((maskB p).map PyData.bool) ((maskB q).map PyData.bool)) = true then _ else _
      rw [eqv_bools]
      by_cases hm : maskB p = maskB q
      · rw [decide_eq_true hm]
        exact iteF (q1 (mask_iff.mpr hm) H2 (s1.trans s2))
      · rw [decide_eq_false hm]
        exact iteT ⟨(by show 1 ≤ 1000; decide), fun av nav => fail _ (fun z => hm (mask_iff.mp z)) (by unfold wordM; rw [if_pos hlen]) H2 (s1.trans s2) av nav⟩
    · rw [decide_eq_false (fun z => hlen (by have := V.int.inj z; omega))]
      exact iteT ⟨(by show 1 ≤ 1000; decide), fun av nav => fail _ (fun z => hlen z.len) (by unfold wordM; rw [if_neg hlen]) H (Same.refl _) av nav⟩
end
end K26

/-! the least above, class by class -/
namespace K26
open PySem PySem.Spec PyProof.Rows L2
theorem eqV_opt (a b : Option Nat) : eqV (optV a) (optV b) = decide (a = b) := by
  cases a with
  | none => cases b <;> rfl
  | some m =>
    cases b with
    | none => rfl
    | some n =>
      show ((m : Int) == (n : Int)) = _
      by_cases h : m = n
      · rw [h, decide_eq_true rfl]
        exact beq_self_eq_true _
      · rw [decide_eq_false (fun z => h (Option.some.inj z))]
        exact beq_false_of_ne (fun z => h (by omega))
theorem inV_vals (o : Option Nat) (l : List (Option Nat)) : inV (optV o) (vals l) = decide (o ∈ l) := by
  induction l with
  | nil => rfl
  | cons x l ih =>
    show (eqV (optV x) (optV o) || inV (optV o) (vals l)) = _
    rw [ih, eqV_opt]
    by_cases h : x = o
    · subst h
      rw [decide_eq_true rfl, Bool.true_or]
      exact (decide_eq_true List.mem_cons_self).symm
    · rw [decide_eq_false h, Bool.false_or]
      exact decide_eq_decide.mpr ⟨fun z => List.mem_cons_of_mem _ z, fun z => (List.mem_cons.mp z).elim (fun e => absurd e.symm h) id⟩
theorem flat_opt (o : Option Nat) : flatV (optV o) = true := (fl_opt o).flat
theorem flat_vals (l : List (Option Nat)) : (vals l).all flatV = true := by
  rw [List.all_eq_true]
  intro v hv
  obtain ⟨o, _, rfl⟩ := List.mem_map.mp hv
  exact flat_opt o
theorem dec_opt (o : Option Nat) (n : Nat) : decide (optV o = V.int (n : Int)) = (o == some n) := by
  cases o with
  | none => rfl
  | some m =>
    by_cases h : m = n
    · subst h
      rw [decide_eq_true (show optV (some m) = V.int (m : Int) from rfl)]
      simp
    · rw [decide_eq_false (fun z => h (by have := V.int.inj (show V.int (m : Int) = V.int (n : Int) from z); omega))]
      simp [h]
/-- what is alike among the first -/
def alikeN (M q : List (Option Nat)) (n k : Nat) : List (Option Nat) := (((M.zip q).take k).filter fun p => p.2 == some n).map (·.1)
theorem alikeN_len (M q : List (Option Nat)) (n k : Nat) : (alikeN M q n k).length ≤ k := by
  unfold alikeN
  rw [List.length_map]
  exact Nat.le_trans (List.length_filter_le _ _) (List.length_take_le _ _)
theorem alikeN_step {M q : List (Option Nat)} {n i : Nat} {o oq : Option Nat} (h1 : M[i]? = some o) (h2 : q[i]? = some oq) : alikeN M q n (i + 1) = if (oq == some n) = true then alikeN M q n i ++ [o] else alikeN M q n i := by
  have z : (M.zip q)[i]? = some (o, oq) := List.getElem?_zip_eq_some.mpr ⟨h1, h2⟩
  unfold alikeN
  rw [take_snoc' z, List.filter_append]
  by_cases h : (oq == some n) = true
  · rw [if_pos h, List.map_append]
    congr 1
    show ([(o, oq)].filter fun p => p.2 == some n).map (·.1) = [o]
    rw [List.filter_cons_of_pos (by simpa using h)]
    rfl
  · rw [if_neg h, List.filter_cons_of_neg (by simpa using h), List.filter_nil, List.append_nil]
theorem alikeN_all {M q : List (Option Nat)} {n k : Nat} (h : M.length ≤ k) : alikeN M q n k = alikeOf M q n := by
  unfold alikeN alikeOf
  rw [List.take_of_length_le (by rw [List.length_zip]; omega)]
def spMg : Sp := fun vs H Q _ => ∃ (a b : Addr) (p q : List (Option Nat)), vs = [.ref a, .ref b] ∧ H a = some (.tup (vals p)) ∧ H b = some (.tup (vals q)) ∧ Mask p q ∧ p.length ≤ 40 ∧
  ∀ (H' : Hp) (z : Addr), Same H H' → H z = none → H' z = some (.lst (vals (mergeN p q q.length))) → Q (.ref z) H'
section
variable {P : Program} {w : World} {K : PySem.W.Frag} {mg : Str → Option Value} {base : Heap}
theorem ok_mg {f : Addr} {fd : FuncData} (F : FnP K "_merged" sPMerged f fd) (z_len : mg "len" = none) (z_list : mg "list" = none) (z_range : mg "range" = none) (z_enumerate : mg "enumerate" = none) : FnOk P w K mg base CX0 1 f fd ["one", "other"] spMg := by
  have sc : FnScope ["one", "other", "found", "number", "alike", "place", "entry"] ["one", "other"] (defScope sPMerged) := ⟨rfl, rfl, rfl, by decide +kernel, rfl, by decide +kernel, by decide +kernel⟩
  refine F.ok sc (fun vs H Q E h => ?_) (fun cdv A outer s H vs Q E hr h => ?_)
  · obtain ⟨a, b, p, q, rfl, _⟩ := h
    rfl
  · obtain ⟨a, b, p, q, rfl, ha, hb, hM, hl, qq⟩ := h
    refine ⟨_, PSs.nox (pss_cons (ps_set (i := 2) sc.nd rfl (.inl rfl) (pe_callTy call_list_of (by rfl) z_list (by decide +kernel) (pa_cons (pv 0) pa_nil)))
    (pss_cons (ps_for PassesOwn.never rfl (pi_range1 (by rfl) z_range (pa_cons (pe_callB call_len_seq (by rfl) z_len boot_len (pa_cons (pv 1) pa_nil)) pa_nil)) (pg_name (i := 3) sc.nd rfl (Or.inr rfl))
      (pss_cons (ps_set (i := 4) sc.nd rfl (.inr rfl) (pe_lc (own := [("place", 5), ("entry", 6)]) (g := gTup K 2 (gCons (gName 5) (gCons (gName 6) gNil))) (tt := tTest (tOp rEq (tOp (rIxT K) (tVar 1) (tVar 5)) (tVar 3))) rfl sc.nd (pi_enum (by rfl) z_enumerate (pa_cons (pv 2) pa_nil)) (blkOk_by (N := ["one", "other", "found", "number", "alike", "place", "entry"]) (sc := defScope sPMerged) (by decide +kernel)) (fun _ _ _ _ _ => pg_tup (by rfl) (pgs_cons (pg_name (i := 5) sc.nd rfl (Or.inl rfl)) (pgs_cons (pg_name (i := 6) sc.nd rfl (Or.inl rfl)) pgs_nil))) (fun _ _ _ _ _ => pts_one (pt_cmpR op_eq (pe_ix ix_tup (pv 1) (pv 5) (fun _ _ => rfl)) (pv 3) (nomark _))) (fun _ _ _ _ _ => (pv 6))))
      (pss_one (ps_setLc (i := 2) (own := [("entry", 6)]) (g := gName 6) (tt := tYes) (te := tIf (tTest (tOp (rIn K false) (tVar 6) (tVar 4))) (tOp (rIxL K) (tVar 4) (tC (.int 0))) (tVar 6)) rfl sc.nd rfl rfl (sw_true rfl rfl rfl (by decide +kernel)) (pi_list (pv 2)) (blkOk_by (N := ["one", "other", "found", "number", "alike", "place", "entry"]) (sc := defScope sPMerged) (by decide +kernel)) (fun _ _ _ _ _ => pg_name (i := 6) sc.nd rfl (Or.inl rfl)) (fun _ _ _ _ _ => pts_nil) (fun _ _ _ _ _ => (pe_ifExp (pt_cmpR op_in_seq (pv 6) (pv 4) (by rfl)) (pe_ix ix_list (pv 4) pe_int (fun _ _ => rfl)) (pv 6)))))))
    (pss_one (ps_ret (pv 2))))), ?_⟩
    refine ⟨_, rfl, a, _, rfl, .inr (SqT.of ha), fun g0 ng0 => ?_⟩
    have sg := same_upd (o := .lst (vals p)) ng0
    have lq : q.length = p.length := hM.len.symm
    refine ⟨_, rfl, b, _, rfl, .inr (SqT.of (sg _ _ hb)), _, rfl, by rw [List.length_map]; omega, by rw [List.length_map]; omega, for_it walk_range (fun i σ H' => ∃ (g : Addr) (x3 x4 x5 x6 : Option V), σ = [some (.ref a), some (.ref b), some (.ref g), x3, x4, x5, x6] ∧ H' g = some (.lst (vals (mergeN p q i))) ∧ Same H H' ∧ H g = none)
      ⟨g0, none, none, none, none, rfl, upd_same, sg, ng0⟩ (fun _ _ _ _ _ => trivial) ?_ ?_⟩
    · rintro n y σ H1 H2 hn ⟨g, x3, x4, x5, x6, rfl, hg, s1, ng⟩ ⟨rfl, rfl⟩
      show gName 3 (V.int (0 + (n : Int))) _ _ _
      rw [Int.zero_add]
      have mM := mergeN_mask hM n
      have lM : (mergeN p q n).length = q.length := mM.len
      generalize hMM : mergeN p q n = M at hg mM lM
      refine ⟨_, rfl, g, _, rfl, SqL.of hg, fun D nD => lc_E (K := K) walk_enum (fun k acc _ => acc = vals (alikeN M q n k)) (lcR_pure fun k => by rw [List.length_map]; exact alikeN_len _ _ _ _) nD (by rw [List.length_map]; exact Nat.lt_of_le_of_lt (by omega : M.length ≤ 40) (by decide)) rfl (fun H' s' => SqL.of (s' _ _ hg)) (fun _ _ => rfl) ?_ (mT_test (mE_op mR_eq (mE_op mR_ixT mE_var mE_var) mE_var)) mE_var ?_⟩
      · rintro i v acc H' ev s' eD rfl
        rw [vals_get] at ev
        obtain ⟨o, eo, rfl⟩ := Option.map_eq_some_iff.mp ev
        have il : i < q.length := by have := (List.getElem?_eq_some_iff.mp eo).1; omega
        have eq_ : q[i]? = some q[i] := List.getElem?_eq_getElem il
        generalize q[i] = oq at eq_
        refine ⟨_, rfl, _, rfl, b, _, (i : Int), optV oq, rfl, rfl, SqT.of (s' _ _ (s1 _ _ hb)), atI_nat (by rw [vals_get, eq_]; rfl), _, rfl, by cases oq <;> rfl, _, rfl, Same.refl _, ?_⟩
        rw [dec_opt]
        have st := alikeN_step (n := n) eo eq_
        cases hb2 : oq == some n with
        | true =>
          rw [hb2, if_pos rfl] at st
          exact iteT ⟨_, rfl, Same.refl _, by rw [st, vals_app]; rfl⟩
        | false =>
          rw [hb2, if_neg Bool.false_ne_true] at st
          exact iteF (by rw [st])
      rintro H3 acc s3 eD rfl
      rw [alikeN_all (by rw [List.length_map]; exact Nat.le_refl _)] at eD
      have hg3 := s3 _ _ hg
      refine ⟨_, rfl, g, rfl, ⟨_, SqL.of hg3⟩, fun D2 nD2 => lc_N walk_list (fun k acc _ => acc = vals ((merge1 M q n).take k)) (lcR_pure fun k => by rw [List.length_map]; exact List.length_take_le _ _) nD2 (by rw [List.length_map]; exact Nat.lt_of_le_of_lt (by omega : M.length ≤ 40) (by decide)) rfl (fun H' s' => SqL.of (s' _ _ hg3)) (fun _ => rfl) ?_ mT_yes (mE_if (mT_test (mE_op mR_in mE_var mE_var)) (mE_op mR_ixL mE_var mE_c) mE_var) ?_⟩
      · rintro i v acc H' ev s' eD2 rfl
        rw [vals_get] at ev
        obtain ⟨o, eo, rfl⟩ := Option.map_eq_some_iff.mp ev
        have eD' := s' _ _ eD
        have nx : (merge1 M q n)[i]? = some (if o ∈ alikeOf M q n then hdN (alikeOf M q n) else o) := by rw [merge_at, eo]; rfl
        refine ⟨Same.refl _, iteT ⟨_, rfl, _, rfl, D, _, rfl, .inl (SqL.of eD'), flat_opt o, flat_vals _, _, rfl, ?_⟩⟩
        show if inV (optV o) (vals (alikeOf M q n)) = true then _ else _
        rw [inV_vals]
        by_cases ho : o ∈ alikeOf M q n
        · rw [decide_eq_true ho]
          rw [if_pos ho] at nx
          have h0 : (vals (alikeOf M q n))[0]? = some (optV (hdN (alikeOf M q n))) := by
            cases hA : alikeOf M q n with
            | nil => rw [hA] at ho; cases ho
            | cons z zs => rfl
          exact iteT ⟨_, rfl, D, _, 0, _, rfl, rfl, SqL.of eD', atI_nat (j := 0) h0, Same.refl _, by rw [take_snoc' nx, vals_app]; rfl⟩
        · rw [decide_eq_false ho]
          rw [if_neg ho] at nx
          exact iteF ⟨_, rfl, Same.refl _, by rw [take_snoc' nx, vals_app]; rfl⟩
      rintro H4 acc s4 eD2 rfl
      rw [List.take_of_length_le (by unfold merge1; rw [List.length_map, List.length_map]; exact Nat.le_refl _)] at eD2
      refine ⟨D2, _, _, _, _, rfl, ?_, (s1.trans s3).trans s4, none_of (s1.trans s3) nD2⟩
      rw [eD2]
      show some (HO.lst (vals (merge1 M q n))) = some (HO.lst (vals (merge1 (mergeN p q n) q n)))
      rw [hMM]
    · rintro σ H1 ⟨g, x3, x4, x5, x6, rfl, hg, s1, ng⟩
      refine ⟨_, rfl, qq H1 g s1 ng ?_⟩
      rw [hg, List.length_map]
      rfl
end
end K26

/-! | and & of patterns -/
namespace K26
open PySem PySem.Spec PyProof.Rows L2
abbrev sOr : Stmt := inClass (top 11) 8
abbrev sAnd : Stmt := inClass (top 11) 9
structure DfE (P : Program) (w : World) (K : PySem.W.Frag) (mg : Str → Option Value) (base : Heap) (x : Str) (k : Nat) (ps : List Str) (sp : Sp) (f : Addr) (fd : FuncData) : Prop where
  gl : mg x = some (.ref f)
  ok : FnOk P w K mg base (L2.CX P w) k f fd ps sp
  bi : Binds K fd ps []
  kp : PySem.W.keepIn K (.ref f) = true
structure PatMk (P : Program) (w : World) (K : PySem.W.Frag) (mg : Str → Option Value) (base : Heap) (CP CE fI : Addr) (fd : FuncData) : Prop where
  mks : Mk K CP fI
  gl : mg "Pattern" = some (.ref CP)
  ok : FnOk P w K mg base (L2.CX P w) 3 fI fd ["self", "entries"] (spPat CP CE)
  bi : Binds K fd ["self", "entries"] []
theorem same_ins {H : Hp} {x dx C : Addr} {fs : List (Str × V)} (nx : H x = none) (nd : H dx = none) (ne : dx ≠ x) : Same H (upd (upd H dx (.own x)) x (.ins C dx fs)) := fun b o e => by
  rw [upd_ne (ne_of_none e nx), upd_ne (ne_of_none e nd)]
  exact e
/-- a pattern is made of numbered entries -/
theorem pat_make {CP CE : Addr} {H : Hp} {a : Addr} {r : List (Option Nat)} {Q : VK} (ha : Sq H a (vals r)) (hp : Pt r) (hl : r.length ≤ 40) (q : ∀ (H' : Hp) (z : Addr), Same H H' → PatAt CP H' z r → Q (.ref z) H') :
    ∀ x dx, H x = none → H dx = none → dx ≠ x → spPat CP CE (.ref x :: [.ref a]) (upd (upd H dx (.own x)) x (.ins CP dx [])) (fun v H2 => v = .non ∧ Q (.ref x) H2) E0 := fun x dx nx nd ne => by
  obtain ⟨c, hc⟩ := hp.cnt
  have s0 := same_ins (C := CP) (fs := []) nx nd ne
  refine ⟨x, dx, .ref a, vals r, cnt 0 (vals r), rfl, upd_same, .seq (ha.same s0) (by rw [List.length_map]; exact hl) fl_vals, fun c' ec H' t h1 h2 k => ⟨rfl, ?_⟩, fun e => by rw [hc] at e; cases e⟩
  have s1 : Same H H' := fun y o e => k y o (s0 _ _ e) (ne_of_none e nx)
  exact q H' x s1 ⟨dx, t, c', h1, h2, hl, ec⟩
/-- pairs of entries, side by side -/
def R1 (p q : List (Option Nat)) (k : Nat) (acc : List V) (H : Hp) : Prop := acc.length = k ∧ ∀ (i : Nat) (v : V), acc[i]? = some v → ∃ t, v = .ref t ∧ H t = some (.tup [optV (at_ p i), optV (at_ q i)])
theorem lcR1 (p q : List (Option Nat)) (D : Addr) : LcR D (R1 p q) :=
  ⟨fun k acc H H' ys ⟨h1, h2⟩ eD k => ⟨h1, fun i v e => by
    obtain ⟨t, rfl, ht⟩ := h2 i v e
    exact ⟨t, rfl, k _ _ (fun z => by rw [z, eD] at ht; cases ht) ht⟩⟩, fun k acc H h => Nat.le_of_eq h.1⟩
theorem snoc_get {α : Type} {xs : List α} {v u : α} {i : Nat} (h : (xs ++ [v])[i]? = some u) : xs[i]? = some u ∨ (i = xs.length ∧ u = v) := by
  by_cases hi : i < xs.length
  · rw [List.getElem?_append_left hi] at h
    exact .inl h
  · rw [List.getElem?_append_right (by omega)] at h
    cases e : i - xs.length with
    | zero =>
      rw [e] at h
      exact .inr ⟨by omega, (Option.some.inj h).symm⟩
    | succ j => rw [e] at h; cases h
/-- the same, nobody's places by themselves -/
def R2 (p q : List (Option Nat)) (k : Nat) (acc : List V) (H : Hp) : Prop := acc.length = k ∧ ∀ (i : Nat) (v : V) (o : Option (Nat × Nat)), acc[i]? = some v → (pairL p q)[i]? = some o → PrV H v o
theorem lcR2 (p q : List (Option Nat)) (D : Addr) : LcR D (R2 p q) :=
  ⟨fun k acc H H' ys ⟨h1, h2⟩ eD k => ⟨h1, fun i v o e eo => by
    have z := h2 i v o e eo
    cases o with
    | none => exact z
    | some xy =>
      obtain ⟨t, rfl, ht⟩ := z
      exact ⟨t, rfl, k _ _ (fun z => by rw [z, eD] at ht; cases ht) ht⟩⟩, fun k acc H h => Nat.le_of_eq h.1⟩
def pairO : Option Nat → Option Nat → Option (Nat × Nat)
  | some x, some y => some (x, y)
  | _, _ => none
theorem pairL_at {p q : List (Option Nat)} {i : Nat} (h : i < p.length) : (pairL p q)[i]? = some (pairO (at_ p i) (at_ q i)) := by
  unfold pairL
  rw [List.getElem?_map, List.getElem?_range h]
  rfl
theorem pairL_len {p q : List (Option Nat)} : (pairL p q).length = p.length := by
  unfold pairL
  rw [List.length_map, List.length_range]
def joinL (p q : List (Option Nat)) : List (Option Nat) := num (mergeN p q q.length)
def meetL (p q : List (Option Nat)) : List (Option Nat) := num (pairL p q)
def spBin (CP CB : Addr) (op : List (Option Nat) → List (Option Nat) → List (Option Nat)) : Sp := fun vs H Q E => ∃ (x y : Addr) (p q : List (Option Nat)), vs = [.ref x, .ref y] ∧ PatAt CP H x p ∧ PatAt CP H y q ∧
  (Mask p q → ∀ (H' : Hp) (z : Addr), Same H H' → PatAt CP H' z (op p q) → Q (.ref z) H') ∧ (¬ Mask p q → ∀ (H' : Hp) (d : Addr), H d = none → H' d = some (.xd (stF (wordM p q))) → Same H H' → E (.ref CB) (some d) H')
theorem mE_fld {K : PySem.W.Frag} {t : TE} {f : Str} (h : MonoE t) : MonoE (tFld K t f) := fun _ _ _ _ g q => h _ _ _ _ (fun _ _ ⟨a, C, dx, fs, v, e1, e2, e3, e4, e5, q⟩ => ⟨a, C, dx, fs, v, e1, e2, e3, e4, e5, g _ _ q⟩) q
section
variable {P : Program} {w : World} {K : PySem.W.Frag} {mg : Str → Option Value} {base : Heap}
theorem ok_or {f fC fM fN fI CP CB CE : Addr} {fd fdC fdM fdN fdI : FuncData} (F : FunD K "__or__" "Pattern.__or__" (defArgs sOr) (defBody sOr) (defScope sOr) [] [] f fd) (T : PatC K CP) (dC : DfE P w K mg base "check_match" 3 ["one", "other"] (spCM CP CB) fC fdC)
    (dM : Df P w K mg base "_merged" 1 ["one", "other"] spMg fM fdM) (dN : Df P w K mg base "numbered" 1 ["values"] spNbI fN fdN) (M : PatMk P w K mg base CP CE fI fdI) : FnOk P w K mg base (L2.CX P w) 5 f fd ["self", "other"] (spBin CP CB joinL) := by
  have sc : FnScope ["self", "other"] ["self", "other"] (defScope sOr) := ⟨rfl, rfl, rfl, by decide +kernel, rfl, by decide +kernel, by decide +kernel⟩
  refine F.ok sc (fun vs H Q E h => ?_) (fun cdv A outer s H vs Q E hr h => ?_)
  · obtain ⟨x, y, p, q, rfl, _⟩ := h
    rfl
  · obtain ⟨x, y, p, q, rfl, hx, hy, q1, q0⟩ := h
    have hr1 := hr.mono (show 1 ≤ 4 by decide)
    have hr3 := hr.mono (show 3 ≤ 4 by decide)
    refine ⟨_, (pss_cons (ps_expr (pe_callS dC.ok hr3 (by rfl) dC.gl dC.kp dC.bi (fun σ => passAt (takes_of rfl rfl rfl rfl) σ) (pa_cons (pv 0) (pa_cons (pv 1) pa_nil))))
    (pss_one (ps_ret (pe_make M.mks M.ok hr (by rfl) M.gl M.bi .nil passX0 (pa_cons (pe_call dN.ok hr1 (by rfl) dN.gl dN.kp dN.bi .nil pass0 (pa_cons (pe_call dM.ok hr1 (by rfl) dM.gl dM.kp dM.bi .nil pass0 (pa_cons (pe_fld (pv 0) rfl) (pa_cons (pe_fld (pv 1) rfl) pa_nil))) pa_nil)) pa_nil))))), ?_⟩
    refine ⟨_, rfl, _, rfl, x, y, p, q, rfl, hx, hy, fun hM H1 s1 => ?_, q0⟩
    obtain ⟨dx, tx, cx, ex, etx, lx, _⟩ := hx.sm s1
    obtain ⟨dy, ty, cy, ey, ety, ly, _⟩ := hy.sm s1
    refine ⟨_, rfl, x, CP, dx, _, _, rfl, ex, T.cl, T.nE, rfl, _, rfl, y, CP, dy, _, _, rfl, ey, T.cl, T.nE, rfl, tx, ty, p, q, rfl, etx, ety, hM, lx, fun H2 z s2 _ hz => ?_⟩
    have lm : (mergeN p q q.length).length ≤ 40 := by rw [(mergeN_mask hM _).len]; exact ly
    refine ⟨z, _, rfl, hz, Nat.le_trans lm (by decide), fun H3 u s3 _ hu => ?_⟩
    exact pat_make (.inl hu) (Pt.nums _) (by rw [num_len]; exact lm) fun H4 v s4 hv => q1 hM H4 v (((s1.trans s2).trans s3).trans s4) hv
theorem ok_and {f fC fN fI CP CB CE : Addr} {fd fdC fdN fdI : FuncData} (F : FunD K "__and__" "Pattern.__and__" (defArgs sAnd) (defBody sAnd) (defScope sAnd) [] [] f fd) (T : PatC K CP) (z_enumerate : mg "enumerate" = none) (dC : DfE P w K mg base "check_match" 3 ["one", "other"] (spCM CP CB) fC fdC)
    (dN : Df P w K mg base "numbered" 1 ["values"] spNbT fN fdN) (M : PatMk P w K mg base CP CE fI fdI) : FnOk P w K mg base (L2.CX P w) 5 f fd ["self", "other"] (spBin CP CB meetL) := by
  have sc : FnScope ["self", "other", "pairs", "place", "entry", "pair"] ["self", "other"] (defScope sAnd) := ⟨rfl, rfl, rfl, by decide +kernel, rfl, by decide +kernel, by decide +kernel⟩
  refine F.ok sc (fun vs H Q E h => ?_) (fun cdv A outer s H vs Q E hr h => ?_)
  · obtain ⟨x, y, p, q, rfl, _⟩ := h
    rfl
  · obtain ⟨x, y, p, q, rfl, hx, hy, q1, q0⟩ := h
    have hr1 := hr.mono (show 1 ≤ 4 by decide)
    have hr3 := hr.mono (show 3 ≤ 4 by decide)
    refine ⟨_, (pss_cons (ps_expr (pe_callS dC.ok hr3 (by rfl) dC.gl dC.kp dC.bi (fun σ => passAt (takes_of rfl rfl rfl rfl) σ) (pa_cons (pv 0) (pa_cons (pv 1) pa_nil))))
    (pss_cons (ps_setLc (i := 2) (own := [("place", 3), ("entry", 4)]) (g := gTup K 2 (gCons (gName 3) (gCons (gName 4) gNil))) (tt := tYes) (te := tTup (tCons (tVar 4) (tCons (tOp (rIxT K) (tFld K (tVar 1) "entries") (tVar 3)) tNil))) rfl sc.nd rfl rfl (sw_true rfl rfl rfl (by decide +kernel)) (pi_enumT (by rfl) z_enumerate (pa_cons (pe_fld (pv 0) rfl) pa_nil) rfl) (blkOk_by (N := ["self", "other", "pairs", "place", "entry", "pair"]) (sc := defScope sAnd) (by decide +kernel)) (fun _ _ _ _ _ => pg_tup (by rfl) (pgs_cons (pg_name (i := 3) sc.nd rfl (Or.inl rfl)) (pgs_cons (pg_name (i := 4) sc.nd rfl (Or.inl rfl)) pgs_nil))) (fun _ _ _ _ _ => pts_nil) (fun _ _ _ _ _ => (pe_tup (pa_cons (pv 4) (pa_cons (pe_ix ix_tup (pe_fld (pv 1) rfl) (pv 3) (fun _ _ => rfl)) pa_nil)))))
    (pss_one (ps_ret (pe_make M.mks M.ok hr (by rfl) M.gl M.bi .nil passX0 (pa_cons (pe_call dN.ok hr1 (by rfl) dN.gl dN.kp dN.bi .nil pass0 (pa_cons (pe_lc (own := [("pair", 5)]) (g := gName 5) (tt := tYes) (te := tIf (tTest (tOp (fun x y H Q => y = V.non ∧ Q (V.bl (decide (x = V.non))) H) (tOp (rIxT K) (tVar 5) (tC (.int 0))) (tC .non))) (tC .non) (tVar 5)) rfl sc.nd (pi_list (pv 2)) (blkOk_by (N := ["self", "other", "pairs", "place", "entry", "pair"]) (sc := defScope sAnd) (by decide +kernel)) (fun _ _ _ _ _ => pg_name (i := 5) sc.nd rfl (Or.inl rfl)) (fun _ _ _ _ _ => pts_nil) (fun _ _ _ _ _ => (pe_ifExp (pt_cmpR op_isN (pe_ix ix_tup (pv 5) pe_int (fun _ _ => rfl)) pe_non (nomark _)) pe_non (pv 5)))) pa_nil)) pa_nil)))))), ?_⟩
    refine ⟨_, rfl, _, rfl, x, y, p, q, rfl, hx, hy, fun hM H1 s1 => ?_, q0⟩
    obtain ⟨dx, tx, cx, ex, etx, lx, _⟩ := hx.sm s1
    obtain ⟨dy, ty, cy, ey, ety, ly, _⟩ := hy.sm s1
    have lpq := hM.len
    refine ⟨_, rfl, x, CP, dx, _, _, rfl, ex, T.cl, T.nE, rfl, tx, _, rfl, SqT.of etx, fun D nD => lc_E (K := K) walk_enumT (R1 p q) (lcR1 p q D) nD (by rw [List.length_map]; exact Nat.lt_of_le_of_lt lx (by decide)) ⟨rfl, fun i v e => by cases e⟩ (fun H' s' => SqT.of (s' _ _ etx)) (fun _ _ => rfl) ?_ mT_yes (mE_tup (mA_cons mE_var (mA_cons (mE_op mR_ixT (mE_fld mE_var) mE_var) mA_nil))) ?_⟩
    · rintro i v acc H' ev s' eD ⟨r1, r2⟩
      rw [vals_get] at ev
      obtain ⟨o, eo, rfl⟩ := Option.map_eq_some_iff.mp ev
      have il : i < p.length := (List.getElem?_eq_some_iff.mp eo).1
      have eq_ : q[i]? = some (at_ q i) := at_get (by omega)
      refine ⟨Same.refl _, iteT ⟨_, rfl, _, rfl, y, CP, dy, _, _, rfl, s' _ _ ey, T.cl, T.nE, rfl, _, rfl, ty, _, (i : Int), optV (at_ q i), rfl, rfl, SqT.of (s' _ _ ety), atI_nat (by rw [vals_get, eq_]; rfl), (by show 2 ≤ sizeLine; decide), fun u nu => ⟨same_upd nu, by rw [List.length_append, r1]; rfl, fun j v' e => ?_⟩⟩⟩
      rcases snoc_get e with e | ⟨rfl, rfl⟩
      · obtain ⟨t, rfl, ht⟩ := r2 j v' e
        exact ⟨t, rfl, same_upd nu _ _ ht⟩
      · refine ⟨u, rfl, ?_⟩
        rw [r1, at_of eo]
        exact upd_same
    rintro H2 acc s2 eD ⟨r1, r2⟩
    rw [List.length_map] at r1
    refine ⟨_, rfl, D, rfl, ⟨_, SqL.of eD⟩, fun D2 nD2 => lc_N walk_list (R2 p q) (lcR2 p q D2) nD2 (by rw [r1]; exact Nat.lt_of_le_of_lt lx (by decide)) ⟨rfl, fun i v o e => by cases e⟩ (fun H' s' => SqL.of (s' _ _ eD)) (fun _ => rfl) ?_ mT_yes (mE_if (mT_test (mE_op mR_isN (mE_op mR_ixT mE_var mE_c) mE_c)) mE_c mE_var) ?_⟩
    · rintro i v acc2 H' ev s' eD2 ⟨k1, k2⟩
      have il : i < p.length := by rw [← r1]; exact (List.getElem?_eq_some_iff.mp ev).1
      obtain ⟨t, rfl, ht0⟩ := r2 i v ev
      have ht := s' _ _ ht0
      have eo : p[i]? = some (at_ p i) := at_get il
      have eq_ : q[i]? = some (at_ q i) := at_get (by omega)
      have m := hM.at_ i
      rw [eo, eq_] at m
      have m : (at_ p i).isSome = (at_ q i).isSome := Option.some.inj m
      have pl := pairL_at (q := q) il
      generalize at_ p i = oa at ht m pl
      generalize at_ q i = ob at ht m pl
      refine ⟨Same.refl _, iteT ⟨_, rfl, t, _, 0, optV oa, rfl, rfl, SqT.of ht, atI_nat (j := 0) rfl, rfl, _, rfl, ?_⟩⟩
      have ext : ∀ v', PrV H' v' (pairO oa ob) → R2 p q (i + 1) (acc2 ++ [v']) H' := fun v' hv' => ⟨by rw [List.length_append, k1]; rfl, fun j w o e eo' => by
        rcases snoc_get e with e | ⟨rfl, rfl⟩
        · exact k2 j w o e eo'
        · rw [k1, pl] at eo'
          cases eo'
          exact hv'⟩
      cases oa with
      | none => exact iteT ⟨Same.refl _, ext _ rfl⟩
      | some a =>
        cases ob with
        | none => cases m
        | some b => exact iteF ⟨_, rfl, Same.refl _, ext _ ⟨t, rfl, ht⟩⟩
    rintro H3 us s3 eD2 ⟨k1, k2⟩
    refine ⟨D2, us, pairL p q, rfl, eD2, ⟨by rw [k1, r1, pairL_len], k2⟩, by rw [pairL_len]; exact Nat.le_trans lx (by decide), fun H4 z s4 _ hz => ?_⟩
    exact pat_make (.inl hz) (Pt.nums _) (by rw [num_len, pairL_len]; exact lx) fun H5 v s5 hv => q1 hM H5 v ((((s1.trans s2).trans s3).trans s4).trans s5) hv
end
end K26

/-! finer; the number of classes; equal patterns -/
namespace K26
open PySem PySem.Spec PyProof.Rows L2
abbrev sCount : Stmt := inClass (top 11) 2
abbrev sPEq : Stmt := inClass (top 11) 10
/-- the number of classes -/
structure CountP (P : Program) (w : World) (K : PySem.W.Frag) (mg : Str → Option Value) (base : Heap) (CP p g : Addr) (fd : FuncData) : Prop where
  pr : PropOf K CP "class_count" p g
  ok : FnOk P w K mg base CX0 1 g fd ["self"] (getSp CP "_classes")
  bi : Binds K fd ["self"] []
def prs (p q : List (Option Nat)) (k : Nat) : List (Nat × Nat) := ((pairL p q).take k).filterMap id
def encP (xy : Nat × Nat) : List Int := [(xy.1 : Int), (xy.2 : Int)]
def decP : List Int → Nat × Nat
  | [x, y] => (x.toNat, y.toNat)
  | _ => (0, 0)
theorem dec_enc (xy : Nat × Nat) : decP (encP xy) = xy := by
  obtain ⟨x, y⟩ := xy
  rfl
theorem prs_step {p q : List (Option Nat)} {k : Nat} {o : Option (Nat × Nat)} (h : (pairL p q)[k]? = some o) : prs p q (k + 1) = prs p q k ++ (match o with | some xy => [xy] | none => []) := by
  unfold prs
  rw [take_snoc' h, List.filterMap_append]
  cases o <;> rfl
/-- pairs of classes, so far -/
def R3 (p q : List (Option Nat)) (k : Nat) (acc : List V) (H : Hp) : Prop := ∃ ks : List (Addr × List Int), acc = ks.map (fun p => V.ref p.1) ∧ ks.length ≤ k ∧ (∀ z ∈ ks, H z.1 = some (.tup (z.2.map V.int))) ∧ ks.map (·.2) = (prs p q k).map encP
theorem lcR3 (p q : List (Option Nat)) (D : Addr) : LcR D (R3 p q) :=
  ⟨fun k acc H H' ys ⟨ks, h1, h2, h3, h4⟩ eD k => ⟨ks, h1, h2, fun z hz => k _ _ (fun e => by have y := h3 z hz; rw [e, eD] at y; cases y) (h3 z hz), h4⟩, fun k acc H ⟨ks, h1, h2, _⟩ => by rw [h1, List.length_map]; exact h2⟩
theorem eqv_opts : ∀ l m : List (Option Nat), PyData.eqvAll (l.map datO) (m.map datO) = decide (l = m)
  | [], [] => rfl
  | [], _ :: _ => rfl
  | _ :: _, [] => rfl
  | a :: l, b :: m => by
    show (PyData.eqv (datO a) (datO b) && PyData.eqvAll (l.map datO) (m.map datO)) = _
    rw [eqv_opts l m]
    have e : PyData.eqv (datO a) (datO b) = decide (a = b) := by
      cases a with
      | none => cases b <;> rfl
      | some x =>
        cases b with
        | none => rfl
        | some y =>
          show ((x : Int) == (y : Int)) = _
          by_cases h : x = y
          · rw [h, decide_eq_true rfl]
            exact beq_self_eq_true _
          · rw [decide_eq_false (fun z => h (Option.some.inj z))]
            exact beq_false_of_ne (fun z => h (by omega))
    rw [e]
    by_cases h1 : a = b <;> by_cases h2 : l = m <;> simp [h1, h2]
theorem opts_depth : ∀ l : List (Option Nat), PyData.depthAll (l.map datO) = 0
  | [] => rfl
  | o :: l => by
    show max (datO o).depth (PyData.depthAll (l.map datO)) = 0
    rw [opts_depth l]
    cases o <;> rfl
theorem opts_lay : ∀ l : List (Option Nat), PyData.canLayAll0 (l.map datO) = true
  | [] => rfl
  | o :: l => Bool.and_eq_true_iff.mpr ⟨by cases o <;> rfl, opts_lay l⟩
theorem shaped_optT (l : List (Option Nat)) : SeqAt.shaped (.tuple (l.map datO)) = true := shaped_of (opts_lay l) (by show PyData.depthAll (l.map datO) + 1 ≤ 64; rw [opts_depth]; decide)
theorem shaped_optL (l : List (Option Nat)) : SeqAt.shaped (.list (l.map datO)) = true := shaped_of (opts_lay l) (by show PyData.depthAll (l.map datO) + 1 ≤ 64; rw [opts_depth]; decide)
theorem nodup_map_inj {α β : Type} {f : α → β} : ∀ {l : List α}, (∀ a ∈ l, ∀ b ∈ l, f a = f b → a = b) → l.Nodup → (l.map f).Nodup
  | [], _, _ => List.nodup_nil
  | x :: l, h, nd => by
    obtain ⟨h1, h2⟩ := List.nodup_cons.mp nd
    rw [List.map_cons, List.nodup_cons]
    refine ⟨fun z => ?_, nodup_map_inj (fun a ha b hb => h a (List.mem_cons_of_mem _ ha) b (List.mem_cons_of_mem _ hb)) h2⟩
    obtain ⟨b, hb, e⟩ := List.mem_map.mp z
    exact h1 ((h x List.mem_cons_self b (List.mem_cons_of_mem _ hb) e.symm) ▸ hb)
/-- as many pairs as classes -/
theorem count_set {p q : List (Option Nat)} {c : Nat} (hM : Mask p q) (hp : Pt p) (ec : cnt 0 (vals p) = some c) {ks L : List (Addr × List Int)} (hk : ks.map (·.2) = (prs p q p.length).map encP) (h1 : ∀ z ∈ L, z ∈ ks) (h2 : ∀ z ∈ ks, z.2 ∈ L.map (·.2)) (nd : (L.map (·.2)).Nodup) :
    L.length = c ↔ Finer p q := by
  have mem : ∀ xy : Nat × Nat, xy ∈ prs p q p.length ↔ ∃ i : Nat, p[i]? = some (some xy.1) ∧ q[i]? = some (some xy.2) := fun ⟨x, y⟩ => by
    unfold prs
    rw [List.take_of_length_le (by rw [pairL_len]; exact Nat.le_refl _), List.mem_filterMap]
    constructor
    · rintro ⟨o, ho, e⟩
      obtain ⟨i, hi⟩ := List.mem_iff_getElem?.mp ho
      have e : o = some (x, y) := e
      rw [e] at hi
      exact ⟨i, (pair_at hM).mp hi⟩
    · rintro ⟨i, a, b⟩
      exact ⟨some (x, y), List.mem_iff_getElem?.mpr ⟨i, (pair_at hM).mpr ⟨a, b⟩⟩, rfl⟩
  have enc : ∀ z ∈ ks, ∃ xy ∈ prs p q p.length, z.2 = encP xy := fun z hz => by
    have y : z.2 ∈ ks.map (·.2) := List.mem_map.mpr ⟨z, hz, rfl⟩
    rw [hk] at y
    obtain ⟨xy, h, e⟩ := List.mem_map.mp y
    exact ⟨xy, h, e.symm⟩
  have e : (L.map fun z => decP z.2).length = L.length := List.length_map ..
  rw [← e]
  refine count_finer hM (hp.classes ec) ?_ fun x y => ?_
  · have e2 : (L.map fun z => decP z.2) = (L.map (·.2)).map decP := by rw [List.map_map]; rfl
    rw [e2]
    have inj : ∀ a ∈ L.map (·.2), ∀ b ∈ L.map (·.2), decP a = decP b → a = b := fun a ha b hb h => by
      obtain ⟨z, hz, rfl⟩ := List.mem_map.mp ha
      obtain ⟨z', hz', rfl⟩ := List.mem_map.mp hb
      obtain ⟨xy, _, e1⟩ := enc z (h1 z hz)
      obtain ⟨xy', _, e2⟩ := enc z' (h1 z' hz')
      rw [e1, e2, dec_enc, dec_enc] at h
      rw [e1, e2, h]
    exact nodup_map_inj inj nd
  · rw [List.mem_map]
    constructor
    · rintro ⟨z, hz, ez⟩
      obtain ⟨xy, hxy, e1⟩ := enc z (h1 z hz)
      rw [e1, dec_enc] at ez
      rw [ez] at hxy
      exact (mem (x, y)).mp hxy
    · intro h
      have hxy := (mem (x, y)).mpr h
      have y1 : encP (x, y) ∈ ks.map (·.2) := by rw [hk]; exact List.mem_map.mpr ⟨_, hxy, rfl⟩
      obtain ⟨z, hz, ez⟩ := List.mem_map.mp y1
      obtain ⟨z', hz', ez'⟩ := List.mem_map.mp (h2 z hz)
      exact ⟨z', hz', by rw [ez', ez, dec_enc]⟩
def spFin (CP CB : Addr) : Sp := fun vs H Q E => ∃ (x y : Addr) (p q : List (Option Nat)), vs = [.ref x, .ref y] ∧ PatAt CP H x p ∧ PatAt CP H y q ∧
  (Mask p q → ∀ (b : Bool) (H' : Hp), Same H H' → (b = true ↔ Finer p q) → Q (.bl b) H') ∧ (¬ Mask p q → ∀ (H' : Hp) (d : Addr), H d = none → H' d = some (.xd (stF (wordM p q))) → Same H H' → E (.ref CB) (some d) H')
def spPEq (CP : Addr) : Sp := fun vs H Q _ => ∃ (x y : Addr) (p q : List (Option Nat)), vs = [.ref x, .ref y] ∧ PatAt CP H x p ∧ PatAt CP H y q ∧ Q (.bl (decide (p = q))) H
section
variable {P : Program} {w : World} {K : PySem.W.Frag} {mg : Str → Option Value} {base : Heap}
theorem ok_count {f CP : Addr} {fd : FuncData} (F : FunD K "class_count" "Pattern.class_count" (defArgs sCount) (defBody sCount) (defScope sCount) [] [] f fd) (T : PatC K CP) : FnOk P w K mg base CX0 1 f fd ["self"] (getSp CP "_classes") := by
  have sc : FnScope ["self"] ["self"] (defScope sCount) := ⟨rfl, rfl, rfl, by decide +kernel, rfl, by decide +kernel, by decide +kernel⟩
  refine F.ok sc (fun vs H Q E h => ?_) (fun cdv A outer s H vs Q E hr h => ?_)
  · obtain ⟨a, dx, fs, v, rfl, _⟩ := h
    rfl
  · obtain ⟨a, dx, fs, v, rfl, ea, l, q⟩ := h
    refine ⟨_, PSs.nox (pss_one (ps_ret (pe_fld (pv 0) rfl))), ?_⟩
    exact ⟨_, rfl, a, CP, dx, fs, v, rfl, ea, T.cl, T.nC, l, q⟩
theorem ok_peq {f CP : Addr} {fd : FuncData} (F : FunD K "__eq__" "Pattern.__eq__" (defArgs sPEq) (defBody sPEq) (defScope sPEq) [] [] f fd) (T : PatC K CP) (z_type : mg "type" = none) : FnOk P w K mg base CX0 1 f fd ["self", "other"] (spPEq CP) := by
  have sc : FnScope ["self", "other"] ["self", "other"] (defScope sPEq) := ⟨rfl, rfl, rfl, by decide +kernel, rfl, by decide +kernel, by decide +kernel⟩
  refine F.ok sc (fun vs H Q E h => ?_) (fun cdv A outer s H vs Q E hr h => ?_)
  · obtain ⟨x, y, p, q, rfl, _⟩ := h
    rfl
  · obtain ⟨x, y, p, q, rfl, ⟨dx, tx, cx, ex, etx, _⟩, ⟨dy, ty, cy, ey, ety, _⟩, k⟩ := h
    refine ⟨_, PSs.nox (pss_one (ps_ret (pe_and (pe_cmpR op_is_cls (pe_callTy cr_type (by rfl) z_type (by decide +kernel) (pa_cons (pv 0) pa_nil)) (pe_callTy cr_type (by rfl) z_type (by decide +kernel) (pa_cons (pv 1) pa_nil)) (nomark _)) (pe_one (pe_cmpR (op_eqD hr.units) (pe_fld (pv 0) rfl) (pe_fld (pv 1) rfl) (nomark _)))))), ?_⟩
    refine ⟨_, rfl, x, CP, dx, _, rfl, ex, _, rfl, y, CP, dy, _, rfl, ey, CP, CP, rfl, rfl, .inl rfl, ?_⟩
    rw [decide_eq_true rfl]
    refine ⟨_, rfl, iteT ?_⟩
    refine ⟨_, rfl, x, CP, dx, _, _, rfl, ex, T.cl, T.nE, rfl, _, rfl, y, CP, dy, _, _, rfl, ey, T.cl, T.nE, rfl, _, _, (Dt.tup (S := Any) trivial etx (dt_vals p)).dp, (Dt.tup (S := Any) trivial ety (dt_vals q)).dp, shaped_optT p, shaped_optT q, ?_⟩
    show Q (.bl (PyData.eqvAll (p.map datO) (q.map datO))) H
    rw [eqv_opts]
    exact k
theorem ok_fin {f fC pG fG CP CB : Addr} {fd fdC fdG : FuncData} (F : FnP K "is_finer" sPIsFiner f fd) (T : PatC K CP) (z_enumerate : mg "enumerate" = none) (z_len : mg "len" = none) (z_set : mg "set" = none) (dC : DfE P w K mg base "check_match" 3 ["one", "other"] (spCM CP CB) fC fdC)
    (PR : CountP P w K mg base CP pG fG fdG) : FnOk P w K mg base (L2.CX P w) 4 f fd ["one", "other"] (spFin CP CB) := by
  have sc : FnScope ["one", "other", "pairs", "place", "entry"] ["one", "other"] (defScope sPIsFiner) := ⟨rfl, rfl, rfl, by decide +kernel, rfl, by decide +kernel, by decide +kernel⟩
  refine F.ok sc (fun vs H Q E h => ?_) (fun cdv A outer s H vs Q E hr h => ?_)
  · obtain ⟨x, y, p, q, rfl, _⟩ := h
    rfl
  · obtain ⟨x, y, p, q, rfl, hx, hy, q1, q0⟩ := h
    have hr2 := hr.mono (show 2 ≤ 3 by decide)
    have hr3 := hr.mono (show 3 ≤ 3 by decide)
    refine ⟨_, (pss_cons (ps_expr (pe_callS dC.ok hr3 (by rfl) dC.gl dC.kp dC.bi (fun σ => passAt (takes_of rfl rfl rfl rfl) σ) (pa_cons (pv 0) (pa_cons (pv 1) pa_nil))))
    (pss_cons (ps_setLc (i := 2) (own := [("place", 3), ("entry", 4)]) (g := gTup K 2 (gCons (gName 3) (gCons (gName 4) gNil))) (tt := tTest (tOp (fun x y H Q => y = V.non ∧ Q (V.bl !decide (x = V.non)) H) (tVar 4) (tC .non))) (te := tTup (tCons (tVar 4) (tCons (tOp (rIxT K) (tFld K (tVar 1) "entries") (tVar 3)) tNil))) rfl sc.nd rfl rfl (sw_true rfl rfl rfl (by decide +kernel)) (pi_enumT (by rfl) z_enumerate (pa_cons (pe_fld (pv 0) rfl) pa_nil) rfl) (blkOk_by (N := ["one", "other", "pairs", "place", "entry"]) (sc := defScope sPIsFiner) (by decide +kernel)) (fun _ _ _ _ _ => pg_tup (by rfl) (pgs_cons (pg_name (i := 3) sc.nd rfl (Or.inl rfl)) (pgs_cons (pg_name (i := 4) sc.nd rfl (Or.inl rfl)) pgs_nil))) (fun _ _ _ _ _ => pts_one (pt_cmpR op_notN (pv 4) pe_non (nomark _))) (fun _ _ _ _ _ => (pe_tup (pa_cons (pv 4) (pa_cons (pe_ix ix_tup (pe_fld (pv 1) rfl) (pv 3) (fun _ _ => rfl)) pa_nil)))))
    (pss_one (ps_ret (pe_cmpR op_eq (pe_callB call_lenT (by rfl) z_len boot_len (pa_cons (pe_callTy (cr_setOfT rfl hr.units) (by rfl) z_set (by decide +kernel) (pa_cons (pv 2) pa_nil)) pa_nil)) (pe_prop (pv 0) T.cl PR.pr PR.ok hr2 PR.bi .nil pass0 rfl) (nomark _)))))), ?_⟩
    refine ⟨_, rfl, _, rfl, x, y, p, q, rfl, hx, hy, fun hM H1 s1 => ?_, q0⟩
    have hp := hx.pt
    obtain ⟨dx, tx, cx, ex, etx, lx, ecx⟩ := hx.sm s1
    obtain ⟨dy, ty, cy, ey, ety, ly, _⟩ := hy.sm s1
    have lpq := hM.len
    refine ⟨_, rfl, x, CP, dx, _, _, rfl, ex, T.cl, T.nE, rfl, tx, _, rfl, SqT.of etx, fun D nD => lc_E (K := K) walk_enumT (R3 p q) (lcR3 p q D) nD (by rw [List.length_map]; exact Nat.lt_of_le_of_lt lx (by decide)) ⟨[], rfl, Nat.le_refl _, (fun z hz => by cases hz), rfl⟩ (fun H' s' => SqT.of (s' _ _ etx)) (fun _ _ => rfl) ?_ (mT_test (mE_op mR_isN mE_var mE_c)) (mE_tup (mA_cons mE_var (mA_cons (mE_op mR_ixT (mE_fld mE_var) mE_var) mA_nil))) ?_⟩
    · rintro i v acc H' ev s' eD ⟨ks, r1, r2, r3, r4⟩
      rw [vals_get] at ev
      obtain ⟨o, eo, rfl⟩ := Option.map_eq_some_iff.mp ev
      have il : i < p.length := (List.getElem?_eq_some_iff.mp eo).1
      have eq_ : q[i]? = some (at_ q i) := at_get (by omega)
      have pl := pairL_at (q := q) il
      rw [at_of eo] at pl
      have m := hM.at_ i
      rw [eo, eq_] at m
      have m : o.isSome = (at_ q i).isSome := Option.some.inj m
      generalize at_ q i = ob at pl eq_ m
      have st := prs_step pl
      cases o with
      | none =>
        refine ⟨_, rfl, rfl, _, rfl, Same.refl _, iteF ⟨ks, r1, Nat.le_succ_of_le r2, r3, ?_⟩⟩
        rw [st]
        show _ = (prs p q i ++ []).map encP
        rw [List.append_nil]
        exact r4
      | some a =>
        cases ob with
        | none => cases m
        | some b =>
          refine ⟨_, rfl, rfl, _, rfl, Same.refl _, iteT ?_⟩
          refine ⟨_, rfl, _, rfl, y, CP, dy, _, _, rfl, s' _ _ ey, T.cl, T.nE, rfl, _, rfl, ty, _, (i : Int), optV (some b), rfl, rfl, SqT.of (s' _ _ ety), atI_nat (by rw [vals_get, eq_]; rfl), (by show 2 ≤ sizeLine; decide), fun u nu => ⟨same_upd nu, ks ++ [(u, encP (a, b))], ?_, ?_, fun z hz => ?_, ?_⟩⟩
          · rw [r1, List.map_append]
            rfl
          · rw [List.length_append]
            exact Nat.succ_le_succ r2
          · rcases List.mem_append.mp hz with hz | hz
            · exact same_upd nu _ _ (r3 z hz)
            · rw [List.mem_singleton.mp hz]
              exact upd_same
          · rw [st, List.map_append, List.map_append, r4]
            rfl
    rintro H2 acc s2 eD ⟨ks, r1, r2, r3, r4⟩
    rw [r1] at eD
    rw [List.length_map] at r2 r4
    refine ⟨_, rfl, D, ks, rfl, SqL.of eD, fun z hz => SqT.of (r3 z hz), by omega, fun a L na h1 h2 => ?_⟩
    have sa := same_upd (o := SetTO P w a L) na
    refine ⟨a, L, rfl, upd_same, fun z hz => SqT.of (sa _ _ (r3 z (h1 z hz))), fun nd few => ?_⟩
    refine ⟨_, rfl, x, dx, _, rfl, sa _ _ (s2 _ _ ex), x, dx, _, _, rfl, sa _ _ (s2 _ _ ex), rfl, rfl, ?_⟩
    refine q1 hM _ _ ((s1.trans s2).trans sa) ?_
    rw [decide_eq_true_iff, ← count_set hM hp ecx r4 h1 h2 nd]
    exact ⟨fun h => by have := V.int.inj h; omega, fun h => by rw [h]⟩
end
end K26

/-! the law's own numbers -/
namespace K26
open PySem PySem.Spec PyProof.Rows L2
/-- things that the law numbers, as data -/
structure EncD {α : Type} [DecidableEq α] (f : α → PyData) : Prop where
  eq : ∀ a b, PyData.eqv (f a) (f b) = decide (a = b)
  lay : ∀ a, (f a).canLay0 = true
  dep : ∀ a, (f a).depth ≤ 8
  nn : ∀ a, f a ≠ .none
def ThV {α : Type} (f : α → PyData) (H : Hp) (v : V) : Option α → Prop
  | none => v = .non
  | some x => Dt Any H v (f x)
def spNums {α : Type} [DecidableEq α] (f : α → PyData) : Sp := fun vs H Q _ => ∃ (a : Addr) (us : List V) (l : List (Option α)), vs = [.ref a] ∧ H a = some (.lst us) ∧ us.length = l.length ∧ (∀ (i : Nat) (v : V) (o : Option α), us[i]? = some v → l[i]? = some o → ThV f H v o) ∧ l.length ≤ 64 ∧
  ∀ (H' : Hp) (z : Addr), Same H H' → H z = none → H' z = some (.lst (vals (num l))) → Q (.ref z) H'
theorem encI : EncD fun n : Nat => PyData.int (n : Int) := ⟨fun a b => by
  show ((a : Int) == (b : Int)) = _
  by_cases h : a = b
  · rw [h, decide_eq_true rfl]
    exact beq_self_eq_true _
  · rw [decide_eq_false h]
    exact beq_false_of_ne (fun z => h (by omega)), fun _ => rfl, fun _ => Nat.zero_le _, fun _ z => by cases z⟩
def datP (xy : Nat × Nat) : PyData := .tuple [.int (xy.1 : Int), .int (xy.2 : Int)]
theorem encPr : EncD datP := ⟨fun a b => by
  obtain ⟨a1, a2⟩ := a
  obtain ⟨b1, b2⟩ := b
  show (((a1 : Int) == (b1 : Int)) && (((a2 : Int) == (b2 : Int)) && true)) = _
  have e : ∀ x y : Nat, ((x : Int) == (y : Int)) = decide (x = y) := fun x y => encI.eq x y
  rw [e, e, Bool.and_true]
  by_cases h1 : a1 = b1 <;> by_cases h2 : a2 = b2 <;> simp [h1, h2], fun _ => rfl, fun _ => by show 1 ≤ 8; decide, fun _ z => by cases z⟩
theorem any_enc {α : Type} [DecidableEq α] {e : α → PyData} (he : EncD e) (x : α) : ∀ met : List α, ((met.map e).any fun z => PyData.eqv z (e x)) = decide (x ∈ met)
  | [] => rfl
  | y :: met => by
    show (PyData.eqv (e y) (e x) || (met.map e).any fun z => PyData.eqv z (e x)) = _
    rw [any_enc he x met, he.eq]
    by_cases h : y = x
    · subst h
      rw [decide_eq_true rfl, Bool.true_or]
      exact (decide_eq_true List.mem_cons_self).symm
    · rw [decide_eq_false h, Bool.false_or]
      exact decide_eq_decide.mpr ⟨fun z => List.mem_cons_of_mem _ z, fun z => (List.mem_cons.mp z).elim (fun e => absurd e.symm h) id⟩
theorem lay_all : ∀ {ds : List PyData}, (∀ d ∈ ds, d.canLay0 = true) → PyData.canLayAll0 ds = true
  | [], _ => rfl
  | d :: ds, h => Bool.and_eq_true_iff.mpr ⟨h d List.mem_cons_self, lay_all fun x hx => h x (List.mem_cons_of_mem _ hx)⟩
theorem dep_all {n : Nat} : ∀ {ds : List PyData}, (∀ d ∈ ds, d.depth ≤ n) → PyData.depthAll ds ≤ n
  | [], _ => Nat.zero_le _
  | d :: ds, h => Nat.max_le.mpr ⟨h d List.mem_cons_self, dep_all fun x hx => h x (List.mem_cons_of_mem _ hx)⟩
theorem shaped_enc {α : Type} [DecidableEq α] {e : α → PyData} (he : EncD e) (met : List α) : SeqAt.shaped (.list (met.map e)) = true :=
  shaped_of (lay_all fun d hd => by obtain ⟨x, _, rfl⟩ := List.mem_map.mp hd; exact he.lay x) (by
    show PyData.depthAll (met.map e) + 1 ≤ 64
    have : PyData.depthAll (met.map e) ≤ 8 := dep_all fun d hd => by obtain ⟨x, _, rfl⟩ := List.mem_map.mp hd; exact he.dep x
    omega)
theorem shaped_one {α : Type} [DecidableEq α] {e : α → PyData} (he : EncD e) (x : α) : SeqAt.shaped (e x) = true := shaped_of (he.lay x) (Nat.le_trans (he.dep x) (by decide))
/-- what is asked of index -/
theorem index_of {α : Type} [DecidableEq α] {e : α → PyData} (he : EncD e) {K : PySem.W.Frag} {H : Hp} {m : Addr} {ws : List V} {v : V} {met : List α} {x : α} {Q : VK} (hm : H m = some (.lst ws)) (hw : DtAll Any H ws (met.map e)) (hv : Dt Any H v (e x)) (hx : x ∈ met) (q : Q (.int ((met.idxOf x : Nat) : Int)) H) :
    rIndexD K (.ref m) [v] H Q := by
  have il := List.idxOf_lt_length_of_mem hx
  refine ⟨m, v, e x, met.map e, met.idxOf x, e x, rfl, rfl, (Dt.lst (S := Any) trivial hm hw).dp, hv.dp, shaped_enc he met, shaped_one he x, by rw [List.getElem?_map, idx_of hx]; rfl, by rw [he.eq]; exact decide_eq_true rfl, fun k z hk ez => ?_, q⟩
  rw [List.getElem?_map] at ez
  obtain ⟨y, ey, rfl⟩ := Option.map_eq_some_iff.mp ez
  rw [he.eq]
  refine decide_eq_false fun h => ?_
  subst h
  have z := List.not_of_lt_findIdx (p := (· == y)) (xs := met) (i := k) hk
  obtain ⟨hkl, ek⟩ := List.getElem?_eq_some_iff.mp ey
  rw [ek] at z
  simp at z
section
variable {P : Program} {w : World} {K : PySem.W.Frag} {mg : Str → Option Value} {base : Heap}
theorem ok_nums {α : Type} [DecidableEq α] {e : α → PyData} (he : EncD e) {f : Addr} {fd : FuncData} (F : FnP K "_law_numbers" sNumbers f fd) : FnOk P w K mg base CX0 1 f fd ["_law_things"] (spNums e) := by
  have sc : FnScope ["_law_things", "_law_met", "_law_found", "_law_thing"] ["_law_things"] (defScope sNumbers) := ⟨rfl, rfl, rfl, by decide +kernel, rfl, by decide +kernel, by decide +kernel⟩
  refine F.ok sc (fun vs H Q E h => ?_) (fun cdv A outer s H vs Q E hr h => ?_)
  · obtain ⟨a, us, l, rfl, _⟩ := h
    rfl
  · obtain ⟨a, us, l, rfl, ha, hl, hp, h64, q⟩ := h
    have hu65 : (A.deeper (envOfC "_law_numbers" (defScope sNumbers) s.heap.objs.size f cdv)).units + 65 < cLine := by have := hr.un; omega
    refine ⟨_, PSs.nox (pss_cons (ps_par (i := 1) (j := 2) rfl sc.nd rfl rfl (by decide) rfl rfl (pa_cons (pe_lst pa_nil) (pa_cons (pe_lst pa_nil) pa_nil)) rfl)
    (pss_cons (ps_for PassesOwn.never rfl (pi_list (pv 0)) (pg_name (i := 3) sc.nd rfl (.inl rfl))
      (pss_cons (ps_if (PW.pt (pw_and (pt_cmpR op_notN (pv 3) pe_non (nomark _)) (pw_and1 (pt_cmpR (op_notInD hu65) (pv 3) (pv 1) (by rfl)))))
        (pss_one (ps_expr (pe_bm PySem.F.plainAttrs_list PySem.F.slot_list_append PySem.F.type_list_append mt_append (pv 1) (pa_cons (pv 3) pa_nil))))
        pss_nil)
      (pss_one (ps_expr (pe_bm PySem.F.plainAttrs_list PySem.F.slot_list_append PySem.F.type_list_append mt_append (pv 2) (pa_cons (pe_ifExp (pt_cmpR op_isN (pv 3) pe_non (nomark _)) pe_non (pe_bm PySem.F.plainAttrs_list PySem.F.slot_list_index PySem.F.type_list_index (mt_indexD hu65) (pv 1) (pa_cons (pv 3) pa_nil))) pa_nil))))))
    (pss_one (ps_ret (pv 2))))), ?_⟩
    refine ⟨(by show 0 ≤ sizeLine; decide), fun m nm => ⟨(by show 0 ≤ sizeLine; decide), fun g ng => ⟨_, _, rfl, ?_⟩⟩⟩
    have sm := same_upd (o := .lst []) nm
    have sg := same_upd (o := .lst []) ng
    have mg_ : m ≠ g := ne_of_none upd_same ng
    have ng0 : H g = none := by rw [upd_ne (Ne.symm mg_)] at ng; exact ng
    refine ⟨_, rfl, a, rfl, ⟨_, SqL.of (sg _ _ (sm _ _ ha))⟩, for_it walk_list (fun i σ H' => ∃ (met : List α) (ws : List V) (x3 : Option V), σ = [some (.ref a), some (.ref m), some (.ref g), x3] ∧ numA met (l.drop i) = (num l).drop i ∧ met.length ≤ i ∧ H' m = some (.lst ws) ∧ DtAll Any H ws (met.map e) ∧ H' g = some (.lst (vals ((num l).take i))) ∧ Same H H')
      ⟨[], [], none, rfl, rfl, Nat.le_refl _, sg _ _ upd_same, .nil, upd_same, sm.trans sg⟩ (fun i σ H' _ ⟨_, _, _, _, _, _, _, _, _, s'⟩ => SqL.of (s' _ _ ha)) ?_ ?_⟩
    · rintro i y σ H1 H2 hi ⟨met, ws, x3, rfl, en, ml, hm, hw, hg, s1⟩ ⟨rfl, ev⟩
      have il : i < l.length := by rw [← hl]; exact hi
      obtain ⟨o, eo⟩ : ∃ o, l[i]? = some o := ⟨_, List.getElem?_eq_getElem il⟩
      have pv_ := hp i y o ev eo
      obtain ⟨t1, t2⟩ := num_turn en eo
      have few : (vals ((num l).take i)).length < sizeLine := by
        rw [List.length_map]
        exact Nat.lt_of_le_of_lt (Nat.le_trans (List.length_take_le _ _) (Nat.le_trans (Nat.le_of_lt il) h64)) (by decide)
      have fin : ∀ (H3 : Hp) (ws' : List V), H3 m = some (.lst ws') → DtAll Any H ws' ((metN met o).map e) → H3 g = some (.lst (vals ((num l).take i))) → Same H H3 →
          ∃ (met' : List α) (ws : List V) (x3 : Option V), [some (V.ref a), some (.ref m), some (.ref g), some y] = [some (V.ref a), some (.ref m), some (.ref g), x3] ∧ numA met' (l.drop (i + 1)) = (num l).drop (i + 1) ∧ met'.length ≤ i + 1 ∧ (upd H3 g (.lst (vals ((num l).take i) ++ [optV (oneN met o)]))) m = some (.lst ws) ∧ DtAll Any H ws (met'.map e) ∧ (upd H3 g (.lst (vals ((num l).take i) ++ [optV (oneN met o)]))) g = some (.lst (vals ((num l).take (i + 1)))) ∧ Same H (upd H3 g (.lst (vals ((num l).take i) ++ [optV (oneN met o)]))) := fun H3 ws' h1 h2 h3 h4 =>
        ⟨metN met o, ws', _, rfl, t2, Nat.le_trans (metN_len met o) (Nat.succ_le_succ ml), by rw [upd_ne mg_]; exact h1, h2, by rw [upd_same, take_snoc' t1, vals_app]; rfl, fun b u eb => by rw [upd_ne (ne_of_none eb ng0)]; exact h4 _ _ eb⟩
      have few2 : ws.length < sizeLine := by
        rw [hw.len, List.length_map]
        exact Nat.lt_of_le_of_lt (Nat.le_trans ml (Nat.le_trans (Nat.le_of_lt il) h64)) (by decide)
      cases o with
      | none =>
        obtain rfl : y = .non := pv_
        refine ⟨_, rfl, rfl, _, rfl, iteF (iteF ?_)⟩
        refine ⟨_, rfl, .inl ⟨rfl, _, SqL.of hg⟩, _, rfl, rfl, _, rfl, iteT ?_⟩
        exact ⟨g, _, .non, rfl, rfl, hg, few, fin H2 ws hm hw hg s1⟩
      | some x =>
        have hv : Dt Any H y (e x) := pv_
        have ny : decide (y = V.non) = false := decide_eq_false fun z => by
          rw [z] at hv
          have z2 : ∀ d, Dt Any H .non d → d = .none := fun d h => by cases h; rfl
          exact he.nn x (z2 _ hv)
        have hv1 := hv.same s1
        have hw1 := hw.same s1
        refine ⟨_, rfl, rfl, _, rfl, ?_⟩
        rw [ny]
        refine iteT ⟨_, rfl, _, rfl, e x, met.map e, hv1.dp, (Dt.lst (S := Any) trivial hm hw1).dp, shaped_one he x, shaped_enc he met, _, rfl, ?_⟩
        rw [any_enc he]
        have rest : ∀ (H3 : Hp) (ws' : List V), H3 m = some (.lst ws') → DtAll Any H ws' ((metN met (some x)).map e) → H3 g = some (.lst (vals ((num l).take i))) → Same H H3 → tDrop (tBM K "list" rAppend (tVar 2) (tCons (tIf (tTest (tOp (fun x y H Q => y = V.non ∧ Q (V.bl (decide (x = V.non))) H) (tVar 3) (tC V.non))) (tC V.non) (tBM K "list" (rIndexD K) (tVar 1) (tCons (tVar 3) tNil))) tNil))
            { nx := fun σ H' => ∃ (met' : List α) (ws : List V) (x3 : Option V), σ = [some (V.ref a), some (.ref m), some (.ref g), x3] ∧ numA met' (l.drop (i + 1)) = (num l).drop (i + 1) ∧ met'.length ≤ i + 1 ∧ H' m = some (.lst ws) ∧ DtAll Any H ws (met'.map e) ∧ H' g = some (.lst (vals ((num l).take (i + 1)))) ∧ Same H H', rt := Q } [some (V.ref a), some (.ref m), some (.ref g), some y] H3 := fun H3 ws' h1 h2 h3 h4 => by
          have hx : x ∈ metN met (some x) := by
            show x ∈ (if x ∈ met then met else met ++ [x])
            split
            · assumption
            · simp
          have on_ : oneN met (some x) = some ((metN met (some x)).idxOf x) := by
            have z := get_met (f := fun z : α => z) (fun _ _ z => z) met x
            rw [valV_encM (fun _ _ z => z), if_pos hx, Nat.zero_add] at z
            exact optV_inj (Option.some.inj z).symm
          refine ⟨_, rfl, .inl ⟨rfl, _, SqL.of h3⟩, _, rfl, rfl, _, rfl, ?_⟩
          rw [ny]
          refine iteF ⟨_, rfl, .inl ⟨rfl, _, SqL.of h1⟩, _, rfl, ?_⟩
          dsimp only [tNil]
          refine index_of he h1 (h2.same h4) (hv.same h4) hx ?_
          refine ⟨g, _, _, rfl, rfl, h3, few, ?_⟩
          have z := fin H3 ws' h1 h2 h3 h4
          rw [on_] at z
          exact z
        by_cases hx : x ∈ met
        · rw [decide_eq_true hx]
          have em : metN met (some x) = met := if_pos hx
          exact iteF (rest H2 ws hm (by rw [em]; exact hw) hg s1)
        · rw [decide_eq_false hx]
          have em : metN met (some x) = met ++ [x] := if_neg hx
          refine iteT ⟨_, rfl, .inl ⟨rfl, _, SqL.of hm⟩, _, rfl, m, _, _, rfl, rfl, hm, few2, ?_⟩
          refine rest _ (ws ++ [y]) upd_same (by rw [em, List.map_append]; exact hw.app (.cons hv .nil)) ((upd_ne (Ne.symm mg_)).trans hg) fun b u eb => ?_
          rw [upd_ne (ne_of_none eb nm)]
          exact s1 _ _ eb
    · rintro σ H1 ⟨met, ws, x3, rfl, _, _, _, _, hg, s1⟩
      refine ⟨_, rfl, q H1 g s1 ng0 ?_⟩
      rw [hg, hl, List.take_of_length_le (by rw [num_len]; exact Nat.le_refl _)]
end
end K26

/-! where nobody stands: drawn; a pattern on it: drawn -/
namespace K26
open PySem PySem.Spec PyProof.Rows L2
theorem kput {p D : Addr} {H H1 : Hp} {o : HO} (nD : H D = none) (k : Kept p H H1) : Kept p H (upd H1 D o) := fun a x na e => (upd_ne (ne_of_none e nD)).trans (k a x na e)
def spMask : Sp := fun vs H Q _ => ∃ (p l : Addr), vs = [.ref p] ∧ Hand p l H ∧ ∀ (H' : Hp) (a : Addr) (mask : List Bool), Kept p H H' → Hand p l H' → H a = none → H' a = some (.lst (mask.map V.bl)) → mask.length ≤ 40 → Q (.ref a) H'
section
variable {P : Program} {w : World} {K : PySem.W.Frag} {mg : Str → Option Value} {base : Heap}
theorem ok_mask {f fD fP : Addr} {fd fdD fdP : FuncData} (F : FnP K "_law_mask" sMask f fd) (z_range : mg "range" = none) (dD : Df P w K mg base "_law_draw" 2 ["_law_hand_here", "_law_many"] spDr fD fdD) (dP : Df P w K mg base "_law_pick" 3 ["_law_hand_here", "_law_things"] spPk fP fdP) : FnOk P w K mg base CX0 4 f fd ["_law_hand_here"] spMask := by
  have sc : FnScope ["_law_hand_here", "_law_kind", "_law_size", "_law_odds", "_law_k"] ["_law_hand_here"] (defScope sMask) := ⟨rfl, rfl, rfl, by decide +kernel, rfl, by decide +kernel, by decide +kernel⟩
  refine F.ok sc (fun vs H Q E h => ?_) (fun cdv A outer s H vs Q E hr h => ?_)
  · obtain ⟨p, l, rfl, _⟩ := h
    rfl
  · obtain ⟨p, l, rfl, hp, q⟩ := h
    have hr3 := hr
    have hr2 := hr.mono (show 2 ≤ 3 by decide)
    refine ⟨_, PSs.nox (pss_cons (ps_set (i := 1) sc.nd rfl (.inl rfl) (pe_call dD.ok hr2 (by rfl) dD.gl dD.kp dD.bi .nil pass0 (pa_cons (pv 0) (pa_cons pe_int pa_nil))))
    (pss_cons (ps_set (i := 2) sc.nd rfl (.inl rfl) (pe_ifExp (pt_cmpR op_eq (pv 1) pe_int (nomark _)) (pe_call dD.ok hr2 (by rfl) dD.gl dD.kp dD.bi .nil pass0 (pa_cons (pv 0) (pa_cons pe_int pa_nil))) (pe_ifExp (pt_cmpR op_eq (pv 1) pe_int (nomark _)) pe_int (pe_call dD.ok hr2 (by rfl) dD.gl dD.kp dD.bi .nil pass0 (pa_cons (pv 0) (pa_cons pe_int pa_nil))))))
    (pss_cons (ps_set (i := 3) sc.nd rfl (.inr rfl) (pe_call dP.ok hr3 (by rfl) dP.gl dP.kp dP.bi .nil pass0 (pa_cons (pv 0) (pa_cons (pe_lst (pa_cons pe_int (pa_cons pe_int (pa_cons pe_int (pa_cons pe_int pa_nil))))) pa_nil))))
    (pss_one (ps_ret (pe_lc (own := [("_law_k", 4)]) (g := gName 4) (tt := tYes) rfl sc.nd (pi_range1 (by rfl) z_range (pa_cons (pv 2) pa_nil)) (blkOk_by (N := ["_law_hand_here", "_law_kind", "_law_size", "_law_odds", "_law_k"]) (sc := defScope sMask) (by decide +kernel)) (fun _ _ _ _ _ => pg_name (i := 4) sc.nd rfl (Or.inl rfl)) (fun _ _ _ _ _ => pts_nil) (fun _ _ _ _ _ => (pe_or (pe_cmpR op_eq (pv 3) pe_int (nomark _)) (pe_one (pe_cmpR op_gt (pe_call dD.ok hr2 (by rfl) dD.gl dD.kp dD.bi .nil pass0 (pa_cons (pv 0) (pa_cons (pv 3) pa_nil))) pe_int (nomark _))))))))))), ?_⟩
    refine ⟨_, rfl, p, l, 10, rfl, hp, by decide, by decide +kernel, fun d1 H1 d10 d11 k1 h1 => ?_⟩
    have sz : ∀ Q2 : VK, (∀ (n : Nat) (H' : Hp), n ≤ 40 → Kept p H1 H' → Hand p l H' → Q2 (.int n) H') → tIf (tTest (tOp rEq (tVar 1) (tC (V.int 9)))) (tCall spDr [] E0 (tCons (tVar 0) (tCons (tC (V.int 41)) tNil)))
          (tIf (tTest (tOp rEq (tVar 1) (tC (V.int 8)))) (tC (V.int 40)) (tCall spDr [] E0 (tCons (tVar 0) (tCons (tC (V.int 8)) tNil)))) [some (.ref p), some (.int d1), none, none, none] H1 Q2 := fun Q2 q2 => by
      refine ⟨_, rfl, rfl, _, rfl, ite2 (fun g => ?_) (fun g => ?_)⟩
      rotate_left
      · refine ⟨_, rfl, rfl, _, rfl, ite2 (fun g => q2 40 _ (Nat.le_refl _) Kept.refl h1) (fun g => ?_)⟩
        refine ⟨_, rfl, p, l, 8, rfl, h1, by decide, by decide +kernel, fun d H2 d0 d1 k h => ?_⟩
        obtain ⟨n, rfl⟩ := Int.eq_ofNat_of_zero_le d0
        exact q2 n _ (by omega) k h
      · refine ⟨_, rfl, p, l, 41, rfl, h1, by decide, by decide +kernel, fun d H2 d0 d1 k h => ?_⟩
        obtain ⟨n, rfl⟩ := Int.eq_ofNat_of_zero_le d0
        exact q2 n _ (by omega) k h
    refine sz _ fun n H2 hn k2 h2 => ?_
    refine pick_menu rfl h2 (deL (ds := [.int 1, .int 1, .int 4, .int 2]) (daK deI (daK deI (daK deI (daK deI daN)))) (by decide)) (by decide) (by decide) fun v d H3 hd hv k3 h3 => ?_
    obtain ⟨o, rfl, o1, o2⟩ : ∃ o : Int, v = .int o ∧ 0 < o ∧ o ≤ 4 := by
      have z : ∀ i, Dt (New H2) H3 v (.int i) → v = .int i := fun i h => by cases h; rfl
      rcases List.mem_cons.mp hd with rfl | hd
      · exact ⟨1, z _ hv, by decide, by decide⟩
      rcases List.mem_cons.mp hd with rfl | hd
      · exact ⟨1, z _ hv, by decide, by decide⟩
      rcases List.mem_cons.mp hd with rfl | hd
      · exact ⟨4, z _ hv, by decide, by decide⟩
      rcases List.mem_cons.mp hd with rfl | hd
      · exact ⟨2, z _ hv, by decide, by decide⟩
      cases hd
    have k13 : Kept p H H3 := (k1.trans k2).trans k3
    refine ⟨_, rfl, (n : Int), rfl, by omega, by omega, fun D nD => ?_⟩
    have Dp := h3.nn nD
    have Dl := h3.nl nD
    have nDH := h3.back k13 nD
    rw [Int.toNat_natCast]
    refine lc_it walk_range (fun i H' => ∃ mask : List Bool, mask.length = i ∧ Kept p H H' ∧ Hand p l H' ∧ H' D = some (.lst (mask.map V.bl))) ⟨[], rfl, kput nDH k13, h3.app Dp Dl, upd_same⟩ (fun _ _ _ _ => trivial) ?_ ?_
    · rintro i x H4 H5 hi ⟨mask, hm, k4, h4, eD⟩ ⟨rfl, rfl⟩
      refine ⟨rfl, ?_⟩
      dsimp only [tYes]
      rw [if_pos rfl]
      refine ⟨_, rfl, rfl, _, rfl, ite2 (fun g => ?_) (fun g => ?_)⟩
      · refine ⟨_, eD, ?_, mask ++ [true], by rw [List.length_append, hm]; rfl, kput nDH k4, h4.app Dp Dl, by rw [upd_same, List.map_append]; rfl⟩
        rw [List.length_map, hm]
        exact Nat.lt_trans (show i < 41 by omega) (by decide)
      · refine ⟨_, rfl, _, rfl, p, l, o, rfl, h4, o1, Nat.lt_of_le_of_lt (show o.natAbs ≤ 4 by omega) (by decide +kernel), fun d H6 d0 d1 k6 h6 => ⟨_, _, rfl, rfl, ?_⟩⟩
        refine ⟨_, k6 _ _ Dp eD, ?_, mask ++ [decide (0 < d)], by rw [List.length_append, hm]; rfl, kput nDH (k4.trans k6), h6.app Dp Dl, by rw [upd_same, List.map_append]; rfl⟩
        rw [List.length_map, hm]
        exact Nat.lt_trans (show i < 41 by omega) (by decide)
    · rintro H4 ⟨mask, hm, k4, h4, eD⟩
      exact q H4 D mask k4 h4 nDH eD (by omega)
/-- a pattern on it -/
def PtAt2 (H : Hp) (a : Addr) (p : List (Option Nat)) : Prop := H a = some (.lst (vals p))
def spOn : Sp := fun vs H Q _ => ∃ (p l a : Addr) (mask : List Bool), vs = [.ref p, .ref a] ∧ Hand p l H ∧ H a = some (.lst (mask.map V.bl)) ∧ a ≠ p ∧ mask.length ≤ 40 ∧ ∀ (H' : Hp) (z : Addr) (x : List (Option Nat)), Kept p H H' → Hand p l H' → H z = none → H' z = some (.lst (vals x)) → Pt x → x.map Option.isSome = mask → Q (.ref z) H'
theorem cnt_app {p : List V} {c0 c : Nat} {v : V} (h : cnt c0 p = some c) : cnt c0 (p ++ [v]) = stepE c v := by
  induction p generalizing c0 with
  | nil =>
    cases h
    show (match stepE c v with | some d => cnt d [] | none => none) = _
    cases stepE c v <;> rfl
  | cons u p ih =>
    have h : (match stepE c0 u with | some d => cnt d p | none => none) = some c := h
    show (match stepE c0 u with | some d => cnt d (p ++ [v]) | none => none) = _
    cases e : stepE c0 u with
    | none => rw [e] at h; cases h
    | some d => rw [e] at h; exact ih h
theorem ok_on {f fD : Addr} {fd fdD : FuncData} (F : FnP K "_law_on" sOn f fd) (dD : Df P w K mg base "_law_draw" 2 ["_law_hand_here", "_law_many"] spDr fD fdD) : FnOk P w K mg base CX0 3 f fd ["_law_hand_here", "_law_mask_here"] spOn := by
  have sc : FnScope ["_law_hand_here", "_law_mask_here", "_law_entries", "_law_met", "_law_here", "_law_entry"] ["_law_hand_here", "_law_mask_here"] (defScope sOn) := ⟨rfl, rfl, rfl, by decide +kernel, rfl, by decide +kernel, by decide +kernel⟩
  refine F.ok sc (fun vs H Q E h => ?_) (fun cdv A outer s H vs Q E hr2 h => ?_)
  · obtain ⟨p, l, a, mask, rfl, _⟩ := h
    rfl
  · obtain ⟨p, l, a, mask, rfl, hp, ha, nap, hm, q⟩ := h
    refine ⟨_, PSs.nox (pss_cons (ps_par (i := 2) (j := 3) rfl sc.nd rfl rfl (by decide) rfl rfl (pa_cons (pe_lst pa_nil) (pa_cons pe_int pa_nil)) rfl)
    (pss_cons (ps_for PassesOwn.never rfl (pi_list (pv 1)) (pg_name (i := 4) sc.nd rfl (.inl rfl))
      (pss_cons (ps_set (i := 5) sc.nd rfl (.inl rfl) (pe_call dD.ok hr2 (by rfl) dD.gl dD.kp dD.bi .nil pass0 (pa_cons (pv 0) (pa_cons (pe_op op_add (pv 3) pe_int) pa_nil))))
      (pss_cons (ps_expr (pe_bm PySem.F.plainAttrs_list PySem.F.slot_list_append PySem.F.type_list_append mt_append (pv 2) (pa_cons (pe_ifExp (pt_val (pv 4)) (pv 5) pe_non) pa_nil)))
      (pss_one (ps_set (i := 3) sc.nd rfl (.inl rfl) (pe_ifExp (PW.pt (pw_and (pt_val (pv 4)) (pw_and1 (pt_cmpR op_eq (pv 5) (pv 3) (nomark _))))) (pe_op op_add (pv 3) pe_int) (pv 3)))))))
    (pss_one (ps_ret (pv 2))))), ?_⟩
    refine ⟨Nat.zero_le _, fun D nD => ⟨_, _, rfl, ?_⟩⟩
    have Dp := hp.nn nD
    have Dl := hp.nl nD
    have s0 := same_upd (o := .lst []) nD
    have aD : a ≠ D := ne_of_none ha nD
    refine ⟨_, rfl, a, rfl, ⟨_, SqL.of (s0 _ _ ha)⟩, ?_⟩
    refine for_it walk_list (fun i σ H' => ∃ (x4 x5 : Option V) (x : List (Option Nat)) (c : Nat), σ = [some (.ref p), some (.ref a), some (.ref D), some (.int (c : Int)), x4, x5] ∧ c ≤ i ∧ H' D = some (.lst (vals x)) ∧ cnt 0 (vals x) = some c ∧ x.map Option.isSome = mask.take i ∧ Kept p H H' ∧ Hand p l H')
      ⟨none, none, [], 0, rfl, Nat.le_refl _, upd_same, rfl, rfl, Kept.same s0, hp.app Dp Dl⟩ (fun i σ H' _ ⟨x4, x5, x, c, _, _, _, _, _, k, _⟩ => SqL.of (k _ _ nap ha)) ?_ ?_
    · rintro i y σ H1 H2 hi ⟨x4, x5, x, c, rfl, hc, eD, ex, em, k1, h1⟩ ⟨rfl, ey⟩
      obtain ⟨b, eb, rfl⟩ := (by simpa using ey : ∃ b, mask[i]? = some b ∧ V.bl b = y)
      rw [List.length_map] at hi
      refine ⟨_, rfl, _, rfl, _, _, rfl, rfl, p, l, (c : Int) + 1, rfl, h1, by omega, Nat.lt_of_le_of_lt (show ((c : Int) + 1).natAbs ≤ 41 by omega) (by decide +kernel), fun d H3 d0 d1 k3 h3 => ?_⟩
      obtain ⟨n, rfl⟩ := Int.eq_ofNat_of_zero_le d0
      have eD3 := k3 _ _ Dp eD
      have xl : (vals x).length < sizeLine := by
        have z := congrArg List.length em
        rw [List.length_take, Nat.min_eq_left (by omega)] at z
        rw [List.length_map]
        have z2 : (x.map Option.isSome).length = x.length := List.length_map ..
        exact Nat.lt_of_le_of_lt (show x.length ≤ 40 by omega) (by decide)
      have k13 : Kept p H H3 := k1.trans k3
      have fin : ∀ (o : Option Nat) (c' : Nat), o.isSome = b → cnt 0 (vals (x ++ [o])) = some c' → c' ≤ i + 1 → ∃ (x4' x5' : Option V) (x' : List (Option Nat)) (c2 : Nat), [some (.ref p), some (.ref a), some (.ref D), some (.int (c' : Int)), some (.bl b), some (.int (n : Int))] = [some (.ref p), some (.ref a), some (.ref D), some (.int (c2 : Int)), x4', x5'] ∧ c2 ≤ i + 1 ∧ (upd H3 D (.lst (vals x ++ [optV o]))) D = some (.lst (vals x')) ∧ cnt 0 (vals x') = some c2 ∧ x'.map Option.isSome = mask.take (i + 1) ∧ Kept p H (upd H3 D (.lst (vals x ++ [optV o]))) ∧ Hand p l (upd H3 D (.lst (vals x ++ [optV o]))) := fun o c' ho hc' hl => by
        refine ⟨_, _, x ++ [o], c', rfl, hl, by rw [upd_same, vals_app]; rfl, hc', ?_, kput nD k13, h3.app Dp Dl⟩
        rw [List.map_append, em, take_snoc' eb]
        show _ ++ [o.isSome] = _
        rw [ho]
      have va : ∀ o, cnt 0 (vals (x ++ [o])) = stepE c (optV o) := fun o => by
        rw [vals_app]
        exact cnt_app ex
      cases b with
      | true =>
        refine ⟨_, rfl, .inl ⟨rfl, _, SqL.of eD3⟩, ?_⟩
        refine ⟨_, rfl, _, rfl, iteT ⟨_, rfl, D, _, _, rfl, rfl, eD3, xl, ?_⟩⟩
        refine ⟨_, rfl, _, rfl, iteT ⟨_, rfl, _, rfl, rfl, _, rfl, ite2 (fun g => ?_) (fun g => ?_)⟩⟩
        · have g2 : n = c := by
            have := V.int.inj (of_decide_eq_true g)
            omega
          refine ⟨_, rfl, _, _, rfl, rfl, ?_⟩
          exact fin (some n) (c + 1) rfl (by rw [va, stepE_some, if_neg (by omega), if_pos g2]) (by omega)
        · have g2 : n ≠ c := fun z => g (decide_eq_true (by rw [z]))
          refine ⟨_, rfl, ?_⟩
          exact fin (some n) c rfl (by rw [va]; rw [stepE_some, if_neg (by omega), if_neg g2]) (by omega)
      | false =>
        refine ⟨_, rfl, .inl ⟨rfl, _, SqL.of eD3⟩, ?_⟩
        refine ⟨_, rfl, _, rfl, iteF ⟨D, _, _, rfl, rfl, eD3, xl, ?_⟩⟩
        refine ⟨_, rfl, _, rfl, iteF (iteF ⟨_, rfl, ?_⟩)⟩
        exact fin none c rfl (by rw [va]; rfl) (by omega)
    · rintro σ H1 ⟨x4, x5, x, c, rfl, hc, eD, ex, em, k1, h1⟩
      refine ⟨_, rfl, q H1 D x k1 h1 nD eD (pt_of_cnt ex) ?_⟩
      rw [em]
      rw [List.length_map]
      exact List.take_length
end
end K26

/-! near a pattern -/
namespace K26
open PySem PySem.Spec PyProof.Rows L2
abbrev encN : Nat → PyData := fun n : Nat => PyData.int (n : Int)
def spNear : Sp := fun vs H Q _ => ∃ (p l a : Addr) (x : List (Option Nat)), vs = [.ref p, .ref a] ∧ Hand p l H ∧ H a = some (.lst (vals x)) ∧ a ≠ p ∧ Pt x ∧ x.length ≤ 40 ∧ ∀ (H' : Hp) (z : Addr) (y : List (Option Nat)), Kept p H H' → Hand p l H' → H z = none → H' z = some (.lst (vals y)) → Pt y → Mask x y → Q (.ref z) H'
theorem dec_optO (a b : Option Nat) : decide (optV a = optV b) = decide (a = b) := decide_eq_decide.mpr ⟨optV_inj, fun h => by rw [h]⟩
theorem thv_vals {H : Hp} {l : List (Option Nat)} {i : Nat} {v : V} {o : Option Nat} (e : (vals l)[i]? = some v) (g : l[i]? = some o) : ThV encN H v o := by
  rw [vals_get, g] at e
  obtain rfl := Option.some.inj e
  cases o with
  | none => exact rfl
  | some n => exact .int _
/-- where somebody stands -/
theorem tNext_of {D : Ends} {σ : L2.St} {H : Hp} (h : D.nx σ H) : tNext D σ H := h
def R5 (x : List (Option Nat)) (k : Nat) (acc : List V) (_ : Hp) : Prop := ∃ ps : List Nat, acc = ps.map (fun n : Nat => V.int (n : Int)) ∧ ps.length ≤ k ∧ ∀ i ∈ ps, ∃ n, x[i]? = some (some n)
theorem lcR5 (x : List (Option Nat)) (D : Addr) : LcR D (R5 x) := ⟨fun _ _ _ _ _ r _ _ => r, fun i acc _ ⟨ps, e, h, _⟩ => by rw [e, List.length_map]; exact h⟩
theorem dt_nats {S : Addr → Prop} {H : Hp} : ∀ l : List Nat, DtAll S H (l.map fun n : Nat => V.int (n : Int)) (l.map fun n : Nat => PyData.int (n : Int))
  | [] => .nil
  | n :: l => .cons (.int _) (dt_nats l)
theorem shaped_nats (l : List Nat) : SeqAt.shaped (.list (l.map fun n : Nat => PyData.int (n : Int))) = true := shaped_enc encI l
section
variable {P : Program} {w : World} {K : PySem.W.Frag} {mg : Str → Option Value} {base : Heap}
theorem ok_near {f fD fP fN : Addr} {fd fdD fdP fdN : FuncData} (F : FnP K "_law_near" sNear f fd) (z_list : mg "list" = none) (z_enumerate : mg "enumerate" = none) (dD : Df P w K mg base "_law_draw" 2 ["_law_hand_here", "_law_many"] spDr fD fdD) (dP : Df P w K mg base "_law_pick" 3 ["_law_hand_here", "_law_things"] spPk fP fdP) (dN : Df P w K mg base "_law_numbers" 1 ["_law_things"] (spNums encN) fN fdN) : FnOk P w K mg base CX0 4 f fd ["_law_hand_here", "_law_entries"] spNear := by
  have sc : FnScope ["_law_hand_here", "_law_entries", "_law_places", "_law_at", "_law_entry", "_law_one", "_law_other"] ["_law_hand_here", "_law_entries"] (defScope sNear) := ⟨rfl, rfl, rfl, by decide +kernel, rfl, by decide +kernel, by decide +kernel⟩
  refine F.ok sc (fun vs H Q E h => ?_) (fun cdv A outer s H vs Q E hr h => ?_)
  · obtain ⟨p, l, a, x, rfl, _⟩ := h
    rfl
  · obtain ⟨p, l, a, x, rfl, hp, ha, nap, px, hl, q⟩ := h
    have hr3 := hr
    have hr2 := hr.mono (show 2 ≤ 3 by decide)
    have hr1 := hr.mono (show 1 ≤ 3 by decide)
    refine ⟨_, PSs.nox (pss_cons (ps_setLc (i := 2) (own := [("_law_at", 3), ("_law_entry", 4)]) (g := gTup K 2 (gCons (gName 3) (gCons (gName 4) gNil))) rfl sc.nd rfl rfl (sw_true rfl rfl rfl (by decide +kernel)) (pi_enum (by rfl) z_enumerate (pa_cons (pv 1) pa_nil)) (blkOk_by (N := ["_law_hand_here", "_law_entries", "_law_places", "_law_at", "_law_entry", "_law_one", "_law_other"]) (sc := defScope sNear) (by decide +kernel)) (fun _ _ _ _ _ => pg_tup (by rfl) (pgs_cons (pg_name (i := 3) sc.nd rfl (Or.inl rfl)) (pgs_cons (pg_name (i := 4) sc.nd rfl (Or.inl rfl)) pgs_nil))) (fun _ _ _ _ _ => pts_one (pt_cmpR op_notN (pv 4) pe_non (nomark _))) (fun _ _ _ _ _ => (pv 3)))
    (pss_cons (ps_if (pt_cmpR (op_eqD hr.units) (pv 2) (pe_lst pa_nil) (nomark _))
      (pss_one (ps_ret (pe_callTy call_list_of (by rfl) z_list (by decide +kernel) (pa_cons (pv 1) pa_nil))))
      pss_nil)
    (pss_cons (ps_asg (pe_tup (pa_cons (pe_call dP.ok hr3 (by rfl) dP.gl dP.kp dP.bi .nil pass0 (pa_cons (pv 0) (pa_cons (pv 2) pa_nil))) (pa_cons (pe_call dP.ok hr3 (by rfl) dP.gl dP.kp dP.bi .nil pass0 (pa_cons (pv 0) (pa_cons (pv 2) pa_nil))) pa_nil))) (pg_tup (by rfl) (pgs_cons (pg_name (i := 5) sc.nd rfl (Or.inr rfl)) (pgs_cons (pg_name (i := 6) sc.nd rfl (Or.inr rfl)) pgs_nil))))
    (pss_cons (ps_if (pt_cmpR op_eq (pe_call dD.ok hr2 (by rfl) dD.gl dD.kp dD.bi .nil pass0 (pa_cons (pv 0) (pa_cons pe_int pa_nil))) pe_int (nomark _))
      (pss_one (ps_ret (pe_call dN.ok hr1 (by rfl) dN.gl dN.kp dN.bi .nil pass0 (pa_cons (pe_lc (own := [("_law_entry", 4)]) (g := gName 4) (tt := tYes) (te := tIf (tTest (tOp rEq (tVar 4) (tOp (rIxL K) (tVar 1) (tVar 6)))) (tOp (rIxL K) (tVar 1) (tVar 5)) (tVar 4)) rfl sc.nd (pi_list (pv 1)) (blkOk_by (N := ["_law_hand_here", "_law_entries", "_law_places", "_law_at", "_law_entry", "_law_one", "_law_other"]) (sc := defScope sNear) (by decide +kernel)) (fun _ _ _ _ _ => pg_name (i := 4) sc.nd rfl (Or.inl rfl)) (fun _ _ _ _ _ => pts_nil) (fun _ _ _ _ _ => (pe_ifExp (pt_cmpR op_eq (pv 4) (pe_ix ix_list (pv 1) (pv 6) (fun _ _ => rfl)) (nomark _)) (pe_ix ix_list (pv 1) (pv 5) (fun _ _ => rfl)) (pv 4)))) pa_nil))))
      pss_nil)
    (pss_one (ps_ret (pe_call dN.ok hr1 (by rfl) dN.gl dN.kp dN.bi .nil pass0 (pa_cons (pe_lc (own := [("_law_at", 3), ("_law_entry", 4)]) (g := gTup K 2 (gCons (gName 3) (gCons (gName 4) gNil))) (tt := tYes) rfl sc.nd (pi_enum (by rfl) z_enumerate (pa_cons (pv 1) pa_nil)) (blkOk_by (N := ["_law_hand_here", "_law_entries", "_law_places", "_law_at", "_law_entry", "_law_one", "_law_other"]) (sc := defScope sNear) (by decide +kernel)) (fun _ _ _ _ _ => pg_tup (by rfl) (pgs_cons (pg_name (i := 3) sc.nd rfl (Or.inl rfl)) (pgs_cons (pg_name (i := 4) sc.nd rfl (Or.inl rfl)) pgs_nil))) (fun _ _ _ _ _ => pts_nil) (fun _ _ _ _ _ => (pe_ifExp (pt_cmpR op_eq (pv 3) (pv 5) (nomark _)) pe_int (pv 4)))) pa_nil)))))))), ?_⟩
    have few : (vals x).length < sizeLine := by
      rw [List.length_map]
      exact Nat.lt_of_le_of_lt hl (by decide)
    refine ⟨_, rfl, a, _, rfl, SqL.of ha, fun D nD => lc_E (K := K) walk_enum (R5 x) (lcR5 x D) nD few ⟨[], rfl, Nat.le_refl _, (fun i hi => by cases hi)⟩ (fun H' s' => SqL.of (s' _ _ ha)) (fun _ _ => rfl) ?_ (mT_test (mE_op mR_isN mE_var mE_c)) mE_var ?_⟩
    · rintro i v acc H' ev s' eD ⟨ps, rfl, h1, h2⟩
      rw [vals_get] at ev
      obtain ⟨o, eo, rfl⟩ := Option.map_eq_some_iff.mp ev
      refine ⟨_, rfl, rfl, _, rfl, Same.refl _, ?_⟩
      cases o with
      | none => exact iteF ⟨ps, rfl, Nat.le_succ_of_le h1, h2⟩
      | some n =>
        refine iteT ⟨_, rfl, Same.refl _, ps ++ [i], by rw [List.map_append]; rfl, by rw [List.length_append]; exact Nat.succ_le_succ h1, fun j hj => ?_⟩
        rcases List.mem_append.mp hj with hj | hj
        · exact h2 j hj
        · rw [List.mem_singleton.mp hj]
          exact ⟨n, eo⟩
    rintro H1 acc s1 eD ⟨ps, rfl, h1, h2⟩
    have h_1 := hp.same s1
    refine ⟨_, rfl, Nat.zero_le _, fun D2 nD2 => ?_⟩
    have s2 := same_upd (o := .lst []) nD2
    refine ⟨_, _, (Dt.lst (S := Any) trivial (s2 _ _ eD) (dt_nats _)).dp, (Dt.lst (S := Any) trivial upd_same .nil).dp, shaped_nats _, by rfl, _, rfl, ?_⟩
    have h_2 := h_1.same s2
    have s02 := s1.trans s2
    generalize upd H1 D2 (.lst []) = H2 at s2 h_2 s02 ⊢
    cases ps with
    | nil =>
      refine iteT ⟨_, rfl, a, _, rfl, .inl (SqL.of (s02 _ _ ha)), fun z nz => ?_⟩
      exact q _ z x ((Kept.same s02).trans (Kept.same (same_upd nz))) (h_2.same (same_upd nz)) (none_of s02 nz) upd_same px rfl
    | cons p0 ps =>
      refine iteF (tNext_of ?_)
      have eD2 := s2 _ _ eD
      have Dp := hp.nn nD
      rw [List.length_map] at h1
      refine ⟨_, rfl, _, rfl, p, l, D, _, rfl, h_2, eD2, Dp, Nat.succ_pos _, by rw [List.length_map]; omega, fun v1 H3 hv1 k3 h_3 => ?_⟩
      have eD3 := k3 _ _ Dp eD2
      refine ⟨_, rfl, _, rfl, p, l, D, _, rfl, h_3, eD3, Dp, Nat.succ_pos _, by rw [List.length_map]; omega, fun v2 H4 hv2 k4 h_4 => ?_⟩
      obtain ⟨i1, m1, rfl⟩ := List.mem_map.mp hv1
      obtain ⟨i2, m2, rfl⟩ := List.mem_map.mp hv2
      obtain ⟨n1, e1⟩ := h2 i1 m1
      obtain ⟨n2, e2⟩ := h2 i2 m2
      refine ⟨(by show 2 ≤ sizeLine; decide), fun T nT => ⟨T, _, rfl, .inl (.inl upd_same), rfl, _, _, rfl, _, _, rfl, rfl, ?_⟩⟩
      have sT := same_upd (o := .tup [.int (i1 : Int), .int (i2 : Int)]) nT
      have h_5 := h_4.same sT
      have k05 : Kept p H (upd H4 T (.tup [.int (i1 : Int), .int (i2 : Int)])) := ((Kept.same s02).trans (k3.trans k4)).trans (Kept.same sT)
      generalize upd H4 T (.tup [.int (i1 : Int), .int (i2 : Int)]) = H5 at h_5 k05 ⊢
      have last : ∀ (l' : List (Option Nat)) (H6 H7 : Hp) (z : Addr), Mask x l' → Kept p H H6 → Hand p l H6 → Same H6 H7 → H6 z = none → H7 z = some (.lst (vals (num l'))) → Q (.ref z) H7 := fun l' H6 H7 z hM k6 h6 s7 nz ez =>
        q H7 z (num l') (k6.trans (Kept.same s7)) (h6.same s7) (h6.back k6 nz) ez (Pt.nums l') (hM.trans (Mask.nums l').symm)
      refine ⟨_, rfl, p, l, 2, rfl, h_5, by decide, by decide +kernel, fun d H6 d0 d1 k6 h_6 => ⟨rfl, _, rfl, ?_⟩⟩
      have k06 := k05.trans k6
      have ha6 := k06 _ _ nap ha
      refine ite2 (fun g => ?_) (fun g => tNext_of ?_)
      · refine ⟨_, rfl, a, rfl, ⟨_, SqL.of ha6⟩, fun D3 nD3 => lc_N walk_list (fun k acc _ => acc = vals ((x.map fun o => if o = some n2 then some n1 else o).take k)) (lcR_pure fun k => by rw [List.length_map]; exact List.length_take_le _ _) nD3 few rfl (fun H' s' => SqL.of (s' _ _ ha6)) (fun _ => rfl) ?_ mT_yes (mE_if (mT_test (mE_op mR_eq mE_var (mE_op mR_ixL mE_var mE_var))) (mE_op mR_ixL mE_var mE_var) mE_var) ?_⟩
        · rintro i v acc H' ev s' eD' rfl
          rw [vals_get] at ev
          obtain ⟨o, eo, rfl⟩ := Option.map_eq_some_iff.mp ev
          have haq := s' _ _ ha6
          refine ⟨Same.refl _, iteT ⟨_, rfl, _, rfl, _, rfl, a, _, _, optV (some n2), rfl, rfl, SqL.of haq, atI_nat (by rw [vals_get, e2]; rfl), by cases o <;> rfl, _, rfl, ?_⟩⟩
          rw [dec_optO]
          have nx : (x.map fun o => if o = some n2 then some n1 else o)[i]? = some (if o = some n2 then some n1 else o) := by rw [List.getElem?_map, eo]; rfl
          by_cases ho : o = some n2
          · rw [decide_eq_true ho]
            rw [if_pos ho] at nx
            refine iteT ⟨_, rfl, _, rfl, a, _, _, optV (some n1), rfl, rfl, SqL.of haq, atI_nat (by rw [vals_get, e1]; rfl), Same.refl _, ?_⟩
            rw [take_snoc' nx, vals_app]
            rfl
          · rw [decide_eq_false ho]
            rw [if_neg ho] at nx
            refine iteF ⟨_, rfl, Same.refl _, ?_⟩
            rw [take_snoc' nx, vals_app]
            rfl
        rintro H7 acc s7 eD7 rfl
        rw [List.take_of_length_le (by rw [List.length_map, List.length_map]; exact Nat.le_refl _)] at eD7
        refine ⟨D3, _, (x.map fun o => if o = some n2 then some n1 else o), rfl, eD7, List.length_map .., fun i v o e g => thv_vals e g, by rw [List.length_map]; omega, fun H8 z s8 nz ez => ?_⟩
        refine last _ H6 H8 z ?_ k06 h_6 (s7.trans s8) (none_of s7 nz) ez
        unfold Mask
        rw [List.map_map]
        refine List.map_congr_left fun o _ => ?_
        show o.isSome = (if o = some n2 then some n1 else o).isSome
        by_cases ho : o = some n2
        · rw [if_pos ho, ho]; rfl
        · rw [if_neg ho]
      · refine ⟨_, rfl, a, _, rfl, SqL.of ha6, fun D3 nD3 => lc_E (K := K) walk_enum (fun k acc _ => acc = vals ((x.set i1 (some 41)).take k)) (lcR_pure fun k => by rw [List.length_map]; exact List.length_take_le _ _) nD3 few rfl (fun H' s' => SqL.of (s' _ _ ha6)) (fun _ _ => rfl) ?_ mT_yes (mE_if (mT_test (mE_op mR_eq mE_var mE_var)) mE_c mE_var) ?_⟩
        · rintro i v acc H' ev s' eD' rfl
          rw [vals_get] at ev
          obtain ⟨o, eo, rfl⟩ := Option.map_eq_some_iff.mp ev
          have il := (List.getElem?_eq_some_iff.mp eo).1
          refine ⟨Same.refl _, iteT ⟨_, rfl, _, rfl, rfl, _, rfl, ite2 (fun g => ?_) (fun g => ?_)⟩⟩
          · have e : i = i1 := by
              have := V.int.inj (of_decide_eq_true g)
              omega
            subst e
            refine ⟨Same.refl _, ?_⟩
            rw [take_snoc' (v := some 41) (by rw [List.getElem?_set_self il]), vals_app]
            rfl
          · have e : i1 ≠ i := fun z => g (decide_eq_true (by rw [z]))
            refine ⟨_, rfl, Same.refl _, ?_⟩
            rw [take_snoc' (v := o) (by rw [List.getElem?_set_ne e]; exact eo), vals_app]
            rfl
        rintro H7 acc s7 eD7 rfl
        rw [List.take_of_length_le (by rw [List.length_map, List.length_set]; exact Nat.le_refl _)] at eD7
        refine ⟨D3, _, x.set i1 (some 41), rfl, eD7, List.length_map .., fun i v o e g => thv_vals e g, by rw [List.length_set]; omega, fun H8 z s8 nz ez => ?_⟩
        refine last _ H6 H8 z ?_ k06 h_6 (s7.trans s8) (none_of s7 nz) ez
        unfold Mask
        rw [List.map_set]
        refine (List.ext_getElem? fun j => ?_).symm
        by_cases hj : i1 = j
        · subst hj
          rw [List.getElem?_set_self (by rw [List.length_map]; exact (List.getElem?_eq_some_iff.mp e1).1), List.getElem?_map, e1]
          rfl
        · rw [List.getElem?_set_ne hj]
end
end K26

/-! the law's own finer; the word that is due -/
namespace K26
open PySem PySem.Spec PyProof.Rows L2
def spLF : Sp := fun vs H Q _ => ∃ (a b : Addr) (p q : List (Option Nat)), vs = [.ref a, .ref b] ∧ H a = some (.lst (vals p)) ∧ H b = some (.lst (vals q)) ∧ Mask p q ∧ p.length ≤ 40 ∧ ∀ (H' : Hp) (t : Bool), Same H H' → (t = true ↔ Finer p q) → Q (.bl t) H'
theorem scal_opt (a b : Option Nat) : scal (optV a) (optV b) = true := by
  cases a <;> cases b <;> rfl
theorem ix_at {K : PySem.W.Frag} {H : Hp} {a : Addr} {p : List (Option Nat)} {i : Nat} {Q : VK} (ha : H a = some (.lst (vals p))) (h : i < p.length) (q : Q (optV (at_ p i)) H) : rIxL K (.ref a) (.int (i : Int)) H Q :=
  ⟨a, _, _, _, rfl, rfl, SqL.of ha, atI_nat (by rw [vals_get, at_get h]; rfl), q⟩
def wordV (p q : List (Option Nat)) : V := if p.length = q.length then (if maskB p = maskB q then .non else .str "nobody") else .str "places"
def spMW : Sp := fun vs H Q _ => ∃ (a b : Addr) (p q : List (Option Nat)), vs = [.ref a, .ref b] ∧ H a = some (.lst (vals p)) ∧ H b = some (.lst (vals q)) ∧ p.length ≤ 40 ∧ q.length ≤ 40 ∧ ∀ (H' : Hp), Same H H' → Q (wordV p q) H'
def spIs : Sp := fun vs H Q _ => ∃ t u : Bool, vs = [.bl t, .bl u] ∧ Q (.bl (decide (t = u))) H
def wrongAt (p q : List (Option Nat)) (i : Nat) : Bool := (at_ p i).isNone != (at_ q i).isNone
theorem walk_rangeL (n : Nat) : Walk (Itr 0 n) ((List.range n).map fun i : Nat => V.int (i : Int)).length (fun _ => True) (YAt ((List.range n).map fun i : Nat => V.int (i : Int))) := by
  have w := walk_range (lo := 0) (n := n)
  have e : ((List.range n).map fun i : Nat => V.int (i : Int)).length = n := by rw [List.length_map, List.length_range]
  rw [e]
  refine ⟨w.goes, w.stops, fun i H x H' hi g y => ?_⟩
  obtain ⟨h1, h2⟩ := w.yields i H x H' hi g y
  refine ⟨h1, ?_⟩
  rw [List.getElem?_map, List.getElem?_range hi, h2]
  show some (V.int (i : Int)) = some (V.int (0 + (i : Int)))
  rw [Int.zero_add]
theorem range_at {n i : Nat} {v : V} (e : ((List.range n).map fun i : Nat => V.int (i : Int))[i]? = some v) : i < n ∧ v = .int (i : Int) := by
  have h := (List.getElem?_eq_some_iff.mp e).1
  rw [List.length_map, List.length_range] at h
  rw [List.getElem?_map, List.getElem?_range h] at e
  exact ⟨h, (Option.some.inj e).symm⟩
theorem wrong_all {p q : List (Option Nat)} (h : p.length = q.length) : (∀ i, i < p.length → wrongAt p q i = false) ↔ maskB p = maskB q := by
  have e : ∀ (l : List (Option Nat)) (i : Nat), i < l.length → (maskB l)[i]? = some (at_ l i).isNone := fun l i hi => by
    unfold maskB
    rw [List.getElem?_map, at_get hi]
    rfl
  constructor
  · intro k
    refine List.ext_getElem? fun i => ?_
    by_cases hi : i < p.length
    · rw [e p i hi, e q i (by omega)]
      have z := k i hi
      unfold wrongAt at z
      rw [bne_eq_false_iff_eq.mp z]
    · rw [List.getElem?_eq_none (by unfold maskB; rw [List.length_map]; omega), List.getElem?_eq_none (by unfold maskB; rw [List.length_map]; omega)]
  · intro k i hi
    have z := e p i hi
    rw [k, e q i (by omega)] at z
    unfold wrongAt
    rw [Option.some.inj z]
    exact bne_self_eq_false _
def R6 (p q : List (Option Nat)) (k : Nat) (acc : List V) (_ : Hp) : Prop := ∃ ps : List Nat, acc = ps.map (fun n : Nat => V.int (n : Int)) ∧ ps.length ≤ k ∧ (ps = [] ↔ ∀ i, i < k → wrongAt p q i = false)
theorem lcR6 (p q : List (Option Nat)) (D : Addr) : LcR D (R6 p q) := ⟨fun _ _ _ _ _ r _ _ => r, fun i acc _ ⟨ps, e, h, _⟩ => by rw [e, List.length_map]; exact h⟩
section
variable {P : Program} {w : World} {K : PySem.W.Frag} {mg : Str → Option Value} {base : Heap}
theorem ok_lf {f : Addr} {fd : FuncData} (F : FnP K "_law_finer" sFiner f fd) (z_range : mg "range" = none) (z_enumerate : mg "enumerate" = none) : FnOk P w K mg base CX0 1 f fd ["_law_one", "_law_other"] spLF := by
  have sc : FnScope ["_law_one", "_law_other", "_law_at", "_law_entry", "_law_to"] ["_law_one", "_law_other"] (defScope sFiner) := ⟨rfl, rfl, rfl, by decide +kernel, rfl, by decide +kernel, by decide +kernel⟩
  refine F.ok sc (fun vs H Q E h => ?_) (fun cdv A outer s H vs Q E hr h => ?_)
  · obtain ⟨a, b, p, q, rfl, _⟩ := h
    rfl
  · obtain ⟨a, b, p, q, rfl, ha, hb, hM, hl, qq⟩ := h
    have lq := hM.len
    refine ⟨_, PSs.nox (pss_cons (ps_for PassesOwn.never rfl (pi_enum (by rfl) z_enumerate (pa_cons (pv 0) pa_nil)) (pg_tup (by rfl) (pgs_cons (pg_name (i := 2) sc.nd rfl (.inl rfl)) (pgs_cons (pg_name (i := 3) sc.nd rfl (.inl rfl)) pgs_nil)))
      (pss_one (ps_for PassesOwn.never rfl (pi_range1 (by rfl) z_range (pa_cons (pv 2) pa_nil)) (pg_name (i := 4) sc.nd rfl (.inl rfl))
        (pss_one (ps_if (PW.pt (pw_and (pt_cmpR op_notN (pv 3) pe_non (nomark _)) (pw_and (pt_cmpR op_eq (pv 3) (pe_ix ix_list (pv 0) (pv 4) (fun _ _ => rfl)) (nomark _)) (pw_and1 (pt_cmpR op_ne (pe_ix ix_list (pv 1) (pv 2) (fun _ _ => rfl)) (pe_ix ix_list (pv 1) (pv 4) (fun _ _ => rfl)) (nomark _))))))
          (pss_one (ps_ret pe_bl))
          pss_nil)))))
    (pss_one (ps_ret pe_bl))), ?_⟩
    refine ⟨_, rfl, a, _, rfl, SqL.of ha, ?_⟩
    refine for_it walk_enum (fun k σ H' => ∃ x2 x3 x4 : Option V, σ = [some (.ref a), some (.ref b), x2, x3, x4] ∧ Same H H' ∧ ∀ i, i < k → ∀ j, j < i → badB p q i j = false)
      ⟨none, none, none, rfl, Same.refl _, fun i hi => absurd hi (Nat.not_lt_zero _)⟩ (fun k σ H' _ ⟨_, _, _, _, s', _⟩ => SqL.of (s' _ _ ha)) ?_ ?_
    · rintro k y σ H1 H2 hk ⟨x2, x3, x4, rfl, s1, hb1⟩ ⟨T, u, v, rfl, nT, rfl, eu, ev⟩
      obtain rfl : u = .int (k : Int) := (Option.some.inj eu).symm
      rw [List.length_map] at hk
      have ev : (vals p)[k]? = some v := ev
      rw [vals_get, at_get hk] at ev
      obtain rfl : optV (at_ p k) = v := Option.some.inj ev
      have sT := s1.trans (same_upd (o := .tup [.int (k : Int), optV (at_ p k)]) nT)
      refine ⟨T, _, rfl, .inl (.inl upd_same), rfl, _, _, rfl, _, _, rfl, rfl, ?_⟩
      generalize upd H1 T (.tup [.int (k : Int), optV (at_ p k)]) = H2 at sT ⊢
      refine ⟨_, rfl, (k : Int), rfl, by omega, by omega, ?_⟩
      rw [Int.toNat_natCast]
      refine for_it walk_range (fun m σ H' => ∃ x4 : Option V, σ = [some (.ref a), some (.ref b), some (.int (k : Int)), some (optV (at_ p k)), x4] ∧ H' = H2 ∧ ∀ j, j < m → badB p q k j = false)
        ⟨x4, rfl, rfl, fun j hj => absurd hj (Nat.not_lt_zero _)⟩ (fun _ _ _ _ _ => trivial) ?_ ?_
      · rintro m y σ H3 H4 hm ⟨x5, rfl, rfl, hb2⟩ ⟨rfl, rfl⟩
        show gName 4 (V.int (0 + (m : Int))) _ _ _
        rw [Int.zero_add]
        have ml : m < p.length := by omega
        have done : ((at_ p k).isSome && (decide (at_ p k = at_ p m) && !decide (at_ q k = at_ q m))) = false → ∃ x4 : Option V, [some (.ref a), some (.ref b), some (.int (k : Int)), some (optV (at_ p k)), some (.int (m : Int))] = [some (.ref a), some (.ref b), some (.int (k : Int)), some (optV (at_ p k)), x4] ∧ H4 = H4 ∧ ∀ j, j < m + 1 → badB p q k j = false := fun h => ⟨_, rfl, rfl, fun j hj => by
          by_cases e : j = m
          · rw [e]; exact h
          · exact hb2 j (by omega)⟩
        refine ⟨_, rfl, rfl, _, rfl, ?_⟩
        have e1 : (!decide (optV (at_ p k) = V.non)) = (at_ p k).isSome := by
          cases at_ p k <;> rfl
        rw [e1]
        cases hs : (at_ p k).isSome with
        | false =>
          rw [hs] at done
          exact iteF (iteF (done rfl))
        | true =>
          rw [hs] at done
          refine iteT ⟨_, rfl, _, rfl, _, rfl, ix_at (sT _ _ ha) ml ⟨scal_opt _ _, _, rfl, ?_⟩⟩
          rw [dec_optO]
          by_cases h1 : at_ p k = at_ p m
          · rw [decide_eq_true h1] at done ⊢
            refine iteT ⟨_, rfl, _, rfl, ix_at (sT _ _ hb) (by omega) ⟨_, rfl, _, rfl, ix_at (sT _ _ hb) (by omega) ⟨scal_opt _ _, _, rfl, ?_⟩⟩⟩
            rw [dec_optO]
            by_cases h2 : at_ q k = at_ q m
            · rw [decide_eq_true h2] at done ⊢
              exact iteF (done rfl)
            · rw [decide_eq_false h2]
              refine iteT (qq _ false sT ⟨fun z => (by cases z), fun z => absurd ((finer_iff hM).mp z k hk m hm) ?_⟩)
              unfold badB
              rw [hs, decide_eq_true h1, decide_eq_false h2]
              decide
          · rw [decide_eq_false h1] at done ⊢
            exact iteF (iteF (done rfl))
      · rintro σ H3 ⟨x5, rfl, rfl, hb2⟩
        refine ⟨_, _, _, rfl, sT, fun i hi j hj => ?_⟩
        by_cases e : i = k
        · subst e; exact hb2 j hj
        · exact hb1 i (by omega) j hj
    · rintro σ H1 ⟨x2, x3, x4, rfl, s1, hb1⟩
      refine qq _ _ s1 ⟨fun _ => (finer_iff hM).mpr fun i hi j hj => hb1 i (by rw [List.length_map]; exact hi) j hj, fun _ => rfl⟩
theorem ok_is {f : Addr} {fd : FuncData} (F : FnP K "_law_is" sIs f fd) (z_isinstance : mg "isinstance" = none) (z_bool : mg "bool" = none) : FnOk P w K mg base CX0 1 f fd ["_law_told", "_law_due"] spIs := by
  have sc : FnScope ["_law_told", "_law_due"] ["_law_told", "_law_due"] (defScope sIs) := ⟨rfl, rfl, rfl, by decide +kernel, rfl, by decide +kernel, by decide +kernel⟩
  refine F.ok sc (fun vs H Q E h => ?_) (fun cdv A outer s H vs Q E hr h => ?_)
  · obtain ⟨t, u, rfl, _⟩ := h
    rfl
  · obtain ⟨t, u, rfl, q⟩ := h
    refine ⟨_, PSs.nox (pss_one (ps_ret (pe_and (pe_callB call_isi (by rfl) z_isinstance (by decide +kernel) (pa_cons (pv 0) (pa_cons (pe_bltn (by rfl) z_bool (by decide +kernel) (v := .ty "bool") rfl) pa_nil))) (pe_one (pe_cmpR op_eq (pv 0) (pv 1) (nomark _)))))), ?_⟩
    refine ⟨_, rfl, _, _, _, _, true, rfl, .ty _, .base (.bl t), kit_ty (by decide), _, rfl, iteT ⟨_, rfl, _, rfl, rfl, ?_⟩⟩
    have e : decide (V.bl t = V.bl u) = decide (t = u) := decide_eq_decide.mpr ⟨fun z => V.bl.inj z, fun z => by rw [z]⟩
    rw [e]
    exact q
theorem ok_mw {f : Addr} {fd : FuncData} (F : FnP K "_law_match_word" sMatchWord f fd) (z_range : mg "range" = none) (z_len : mg "len" = none) : FnOk P w K mg base CX0 1 f fd ["_law_one", "_law_other"] spMW := by
  have sc : FnScope ["_law_one", "_law_other", "_law_wrong", "_law_at"] ["_law_one", "_law_other"] (defScope sMatchWord) := ⟨rfl, rfl, rfl, by decide +kernel, rfl, by decide +kernel, by decide +kernel⟩
  refine F.ok sc (fun vs H Q E h => ?_) (fun cdv A outer s H vs Q E hr h => ?_)
  · obtain ⟨a, b, p, q, rfl, _⟩ := h
    rfl
  · obtain ⟨a, b, p, q, rfl, ha, hb, hl, hl2, qq⟩ := h
    refine ⟨_, PSs.nox (pss_cons (ps_if (pt_cmpR op_ne (pe_callB call_len_seq (by rfl) z_len boot_len (pa_cons (pv 0) pa_nil)) (pe_callB call_len_seq (by rfl) z_len boot_len (pa_cons (pv 1) pa_nil)) (nomark _))
      (pss_one (ps_ret pe_str))
      pss_nil)
    (pss_cons (ps_setLc (i := 2) (own := [("_law_at", 3)]) (g := gName 3) (tt := tTest (tOp rNe (tOp (fun x y H Q => y = V.non ∧ Q (V.bl (decide (x = V.non))) H) (tOp (rIxL K) (tVar 0) (tVar 3)) (tC V.non)) (tOp (fun x y H Q => y = V.non ∧ Q (V.bl (decide (x = V.non))) H) (tOp (rIxL K) (tVar 1) (tVar 3)) (tC V.non)))) (te := tVar 3) rfl sc.nd rfl rfl (sw_true rfl rfl rfl (by decide +kernel)) (pi_range1 (by rfl) z_range (pa_cons (pe_callB call_len_seq (by rfl) z_len boot_len (pa_cons (pv 0) pa_nil)) pa_nil)) (blkOk_by (N := ["_law_one", "_law_other", "_law_wrong", "_law_at"]) (sc := defScope sMatchWord) (by decide +kernel)) (fun _ _ _ _ _ => pg_name (i := 3) sc.nd rfl (Or.inl rfl)) (fun _ _ _ _ _ => pts_one (pt_cmpR op_ne (pe_cmpR op_isN (pe_ix ix_list (pv 0) (pv 3) (fun _ _ => rfl)) pe_non (nomark _)) (pe_cmpR op_isN (pe_ix ix_list (pv 1) (pv 3) (fun _ _ => rfl)) pe_non (nomark _)) (nomark _))) (fun _ _ _ _ _ => (pv 3)))
    (pss_one (ps_ret (pe_ifExp (pt_cmpR (op_neD hr.units) (pv 2) (pe_lst pa_nil) (nomark _)) pe_str pe_non))))), ?_⟩
    refine ⟨_, rfl, a, _, rfl, .inl (SqL.of ha), _, rfl, b, _, rfl, .inl (SqL.of hb), rfl, _, rfl, ?_⟩
    rw [List.length_map, List.length_map]
    by_cases hlen : p.length = q.length
    · rw [hlen, decide_eq_true rfl]
      refine iteF (tNext_of ?_)
      refine ⟨_, rfl, a, _, rfl, .inl (SqL.of ha), ?_⟩
      rw [List.length_map]
      refine ⟨(p.length : Int), rfl, by omega, by omega, fun D nD => lc_N (walk_rangeL p.length) (R6 p q) (lcR6 p q D) nD (by rw [List.length_map, List.length_range]; exact Nat.lt_of_le_of_lt hl (by decide)) ⟨[], rfl, Nat.le_refl _, ⟨fun _ i hi => absurd hi (Nat.not_lt_zero _), fun _ => rfl⟩⟩ (fun _ _ => trivial) (fun _ => rfl) ?_ (mT_test (mE_op mR_ne (mE_op mR_isN (mE_op mR_ixL mE_var mE_var) mE_c) (mE_op mR_isN (mE_op mR_ixL mE_var mE_var) mE_c))) mE_var ?_⟩
      · rintro i v acc H' ev s' eD ⟨ps, rfl, h1, h2⟩
        obtain ⟨hi, rfl⟩ := range_at ev
        refine ⟨_, rfl, _, rfl, ix_at (s' _ _ ha) hi ⟨rfl, _, rfl, _, rfl, ix_at (s' _ _ hb) (by omega) ⟨rfl, rfl, _, rfl, Same.refl _, ?_⟩⟩⟩
        have e : (!decide (V.bl (decide (optV (at_ p i) = V.non)) = V.bl (decide (optV (at_ q i) = V.non)))) = wrongAt p q i := by
          unfold wrongAt
          cases at_ p i <;> cases at_ q i <;> rfl
        rw [e]
        cases hw : wrongAt p q i with
        | true =>
          refine iteT ⟨_, rfl, Same.refl _, ps ++ [i], by rw [List.map_append]; rfl, by rw [List.length_append]; exact Nat.succ_le_succ h1, ⟨fun z => by simp at z, fun z => ?_⟩⟩
          rw [z i (Nat.lt_succ_self i)] at hw
          cases hw
        | false =>
          refine iteF ⟨ps, rfl, Nat.le_succ_of_le h1, h2.trans ⟨fun z j hj => ?_, fun z j hj => z j (by omega)⟩⟩
          by_cases ej : j = i
          · rw [ej]; exact hw
          · exact z j (by omega)
      rintro H1 acc s1 eD ⟨ps, rfl, h1, h2⟩
      rw [List.length_map, List.length_range] at h1 h2
      rw [wrong_all hlen] at h2
      refine ⟨_, rfl, Nat.zero_le _, fun D2 nD2 => ?_⟩
      have s2 := same_upd (o := .lst []) nD2
      refine ⟨_, _, (Dt.lst (S := Any) trivial (s2 _ _ eD) (dt_nats _)).dp, (Dt.lst (S := Any) trivial upd_same .nil).dp, shaped_nats _, by rfl, _, rfl, ?_⟩
      unfold wordV at qq
      rw [if_pos hlen] at qq
      cases ps with
      | nil =>
        rw [if_pos (h2.mp rfl)] at qq
        exact iteF (qq _ (s1.trans s2))
      | cons a0 ps =>
        rw [if_neg (fun z => by have := h2.mpr z; cases this)] at qq
        exact iteT (qq _ (s1.trans s2))
    · rw [decide_eq_false (fun z => hlen (by have := V.int.inj z; omega))]
      unfold wordV at qq
      rw [if_neg hlen] at qq
      exact iteT (qq _ (Same.refl _))
end
end K26

/-! the law's own least above and greatest beneath -/
namespace K26
open PySem PySem.Spec PyProof.Rows L2
abbrev nats (l : List Nat) : List V := l.map fun n : Nat => V.int (n : Int)
theorem nats_app (l m : List Nat) : nats (l ++ m) = nats l ++ nats m := List.map_append
theorem ix_n {K : PySem.W.Frag} {H : Hp} {a : Addr} {l : List Nat} {i : Nat} {Q : VK} (ha : H a = some (.lst (nats l))) (h : i < l.length) (q : Q (.int (mk l i : Int)) H) : rIxL K (.ref a) (.int (i : Int)) H Q :=
  ⟨a, _, _, _, rfl, rfl, SqL.of ha, atI_nat (by rw [List.getElem?_map, getD_some h]; rfl), q⟩
theorem dec_nat (m n : Nat) : decide (V.int (m : Int) = V.int (n : Int)) = decide (m = n) := decide_eq_decide.mpr ⟨fun z => by have := V.int.inj z; omega, fun z => by rw [z]⟩
def spLA (R : List (Option Nat) → List (Option Nat) → List (Option Nat) → Prop) : Sp := fun vs H Q _ => ∃ (a b : Addr) (p q : List (Option Nat)), vs = [.ref a, .ref b] ∧ H a = some (.lst (vals p)) ∧ H b = some (.lst (vals q)) ∧ Mask p q ∧ p.length ≤ 40 ∧ ∀ (H' : Hp) (z : Addr) (l : List (Option Nat)), Same H H' → H z = none → H' z = some (.lst (vals l)) → Pt l → R l p q → Q (.ref z) H'
section
variable {P : Program} {w : World} {K : PySem.W.Frag} {mg : Str → Option Value} {base : Heap}
theorem ok_be {f fN : Addr} {fd fdN : FuncData} (F : FnP K "_law_beneath" sBeneath f fd) (z_range : mg "range" = none) (z_len : mg "len" = none) (dN : Df P w K mg base "_law_numbers" 1 ["_law_things"] (spNums datP) fN fdN) : FnOk P w K mg base CX0 2 f fd ["_law_one", "_law_other"] (spLA fun l p q => IsMeet l p q) := by
  have sc : FnScope ["_law_one", "_law_other", "_law_at"] ["_law_one", "_law_other"] (defScope sBeneath) := ⟨rfl, rfl, rfl, by decide +kernel, rfl, by decide +kernel, by decide +kernel⟩
  refine F.ok sc (fun vs H Q E h => ?_) (fun cdv A outer s H vs Q E hr1 h => ?_)
  · obtain ⟨a, b, p, q, rfl, _⟩ := h
    rfl
  · obtain ⟨a, b, p, q, rfl, ha, hb, hM, hl, qq⟩ := h
    have lq := hM.len
    refine ⟨_, PSs.nox (pss_one (ps_ret (pe_call dN.ok hr1 (by rfl) dN.gl dN.kp dN.bi .nil pass0 (pa_cons (pe_lc (own := [("_law_at", 2)]) (g := gName 2) (tt := tYes) (te := tIf (tTest (tOp (fun x y H Q => y = V.non ∧ Q (V.bl (decide (x = V.non))) H) (tOp (rIxL K) (tVar 0) (tVar 2)) (tC V.non))) (tC V.non) (tTup (tCons (tOp (rIxL K) (tVar 0) (tVar 2)) (tCons (tOp (rIxL K) (tVar 1) (tVar 2)) tNil)))) rfl sc.nd (pi_range1 (by rfl) z_range (pa_cons (pe_callB call_len_seq (by rfl) z_len boot_len (pa_cons (pv 0) pa_nil)) pa_nil)) (blkOk_by (N := ["_law_one", "_law_other", "_law_at"]) (sc := defScope sBeneath) (by decide +kernel)) (fun _ _ _ _ _ => pg_name (i := 2) sc.nd rfl (Or.inl rfl)) (fun _ _ _ _ _ => pts_nil) (fun _ _ _ _ _ => (pe_ifExp (pt_cmpR op_isN (pe_ix ix_list (pv 0) (pv 2) (fun _ _ => rfl)) pe_non (nomark _)) pe_non (pe_tup (pa_cons (pe_ix ix_list (pv 0) (pv 2) (fun _ _ => rfl)) (pa_cons (pe_ix ix_list (pv 1) (pv 2) (fun _ _ => rfl)) pa_nil)))))) pa_nil)))), ?_⟩
    refine ⟨_, rfl, a, _, rfl, .inl (SqL.of ha), ?_⟩
    rw [List.length_map]
    refine ⟨(p.length : Int), rfl, by omega, by omega, fun D nD => lc_N (walk_rangeL p.length) (R2 p q) (lcR2 p q D) nD (by rw [List.length_map, List.length_range]; exact Nat.lt_of_le_of_lt hl (by decide)) ⟨rfl, fun i v o e => by cases e⟩ (fun _ _ => trivial) (fun _ => rfl) ?_ mT_yes (mE_if (mT_test (mE_op mR_isN (mE_op mR_ixL mE_var mE_var) mE_c)) mE_c (mE_tup (mA_cons (mE_op mR_ixL mE_var mE_var) (mA_cons (mE_op mR_ixL mE_var mE_var) mA_nil)))) ?_⟩
    · rintro i v acc H' ev s' eD ⟨r1, r2⟩
      obtain ⟨hi, rfl⟩ := range_at ev
      refine ⟨Same.refl _, iteT ⟨_, rfl, _, rfl, ix_at (s' _ _ ha) hi ⟨rfl, _, rfl, ?_⟩⟩⟩
      have el := pairL_at (q := q) hi
      cases ep : at_ p i with
      | none =>
        rw [ep] at el
        refine iteT ⟨Same.refl _, by rw [List.length_append, r1]; rfl, fun j v o e eo => ?_⟩
        rcases snoc_get e with e | ⟨rfl, rfl⟩
        · exact r2 j v o e eo
        · rw [r1, el] at eo
          obtain rfl := Option.some.inj eo
          exact rfl
      | some n =>
        obtain ⟨m, em⟩ := hM.some (show p[i]? = some (some n) by rw [at_get hi, ep])
        have eq_ := at_of em
        rw [ep, eq_] at el
        refine iteF ⟨_, rfl, _, rfl, ix_at (s' _ _ ha) hi ⟨_, rfl, _, rfl, ix_at (s' _ _ hb) (by omega) ⟨(by show 2 ≤ sizeLine; decide), fun T nT => ⟨same_upd nT, by rw [List.length_append, r1]; rfl, fun j v o e eo => ?_⟩⟩⟩⟩
        rw [ep, eq_]
        rcases snoc_get e with e | ⟨rfl, rfl⟩
        · have z := r2 j v o e eo
          cases o with
          | none => exact z
          | some xy =>
            obtain ⟨t, rfl, ht⟩ := z
            exact ⟨t, rfl, same_upd nT _ _ ht⟩
        · rw [r1, el] at eo
          obtain rfl := Option.some.inj eo
          exact ⟨T, rfl, upd_same⟩
    rintro H1 acc s1 eD ⟨r1, r2⟩
    rw [List.length_map, List.length_range] at r1
    refine ⟨D, acc, pairL p q, rfl, eD, by rw [r1, pairL_len], fun i v o e g => ?_, by rw [pairL_len]; omega, fun H2 z s2 nz ez => ?_⟩
    · have z := r2 i v o e g
      cases o with
      | none => exact z
      | some xy =>
        obtain ⟨t, rfl, ht⟩ := z
        exact .tup trivial ht (.cons (.int _) (.cons (.int _) .nil))
    · exact qq H2 z _ (s1.trans s2) (none_of s1 nz) ez (Pt.nums _) (beneath_meet hM).nums
theorem ok_ab {f fN : Addr} {fd fdN : FuncData} (F : FnP K "_law_above" sAbove f fd) (z_list : mg "list" = none) (z_range : mg "range" = none) (z_len : mg "len" = none) (dN : Df P w K mg base "_law_numbers" 1 ["_law_things"] (spNums encN) fN fdN) : FnOk P w K mg base CX0 2 f fd ["_law_one", "_law_other"] (spLA fun l p q => IsJoin l p q) := by
  have sc : FnScope ["_law_one", "_law_other", "_law_marks", "_law_at", "_law_to", "_law_linked", "_law_old", "_law_new", "_law_mark"] ["_law_one", "_law_other"] (defScope sAbove) := ⟨rfl, rfl, rfl, by decide +kernel, rfl, by decide +kernel, by decide +kernel⟩
  refine F.ok sc (fun vs H Q E h => ?_) (fun cdv A outer s H vs Q E hr1 h => ?_)
  · obtain ⟨a, b, p, q, rfl, _⟩ := h
    rfl
  · obtain ⟨a, b, p, q, rfl, ha, hb, hM, hl, qq⟩ := h
    have lq := hM.len
    refine ⟨_, PSs.nox (pss_cons (ps_set (i := 2) sc.nd rfl (.inr rfl) (pe_listRg rfl (by rfl) z_list (prg_1 (by rfl) z_range (pe_callB call_len_seq (by rfl) z_len boot_len (pa_cons (pv 0) pa_nil)))))
    (pss_cons (ps_for PassesOwn.never rfl (pi_range1 (by rfl) z_range (pa_cons (pe_callB call_len_seq (by rfl) z_len boot_len (pa_cons (pv 0) pa_nil)) pa_nil)) (pg_name (i := 3) sc.nd rfl (.inl rfl))
      (pss_one (ps_for PassesOwn.never rfl (pi_range1 (by rfl) z_range (pa_cons (pv 3) pa_nil)) (pg_name (i := 4) sc.nd rfl (.inl rfl))
        (pss_cons (ps_set (i := 5) sc.nd rfl (.inl rfl) (pe_and (pe_cmpR op_notN (pe_ix ix_list (pv 0) (pv 3) (fun _ _ => rfl)) pe_non (nomark _)) (pe_one (pe_or (pe_cmpR op_eq (pe_ix ix_list (pv 0) (pv 3) (fun _ _ => rfl)) (pe_ix ix_list (pv 0) (pv 4) (fun _ _ => rfl)) (nomark _)) (pe_one (pe_cmpR op_eq (pe_ix ix_list (pv 1) (pv 3) (fun _ _ => rfl)) (pe_ix ix_list (pv 1) (pv 4) (fun _ _ => rfl)) (nomark _)))))))
        (pss_one (ps_if (PW.pt (pw_and (pt_val (pv 5)) (pw_and1 (pt_cmpR op_ne (pe_ix ix_list (pv 2) (pv 3) (fun _ _ => rfl)) (pe_ix ix_list (pv 2) (pv 4) (fun _ _ => rfl)) (nomark _)))))
          (pss_cons (ps_asg (pe_tup (pa_cons (pe_ix ix_list (pv 2) (pv 3) (fun _ _ => rfl)) (pa_cons (pe_ix ix_list (pv 2) (pv 4) (fun _ _ => rfl)) pa_nil))) (pg_tup (by rfl) (pgs_cons (pg_name (i := 6) sc.nd rfl (Or.inr rfl)) (pgs_cons (pg_name (i := 7) sc.nd rfl (Or.inr rfl)) pgs_nil))))
          (pss_one (ps_set (i := 2) sc.nd rfl (.inr rfl) (pe_lc (own := [("_law_mark", 8)]) (g := gName 8) (tt := tYes) rfl sc.nd (pi_list (pv 2)) (blkOk_by (N := ["_law_one", "_law_other", "_law_marks", "_law_at", "_law_to", "_law_linked", "_law_old", "_law_new", "_law_mark"]) (sc := defScope sAbove) (by decide +kernel)) (fun _ _ _ _ _ => pg_name (i := 8) sc.nd rfl (Or.inl rfl)) (fun _ _ _ _ _ => pts_nil) (fun _ _ _ _ _ => (pe_ifExp (pt_cmpR op_eq (pv 8) (pv 6) (nomark _)) (pv 7) (pv 8)))))))
          pss_nil))))))
    (pss_one (ps_ret (pe_call dN.ok hr1 (by rfl) dN.gl dN.kp dN.bi .nil pass0 (pa_cons (pe_lc (own := [("_law_at", 3)]) (g := gName 3) (tt := tYes) (te := tIf (tTest (tOp (fun x y H Q => y = V.non ∧ Q (V.bl (decide (x = V.non))) H) (tOp (rIxL K) (tVar 0) (tVar 3)) (tC V.non))) (tC V.non) (tOp (rIxL K) (tVar 2) (tVar 3))) rfl sc.nd (pi_range1 (by rfl) z_range (pa_cons (pe_callB call_len_seq (by rfl) z_len boot_len (pa_cons (pv 0) pa_nil)) pa_nil)) (blkOk_by (N := ["_law_one", "_law_other", "_law_marks", "_law_at", "_law_to", "_law_linked", "_law_old", "_law_new", "_law_mark"]) (sc := defScope sAbove) (by decide +kernel)) (fun _ _ _ _ _ => pg_name (i := 3) sc.nd rfl (Or.inl rfl)) (fun _ _ _ _ _ => pts_nil) (fun _ _ _ _ _ => (pe_ifExp (pt_cmpR op_isN (pe_ix ix_list (pv 0) (pv 3) (fun _ _ => rfl)) pe_non (nomark _)) pe_non (pe_ix ix_list (pv 2) (pv 3) (fun _ _ => rfl))))) pa_nil)))))), ?_⟩
    refine ⟨_, rfl, a, _, rfl, .inl (SqL.of ha), ?_⟩
    rw [List.length_map]
    refine ⟨_, rfl, RgOk.of_le (by decide) (by omega) (by decide) (by omega), fun m0 nm0 => ?_⟩
    have sm0 := same_upd (o := .lst (nats (List.range p.length))) nm0
    have eRg : rgV 0 (p.length : Int) = nats (List.range p.length) := by
      unfold rgV
      rw [show ((p.length : Int) - 0).toNat = p.length by omega]
      refine List.map_congr_left fun i _ => ?_
      show V.int (0 + (i : Int)) = V.int (i : Int)
      rw [Int.zero_add]
    rw [eRg]
    refine ⟨_, rfl, a, _, rfl, .inl (SqL.of (sm0 _ _ ha)), ?_⟩
    rw [List.length_map]
    refine ⟨(p.length : Int), rfl, by omega, by omega, ?_⟩
    refine for_it walk_range (fun k σ H' => ∃ (m : Addr) (x3 x4 x5 x6 x7 x8 : Option V), σ = [some (.ref a), some (.ref b), some (.ref m), x3, x4, x5, x6, x7, x8] ∧ H' m = some (.lst (nats (outerM p q k))) ∧ Same H H')
      ⟨m0, none, none, none, none, none, none, rfl, upd_same, sm0⟩ (fun _ _ _ _ _ => trivial) ?_ ?_
    · rintro k y σ H1 H2 hk ⟨m, x3, x4, x5, x6, x7, x8, rfl, hm, s1⟩ ⟨rfl, rfl⟩
      show gName 3 (V.int (0 + (k : Int))) _ _ _
      rw [Int.zero_add]
      have kl : k < p.length := hk
      have ml : (outerM p q k).length = p.length := outerM_len k
      refine ⟨_, rfl, (k : Int), rfl, by omega, by omega, ?_⟩
      refine for_it walk_range (fun j σ H' => ∃ (m : Addr) (x4 x5 x6 x7 x8 : Option V), σ = [some (.ref a), some (.ref b), some (.ref m), some (.int (k : Int)), x4, x5, x6, x7, x8] ∧ H' m = some (.lst (nats (innerM p q (outerM p q k) k j))) ∧ Same H H')
        ⟨m, x4, x5, x6, x7, x8, rfl, hm, s1⟩ (fun _ _ _ _ _ => trivial) ?_ ?_
      · rintro j y σ H3 H4 hj ⟨m, x4, x5, x6, x7, x8, rfl, hm, s1⟩ ⟨rfl, rfl⟩
        show gName 4 (V.int (0 + (j : Int))) _ _ _
        rw [Int.zero_add]
        have jl : j < p.length := Nat.lt_trans (show j < k from hj) kl
        have ml2 : (innerM p q (outerM p q k) k j).length = p.length := (innerM_len j).trans ml
        have nxt : innerM p q (outerM p q k) k (j + 1) = stepM p q (innerM p q (outerM p q k) k j) k j := rfl
        rw [nxt]
        generalize innerM p q (outerM p q k) k j = marks at hm ml2 ⊢
        have lk : ∀ Q2 : VK, Q2 (.bl (linkB p q k j)) H4 → tAndV (tOp (fun x y H Q => y = V.non ∧ Q (V.bl !decide (x = V.non)) H) (tOp (rIxL K) (tVar 0) (tVar 3)) (tC V.non)) (tOrV (tOp rEq (tOp (rIxL K) (tVar 0) (tVar 3)) (tOp (rIxL K) (tVar 0) (tVar 4))) (tOp rEq (tOp (rIxL K) (tVar 1) (tVar 3)) (tOp (rIxL K) (tVar 1) (tVar 4)))) [some (.ref a), some (.ref b), some (.ref m), some (.int (k : Int)), some (.int (j : Int)), x5, x6, x7, x8] H4 Q2 := fun Q2 q2 => by
          unfold linkB at q2
          refine ⟨_, rfl, _, rfl, ix_at (s1 _ _ ha) kl ⟨rfl, _, rfl, ?_⟩⟩
          have e1 : (!decide (optV (at_ p k) = V.non)) = (at_ p k).isSome := by
            cases at_ p k <;> rfl
          rw [e1]
          cases hs : (at_ p k).isSome with
          | false =>
            rw [hs] at q2
            exact iteF q2
          | true =>
            rw [hs] at q2
            refine iteT ⟨_, rfl, _, rfl, ix_at (s1 _ _ ha) kl ⟨_, rfl, _, rfl, ix_at (s1 _ _ ha) jl ⟨scal_opt _ _, _, rfl, ?_⟩⟩⟩
            rw [dec_optO]
            by_cases h1 : at_ p k = at_ p j
            · rw [decide_eq_true h1] at q2 ⊢
              exact iteT q2
            · rw [decide_eq_false h1] at q2 ⊢
              refine iteF ⟨_, rfl, _, rfl, ix_at (s1 _ _ hb) (by omega) ⟨_, rfl, _, rfl, ix_at (s1 _ _ hb) (by omega) ⟨scal_opt _ _, ?_⟩⟩⟩
              rw [dec_optO]
              exact q2
        refine lk _ ?_
        have stay : ∀ x5' : Option V, ¬ (linkB p q k j = true ∧ mk marks k ≠ mk marks j) → ∃ (m' : Addr) (x4' x5'' x6' x7' x8' : Option V), [some (.ref a), some (.ref b), some (.ref m), some (.int (k : Int)), some (.int (j : Int)), x5', x6, x7, x8] = [some (.ref a), some (.ref b), some (.ref m'), some (.int (k : Int)), x4', x5'', x6', x7', x8'] ∧ H4 m' = some (.lst (nats (stepM p q marks k j))) ∧ Same H H4 := fun x5' h => ⟨m, _, _, _, _, _, rfl, by unfold stepM; rw [if_neg h]; exact hm, s1⟩
        refine ⟨_, rfl, _, rfl, ?_⟩
        cases hl2 : linkB p q k j with
        | false =>
          exact iteF (iteF (stay _ (fun z => by rw [hl2] at z; cases z.1)))
        | true =>
          refine iteT ⟨_, rfl, _, rfl, ix_n hm (by omega) ⟨_, rfl, _, rfl, ix_n hm (by omega) ⟨rfl, _, rfl, ?_⟩⟩⟩
          rw [dec_nat]
          by_cases he : mk marks k = mk marks j
          · rw [decide_eq_true he]
            exact iteF (stay _ (fun z => z.2 he))
          rw [decide_eq_false he]
          refine iteT ⟨_, rfl, _, rfl, ix_n hm (by omega) ⟨_, rfl, _, rfl, ix_n hm (by omega) ⟨(by show 2 ≤ sizeLine; decide), fun T nT => ⟨T, _, rfl, .inl (.inl upd_same), rfl, _, _, rfl, _, _, rfl, rfl, ?_⟩⟩⟩⟩
          have sT := s1.trans (same_upd (o := .tup [.int (mk marks k : Int), .int (mk marks j : Int)]) nT)
          have hmT := (same_upd (o := .tup [.int (mk marks k : Int), .int (mk marks j : Int)]) nT) _ _ hm
          generalize upd H4 T (.tup [.int (mk marks k : Int), .int (mk marks j : Int)]) = H5 at sT hmT ⊢
          refine ⟨_, rfl, m, rfl, ⟨_, SqL.of hmT⟩, fun D nD => lc_N walk_list (fun i acc _ => acc = nats ((marks.map fun x => if x = mk marks k then mk marks j else x).take i)) (lcR_pure fun i => by rw [List.length_map]; exact List.length_take_le _ _) nD (by rw [List.length_map]; exact Nat.lt_of_le_of_lt (show marks.length ≤ 40 by omega) (by decide)) rfl (fun H' s' => SqL.of (s' _ _ hmT)) (fun _ => rfl) ?_ mT_yes (mE_if (mT_test (mE_op mR_eq mE_var mE_var)) mE_var mE_var) ?_⟩
          · rintro i v acc H' ev s' eD' rfl
            obtain ⟨x, ex, rfl⟩ := (by simpa using ev : ∃ x, marks[i]? = some x ∧ V.int (x : Int) = v)
            have nx : (marks.map fun x => if x = mk marks k then mk marks j else x)[i]? = some (if x = mk marks k then mk marks j else x) := by rw [List.getElem?_map, ex]; rfl
            refine ⟨Same.refl _, iteT ⟨_, rfl, _, rfl, rfl, _, rfl, ?_⟩⟩
            rw [dec_nat]
            by_cases hx : x = mk marks k
            · rw [decide_eq_true hx]
              rw [if_pos hx] at nx
              refine iteT ⟨_, rfl, Same.refl _, ?_⟩
              rw [take_snoc' nx, nats_app]
              rfl
            · rw [decide_eq_false hx]
              rw [if_neg hx] at nx
              refine iteF ⟨_, rfl, Same.refl _, ?_⟩
              rw [take_snoc' nx, nats_app]
              rfl
          rintro H6 acc s6 eD6 rfl
          rw [List.take_of_length_le (by rw [List.length_map, List.length_map]; exact Nat.le_refl _)] at eD6
          refine ⟨D, _, _, _, _, _, rfl, ?_, sT.trans s6⟩
          rw [eD6]
          unfold stepM
          rw [if_pos ⟨hl2, he⟩]
      · rintro σ H3 ⟨m, x4, x5, x6, x7, x8, rfl, hm, s1⟩
        exact ⟨m, _, _, _, _, _, _, rfl, hm, s1⟩
    · rintro σ H1 ⟨m, x3, x4, x5, x6, x7, x8, rfl, hm, s1⟩
      have hm : H1 m = some (.lst (nats (outerM p q p.length))) := hm
      have ml : (outerM p q p.length).length = p.length := outerM_len _
      refine ⟨_, rfl, a, _, rfl, .inl (SqL.of (s1 _ _ ha)), ?_⟩
      rw [List.length_map]
      have la : (aboveL p q).length = p.length := marked_len
      refine ⟨(p.length : Int), rfl, by omega, by omega, fun D nD => lc_N (walk_rangeL p.length) (fun i acc _ => acc = vals ((aboveL p q).take i)) (lcR_pure fun i => by rw [List.length_map]; exact List.length_take_le _ _) nD (by rw [List.length_map, List.length_range]; exact Nat.lt_of_le_of_lt hl (by decide)) rfl (fun _ _ => trivial) (fun _ => rfl) ?_ mT_yes (mE_if (mT_test (mE_op mR_isN (mE_op mR_ixL mE_var mE_var) mE_c)) mE_c (mE_op mR_ixL mE_var mE_var)) ?_⟩
      · rintro i v acc H' ev s' eD rfl
        obtain ⟨hi, rfl⟩ := range_at ev
        have nx : (aboveL p q)[i]? = some (if at_ p i = none then none else some (mk (outerM p q p.length) i)) := marked_at hi
        refine ⟨Same.refl _, iteT ⟨_, rfl, _, rfl, ix_at (s' _ _ (s1 _ _ ha)) hi ⟨rfl, _, rfl, ?_⟩⟩⟩
        cases ep : at_ p i with
        | none =>
          rw [if_pos ep] at nx
          refine iteT ⟨Same.refl _, ?_⟩
          rw [take_snoc' nx, vals_app]
          rfl
        | some n =>
          rw [if_neg (by rw [ep]; exact Option.some_ne_none n)] at nx
          refine iteF ⟨_, rfl, _, rfl, ix_n (s' _ _ hm) (by omega) ⟨Same.refl _, ?_⟩⟩
          rw [take_snoc' nx, vals_app]
          rfl
      rintro H2 acc s2 eD rfl
      rw [List.take_of_length_le (by rw [List.length_map, List.length_range, la]; exact Nat.le_refl _)] at eD
      refine ⟨D, _, aboveL p q, rfl, eD, List.length_map .., fun i v o e g => thv_vals e g, by omega, fun H3 z s3 nz ez => ?_⟩
      exact qq H3 z _ ((s1.trans s2).trans s3) (none_of (s1.trans s2) nz) ez (Pt.nums _) (above_join hM).nums
end
end K26

/-! a lambda called in a try: the word of a BadMatch -/
namespace K26
open PySem PySem.Spec PyProof.Rows L2 LamX
/-- BadMatch, caught -/
structure MtX (K : PySem.W.Frag) (mg : Str → Option Value) (CB : Addr) : Prop where
  gl : mg "BadMatch" = some (.ref CB)
  xf : XfC K CB
  nW : PySem.W.findIn K (.ref CB) "what" = some none
  ex : PySem.W.exmOne K (.ref CB) (.ref CB) = some true
def TWord (K : PySem.W.Frag) (CB : Addr) : (XK → Hp → VK → Prop) → Hp → VK → Prop := fun tl H Q =>
  tl (fun cls d H' => cls = .ref CB ∧ ∃ (dd : Addr) (fs : List (Str × V)) (v : V), d = some dd ∧ H' dd = some (.xd fs) ∧ fs.lookup ("what" : Str) = some v ∧ Q v H') H fun _ H' => ∃ x : V, (some (some V.non) : Option (Option V)) = some (some x) ∧ Q x H'
abbrev nmW : List Str := ["_law_call", "_law_found", "e"]
theorem scWord : FnScope nmW ["_law_call"] (defScope sWord) := ⟨rfl, rfl, rfl, by decide +kernel, rfl, by decide +kernel, by decide +kernel⟩
theorem word_gives {X : Cx} {q : Str} {g CB : Addr} {cdg : Value} (N : MtX X.K X.mg CB) : GivesTo X nmW "_law_word" (defScope sWord) g cdg (defBody sWord) "_law_call" q (TWord X.K CB) := by
  intro f c' s H Q tl act hc h
  refine ⟨_, pss_cons (ps_set (X := (cxOf C8.CX0 X.prog X.w X.K X.mg X.base nmW "_law_word" (defScope sWord) g cdg X.A X.stack s H C8.E0).nox) (i := 1) scWord.nd rfl (.inl rfl) pe_non) (pss_cons (ps_try_as (X := (cxOf C8.CX0 X.prog X.w X.K X.mg X.base nmW "_law_word" (defScope sWord) g cdg X.A X.stack s H C8.E0).nox) (i := 2) (c := .ref CB)
      (tb := fun W D σ H => ∃ Ech : XK, (∀ (cls : Value) (d : Option Addr) (σ' : L2.St) (H' : Hp), σ'.length = 3 → Ech cls d H' → W cls d σ' H') ∧ σ[0]? = some (some (.ref f)) ∧ H c' = some (CodeO c' q) ∧ tl Ech H fun _ H1 => D.nx σ H1)
      (ts := fun a cls d => tAsg (tXf a cls d CB "what" (tVar 2)) (gName 1))
      (Wout := fun _ _ _ _ => False) rfl rfl scWord.nd rfl rfl ⟨rfl, by decide, .inl N.gl⟩ L2.takes0
      (fun W pn xe tk _ => ?_)
      (fun a oe cls d pn hz hf => pss_one (ps_set (i := 1) scWord.nd rfl (.inl rfl) (pe_xf N.xf N.nW hz hf (pv 2))))) (pss_one (ps_ret (pv 1)))), ?_⟩
  · refine ⟨fun pins s' σ H' D I h' => ?_⟩
    obtain ⟨Ech, hW, h1, h2, h3⟩ := h'
    have tk2 : Takes ((cxOf C8.CX0 X.prog X.w X.K X.mg X.base nmW "_law_word" (defScope sWord) g cdg X.A X.stack s H C8.E0).tr pn xe) (fun cls d σ H => σ.length = 3 → W cls d σ H) := fun u s' ⟨a, B, sI, pins, σ, H, cls, d, e, I, nb, up, sky, na, os, ag, w⟩ => tk u s' ⟨a, B, sI, pins, σ, H, cls, d, e, I, nb, up, sky, na, os, ag, w I.len⟩
    exact (pss_one (ps_expr (act _ pn xe Ech _ _ tk2 fun cls d σ' H' z l => hW cls d σ' H' l z))).run pins s' σ H' D I ⟨h1, h2, h3⟩
  · refine ⟨_, fun cls d σ' H' l z => ?_, rfl, hc, h⟩
    obtain ⟨rfl, dd, fs, v, rfl, e1, e2, q1⟩ := z
    match σ', l with
    | [x0, x1, x2], _ =>
      refine ⟨true, N.ex, fun _ a na => ?_, fun z => by cases z⟩
      exact ⟨_, rfl, rfl, rfl, dd, fs, v, rfl, e1, e2, _, rfl, q1⟩
end K26

/-! patterns that do not match -/
namespace K26
open PySem PySem.Spec PyProof.Rows L2 LamX
/-- a def as it stands, its code object known -/
structure FunC (K : PySem.W.Frag) (x qual : Str) (params : Arguments) (body : List Stmt) (scope : Scope) (c f : Addr) (fd : FuncData) : Prop where
  ex : ∃ (oc : Value) (od : Option Addr) (dV kV doc pm : Value) (an : Option Addr) (ct : Value) (osl : Array (Option Value)),
    fd = PySem.W.fnOf x qual params body scope dV kV doc pm an (.ref c) ct ∧ K.lookup f = some ⟨oc, od, .func fd, osl⟩ ∧ PySem.W.codeIn K (.ref c) qual = true
theorem FunC.ok {P : Program} {w : World} {K : PySem.W.Frag} {mg : Str → Option Value} {base : Heap} {x qual : Str} {params : Arguments} {body : List Stmt} {scope : Scope} {c f : Addr} {fd : FuncData} {CX : CXT} {N ps : List Str} {k : Nat} {sp : Sp} (F : FunC K x qual params body scope c f fd) (S : FnScope N ps scope) (len : ∀ vs H Q E, sp vs H Q E → vs.length = ps.length)
    (hbody : ∀ (A : Around) (outer : List Env) (s : Shared) (H : Hp) (vs : List V) (Q : VK) (E : XK), Room k (A.deeper (envOfC qual scope s.heap.objs.size f (.ref c))) → sp vs H Q E →
      ∃ t, PSs (cxOf CX P w K mg base N qual scope f (.ref c) A outer s H E) body t ∧ t { nx := fun _ H' => Q .non H', rt := Q } (L2.start N vs) H) : FnOk P w K mg base CX (k + 1) f fd ps sp := by
  obtain ⟨oc, od, dV, kV, doc, pm, an, ct, osl, rfl, lk, hcd⟩ := F.ex
  exact fn_of lk hcd S len fun A outer s H vs Q E hr hsp => hbody A outer s H vs Q E hr hsp
/-- an own operator -/
structure OpB (P : Program) (w : World) (K : PySem.W.Frag) (mg : Str → Option Value) (base : Heap) (CP : Addr) (op : Operator) (sp : Sp) (f : Addr) (fd : FuncData) : Prop where
  ok : FnOk P w K mg base (L2.CX P w) 5 f fd ["self", "other"] sp
  sf : PySem.W.selfFirst K CP = true
  fi : PySem.W.findIn K (.ref CP) (PySem.dunder op.info.2) = some (some (.ref f))
  fn : PySem.W.isFn K (.ref f) = true
  bi : Binds K fd ["self", "other"] []
theorem lam_passes {X : Cx} {A : Around} {outer : List Env} {s : Shared} {H : Hp} {E : XK} {scope : Scope} {f c : Addr} : Passes (L2.CX X.prog X.w) (lamCx X A outer s H E scope f c) E := L2.passes_call (L2.takes_of rfl rfl rfl rfl) fun _ _ _ _ h => h
abbrev qUn : Str := "_law_unmatched_right.<locals>.<lambda>"
theorem lamcall_word {X : Cx} {fW CB c Pt : Addr} {fdW : FuncData} {k : Nat} {params : Arguments} {body : Expr} {scope : Scope} {t : XK → TE} {p lpos pos : Pos} (FW : FnP X.K "_law_word" sWord fW fdW) (gW : X.mg "_law_word" = some (.ref fW)) (bW : Binds X.K fdW ["_law_call"] []) (N : MtX X.K X.mg CB) (TB : TabB X.base X.mg c Pt) (hr : Room (k + 2) X.A)
    (hbody : ∀ (A : Around) (outer : List Env) (s : Shared) (H : Hp) (E : XK) (f c' : Addr), Room k (A.deeper (lamEnv X scope s.heap.objs.size f c')) → PE (lamCx X A outer s H E scope f c') body (t E))
    (hg : Gl X "_law_word" := by rfl) (hcode : X.env.code = .ref c := by rfl) (hq : X.env.qual ++ "<lambda>" = qUn := by rfl) (L : lamSB X.env.scope scope = true := by exact (show lamSB (defScope sUnmatchedRight) _ = true by decide +kernel)) (hdef : defaultsOf params X.env = ([], []) := by rfl)
    (hbind : ∀ (q : Str) (cl : List (Str × Addr)) (pm cv ctv : Value), bindArgs (PySem.W.kla_fn "<lambda>" q params body scope cl pm cv ctv) ⟨[], []⟩ = pure [] := by intros; rfl) :
    PE X (.Call (.Name "_law_word" p) [.Lambda params body scope lpos] [] pos) (tLam [(Pt, qUn)] (TWord X.K CB) t) := by
  have kp := FW.kp
  obtain ⟨oc, od, dV, kV, doc, pm, an, cdv, ct, osl, rfl, lk, hcd, _, _⟩ := FW.ex
  exact pe_lamcall hg gW kp lk hcd bW scWord rfl (.inl rfl) (word_gives N) TB hcode (by rw [hq]; exact List.mem_singleton.mpr rfl) (fun p hp _ => by rw [List.mem_singleton.mp hp, hq]) hr (lamS_by L) hdef hbind hbody
theorem wordV_yes {p q : List (Option Nat)} (h : Mask p q) : wordV p q = .non := by
  unfold wordV
  rw [if_pos h.len, if_pos (mask_iff.mp h)]
theorem wordV_no {p q : List (Option Nat)} (h : ¬ Mask p q) : wordV p q = .str (wordM p q) := by
  unfold wordV wordM
  by_cases e : p.length = q.length
  · rw [if_pos e, if_neg (fun z => h (mask_iff.mpr z)), if_pos e]
  · rw [if_neg e, if_neg e]
theorem wordV_comm (p q : List (Option Nat)) : wordV q p = wordV p q := by
  by_cases h : Mask p q
  · rw [wordV_yes h, wordV_yes h.symm]
  · have h2 : ¬ Mask q p := fun z => h z.symm
    rw [wordV_no h, wordV_no h2]
    unfold wordM
    by_cases e : p.length = q.length
    · rw [if_pos e, if_pos e.symm]
    · rw [if_neg e, if_neg (fun z => e z.symm)]
theorem word_scal (p q : List (Option Nat)) : scal (wordV p q) (wordV p q) = true := by
  unfold wordV
  split
  · split
    · rfl
    · rfl
  · rfl
theorem tabs_same {T : List (Addr × Str)} {H H' : Hp} (h : Tabs T H) (s : Same H H') : Tabs T H' := h.ext fun b o e => s b o e
theorem ext_same {H H' : Hp} (s : Same H H') : ExtN H H' := ExtN.of fun b o e => s b o e
/-- the word of a call that answers or lets a BadMatch out -/
theorem asks_word {K : PySem.W.Frag} {CB : Addr} {p q : List (Option Nat)} {H1 : Hp} {Q : VK} {tl : XK → Hp → VK → Prop}
    (h : ∀ (R : VK) (E : XK), (Mask p q → ∀ (v : V) (H2 : Hp), Same H1 H2 → R v H2) → (¬ Mask p q → ∀ (H2 : Hp) (d : Addr), H1 d = none → H2 d = some (.xd (stF (wordM p q))) → Same H1 H2 → E (.ref CB) (some d) H2) → tl E H1 R)
    (q2 : ∀ H2, Same H1 H2 → Q (wordV p q) H2) : TWord K CB tl H1 Q := by
  refine h _ _ (fun hM v H2 s2 => ⟨_, rfl, ?_⟩) fun hM H2 d nd hd s2 => ⟨rfl, d, _, _, rfl, hd, rfl, ?_⟩
  · have z := q2 H2 s2
    rw [wordV_yes hM] at z
    exact z
  · have z := q2 H2 s2
    rw [wordV_no hM] at z
    exact z
theorem make_pat {CP CE a : Addr} {i : Nat} {σ : L2.St} {H : Hp} {r : List (Option Nat)} {Q : VK} (e : σ[i]? = some (some (.ref a))) (ha : H a = some (.lst (vals r))) (hp : Pt r) (hl : r.length ≤ 40) (q : ∀ (H' : Hp) (z : Addr), Same H H' → PatAt CP H' z r → Q (.ref z) H') :
    tMake CP (spPat CP CE) [] E0 (tCons (tVar i) tNil) σ H Q := ⟨_, e, show ∀ x dx, H x = none → H dx = none → dx ≠ x → spPat CP CE (.ref x :: [.ref a]) (upd (upd H dx (.own x)) x (.ins CP dx [])) (fun v H2 => v = .non ∧ Q (.ref x) H2) E0 from pat_make (.inl ha) hp hl q⟩
theorem seq_asg {e : TE} {g : TG} {u : TS} {D : Ends} {σ : L2.St} {H : Hp} (h : e σ H fun v H1 => g v σ H1 fun σ2 H2 => u D σ2 H2) : tSeq (tAsg e g) u D σ H := h
theorem tup_of {t : TA} {σ : L2.St} {H : Hp} {Q : VK} (h : t σ H fun xs H1 => xs.length ≤ sizeLine ∧ ∀ p, H1 p = none → Q (.ref p) (upd H1 p (.tup xs))) : tTup t σ H Q := h
theorem cons_of {t : TE} {ta : TA} {σ : L2.St} {H : Hp} {Q : List V → Hp → Prop} (h : t σ H fun x H1 => ta σ H1 fun xs H2 => Q (x :: xs) H2) : tCons t ta σ H Q := h
def spUn (Tb : Addr) : Sp := fun vs H Q _ => ∃ (a b : Addr) (p q : List (Option Nat)), vs = [.ref a, .ref b] ∧ H a = some (.lst (vals p)) ∧ H b = some (.lst (vals q)) ∧ Pt p ∧ Pt q ∧ p.length ≤ 40 ∧ q.length ≤ 40 ∧ Tabs [(Tb, qUn)] H ∧
  ∀ H', ExtN H H' → Tabs [(Tb, qUn)] H' → Q (.bl true) H'
section
variable {P : Program} {w : World} {K : PySem.W.Frag} {mg : Str → Option Value} {base : Heap}
theorem ok_un {f c Tb fW fI fD fF fO fN CP CB CE : Addr} {fd fdW fdI fdD fdF fdO fdN : FuncData} (F : FunC K "_law_unmatched_right" "_law_unmatched_right" (defArgs sUnmatchedRight) (defBody sUnmatchedRight) (defScope sUnmatchedRight) c f fd) (TB : TabB base mg c Tb)
    (FW : FnP K "_law_word" sWord fW fdW) (gW : mg "_law_word" = some (.ref fW)) (bW : Binds K fdW ["_law_call"] []) (N : MtX K mg CB) (M : PatMk P w K mg base CP CE fI fdI) (dMW : Df P w K mg base "_law_match_word" 1 ["_law_one", "_law_other"] spMW fD fdD)
    (dF : DfE P w K mg base "is_finer" 4 ["one", "other"] (spFin CP CB) fF fdF) (O : OpB P w K mg base CP .BitOr (spBin CP CB joinL) fO fdO) (I : OpB P w K mg base CP .BitAnd (spBin CP CB meetL) fN fdN) :
    FnOk P w K mg base CX0 8 f fd ["_law_one", "_law_other"] (spUn Tb) := by
  have sc : FnScope ["_law_one", "_law_other", "_law_first", "_law_second", "_law_due"] ["_law_one", "_law_other"] (defScope sUnmatchedRight) := ⟨rfl, rfl, rfl, by decide +kernel, rfl, by decide +kernel, by decide +kernel⟩
  refine F.ok sc (fun vs H Q E h => ?_) (fun A outer s H vs Q E hr h => ?_)
  · obtain ⟨a, b, p, q, rfl, _⟩ := h
    rfl
  · obtain ⟨a, b, p, q, rfl, ha, hb, pp, pq, lp, lq, tb, qq⟩ := h
    have hr4 := hr.mono (show 4 ≤ 7 by decide)
    have hr1 := hr.mono (show 1 ≤ 7 by decide)
    refine ⟨_, PSs.nox (pss_cons (ps_asg (pe_tup (pa_cons (pe_make M.mks M.ok hr4 (by rfl) M.gl M.bi .nil passX0 (pa_cons (pv 0) pa_nil)) (pa_cons (pe_make M.mks M.ok hr4 (by rfl) M.gl M.bi .nil passX0 (pa_cons (pv 1) pa_nil)) pa_nil))) (pg_tup (by rfl) (pgs_cons (pg_name (i := 2) sc.nd rfl (Or.inr rfl)) (pgs_cons (pg_name (i := 3) sc.nd rfl (Or.inr rfl)) pgs_nil))))
    (pss_cons (ps_set (i := 4) sc.nd rfl (.inl rfl) (pe_call dMW.ok hr1 (by rfl) dMW.gl dMW.kp dMW.bi .nil pass0 (pa_cons (pv 0) (pa_cons (pv 1) pa_nil))))
    (pss_cons (ps_if (pt_cmpR op_ne (lamcall_word (t := fun E => tCallS (spFin CP CB) (fun σ => WE (fun cls d _ H => E cls d H) σ) (tCons (tVar 2) (tCons (tVar 3) tNil))) FW gW bW N TB hr (fun A outer s H E f c2 hr2 => (pe_callS dF.ok (hr2.mono (show 4 ≤ 5 by decide)) (by rfl) dF.gl dF.kp dF.bi (fun σ => passAt (takes_of rfl rfl rfl rfl) σ) (pa_cons (pv 2) (pa_cons (pv 3) pa_nil))))) (pv 4) (nomark _))
      (pss_one (ps_ret pe_bl))
      pss_nil)
    (pss_cons (ps_if (pt_cmpR op_ne (lamcall_word (t := fun E => tOp (rOpI CP (spBin CP CB joinL) E) (tVar 2) (tVar 3)) FW gW bW N TB hr (fun A outer s H E f c2 hr2 => (pe_op (op_own O.ok O.sf O.fi O.fn O.bi lam_passes hr2) (pv 2) (pv 3)))) (pv 4) (nomark _))
      (pss_one (ps_ret pe_bl))
      pss_nil)
    (pss_cons (ps_if (pt_cmpR op_ne (lamcall_word (t := fun E => tOp (rOpI CP (spBin CP CB meetL) E) (tVar 2) (tVar 3)) FW gW bW N TB hr (fun A outer s H E f c2 hr2 => (pe_op (op_own I.ok I.sf I.fi I.fn I.bi lam_passes hr2) (pv 2) (pv 3)))) (pv 4) (nomark _))
      (pss_one (ps_ret pe_bl))
      pss_nil)
    (pss_one (ps_ret (pe_cmpR op_eq (lamcall_word (t := fun E => tCallS (spFin CP CB) (fun σ => WE (fun cls d _ H => E cls d H) σ) (tCons (tVar 3) (tCons (tVar 2) tNil))) FW gW bW N TB hr (fun A outer s H E f c2 hr2 => (pe_callS dF.ok (hr2.mono (show 4 ≤ 5 by decide)) (by rfl) dF.gl dF.kp dF.bi (fun σ => passAt (takes_of rfl rfl rfl rfl) σ) (pa_cons (pv 3) (pa_cons (pv 2) pa_nil))))) (pv 4) (nomark _))))))))), ?_⟩
    have step : ∀ (t : XK → TE) (σ : L2.St) (H1 : Hp) (R : VK), (∀ H2, ExtN H1 H2 → ∀ Q2 : VK, (∀ H3, Same H2 H3 → Q2 (wordV p q) H3) → TWord K CB (fun E H' Q' => t E σ H' Q') H2 Q2) → Tabs [(Tb, qUn)] H1 → (∀ H', ExtN H1 H' → Tabs [(Tb, qUn)] H' → R (wordV p q) H') → tLam [(Tb, qUn)] (TWord K CB) t σ H1 R :=
      fun t σ H1 R a1 a2 a3 => ⟨a2, fun H2 e2 t2 => a1 H2 e2 _ fun H3 s3 => a3 H3 (e2.trans (ext_same s3)) (tabs_same t2 s3)⟩
    refine seq_asg (tup_of (cons_of (make_pat rfl ha pp lp fun H1 x s1 hx => ?_)))
    refine cons_of (make_pat rfl (s1 _ _ hb) pq lq fun H2 y s2 hy => ?_)
    refine ⟨(by show 2 ≤ sizeLine; decide), fun T nT => ⟨T, _, rfl, .inl (.inl upd_same), rfl, _, _, rfl, _, _, rfl, rfl, ?_⟩⟩
    have s3 := same_upd (o := .tup [.ref x, .ref y]) nT
    have sA := (s1.trans s2).trans s3
    have hxA := (hx.sm s2).sm s3
    have hyA := hy.sm s3
    refine ⟨_, rfl, _, rfl, a, b, p, q, rfl, sA _ _ ha, sA _ _ hb, lp, lq, fun H4 s4 => ?_⟩
    have s04 := sA.trans s4
    have t4 := tabs_same tb s04
    have hx4 := hxA.sm s4
    have hy4 := hyA.sm s4
    have e04 := ext_same s04
    have fin1 : ∀ H2, ExtN H4 H2 → ∀ Q2 : VK, (∀ H3, Same H2 H3 → Q2 (wordV p q) H3) → TWord K CB (fun E H' Q' => (tCallS (spFin CP CB) (fun σ => WE (fun cls d _ H => E cls d H) σ) (tCons (tVar 2) (tCons (tVar 3) tNil))) [some (.ref a), some (.ref b), some (.ref x), some (.ref y), some (wordV p q)] H' Q') H2 Q2 := fun H2 e2 Q2 h2 => by
      refine asks_word (fun R E h3 h4 => ?_) h2
      exact ⟨_, rfl, _, rfl, x, y, p, q, rfl, hx4.same e2, hy4.same e2, fun hM bb H5 s5 _ => h3 hM _ H5 s5, fun hM H5 d nd hd s5 => h4 hM H5 d nd hd s5⟩
    have fin2 : ∀ H2, ExtN H4 H2 → ∀ Q2 : VK, (∀ H3, Same H2 H3 → Q2 (wordV p q) H3) → TWord K CB (fun E H' Q' => (tCallS (spFin CP CB) (fun σ => WE (fun cls d _ H => E cls d H) σ) (tCons (tVar 3) (tCons (tVar 2) tNil))) [some (.ref a), some (.ref b), some (.ref x), some (.ref y), some (wordV p q)] H' Q') H2 Q2 := fun H2 e2 Q2 h2 => by
      rw [← wordV_comm] at h2
      refine asks_word (fun R E h3 h4 => ?_) h2
      exact ⟨_, rfl, _, rfl, y, x, q, p, rfl, hy4.same e2, hx4.same e2, fun hM bb H5 s5 _ => h3 hM _ H5 s5, fun hM H5 d nd hd s5 => h4 hM H5 d nd hd s5⟩
    have opr : ∀ (op : List (Option Nat) → List (Option Nat) → List (Option Nat)) (H2 : Hp), ExtN H4 H2 → ∀ Q2 : VK, (∀ H3, Same H2 H3 → Q2 (wordV p q) H3) → TWord K CB (fun E H' Q' => (tOp (rOpI CP (spBin CP CB op) E) (tVar 2) (tVar 3)) [some (.ref a), some (.ref b), some (.ref x), some (.ref y), some (wordV p q)] H' Q') H2 Q2 := fun op H2 e2 Q2 h2 => by
      refine asks_word (fun R E h3 h4 => ?_) h2
      have hx2 := hx4.same e2
      have hy2 := hy4.same e2
      obtain ⟨dx, tx, cx, ex, _⟩ := id hx2
      obtain ⟨dy, ty, cy, ey, _⟩ := id hy2
      exact ⟨_, rfl, _, rfl, x, y, dx, dy, _, _, rfl, rfl, ex, ey, x, y, p, q, rfl, hx2, hy2, fun hM H5 z s5 _ => ⟨z, rfl, h3 hM _ H5 s5⟩, fun hM H5 d nd hd s5 => h4 hM H5 d nd hd s5⟩
    have eqD : decide (wordV p q = wordV p q) = true := decide_eq_true rfl
    refine step _ _ _ _ fin1 t4 fun H5 e5 t5 => ⟨_, rfl, word_scal p q, _, rfl, ?_⟩
    rw [eqD]
    refine iteF (tNext_of ?_)
    refine step _ _ _ _ (fun H2 e2 => opr joinL H2 (e5.trans e2)) t5 fun H6 e6 t6 => ⟨_, rfl, word_scal p q, _, rfl, ?_⟩
    rw [eqD]
    refine iteF (tNext_of ?_)
    refine step _ _ _ _ (fun H2 e2 => opr meetL H2 ((e5.trans e6).trans e2)) t6 fun H7 e7 t7 => ⟨_, rfl, word_scal p q, _, rfl, ?_⟩
    rw [eqD]
    refine iteF (tNext_of ?_)
    refine step _ _ _ _ (fun H2 e2 => fin2 H2 (((e5.trans e6).trans e7).trans e2)) t7 fun H8 e8 t8 => ⟨_, rfl, word_scal p q, ?_⟩
    rw [eqD]
    exact qq H8 (e04.trans (((e5.trans e6).trans e7).trans e8)) t8
end
end K26

/-! what a test, a value gives, wherever the heap has only grown -/
namespace K26
open PySem PySem.Spec PyProof.Rows L2
def Ts (H0 : Hp) (t : TT) (σ : L2.St) (b : Bool) : Prop := ∀ H1, Same H0 H1 → ∀ Q : Bool → Hp → Prop, (∀ H', Same H1 H' → Q b H') → t σ H1 Q
def Vs (H0 : Hp) (t : TE) (σ : L2.St) (Φ : V → Hp → Prop) : Prop := ∀ H1, Same H0 H1 → ∀ Q : VK, (∀ v H', Same H1 H' → Φ v H' → Q v H') → t σ H1 Q
def IsP (CP : Addr) (p : List (Option Nat)) : V → Hp → Prop := fun v H => ∃ z, v = .ref z ∧ PatAt CP H z p
def IsB (b : Bool) : V → Hp → Prop := fun v _ => v = .bl b
def IsL (p : List (Option Nat)) : V → Hp → Prop := fun v H => ∃ z, v = .ref z ∧ H z = some (.lst (vals p))
section
variable {K : PySem.W.Frag} {CP CB : Addr} {H0 : Hp} {σ : L2.St} {p q : List (Option Nat)}
theorem Ts.to {t : TT} {b : Bool} {H : Hp} (h : Ts H0 t σ b) (s : Same H0 H) : Ts H t σ b := fun H1 s1 Q q => h H1 (s.trans s1) Q q
theorem ts_or {t u : TT} {b : Bool} (h : Ts H0 t σ false) (g : Ts H0 u σ b) : Ts H0 (tOr t u) σ b := fun H1 s1 Q q => h H1 s1 _ fun H2 s2 => iteF (g H2 (s1.trans s2) Q fun H3 s3 => q H3 (s2.trans s3))
theorem ts_orT {t u : TT} (h : Ts H0 t σ true) : Ts H0 (tOr t u) σ true := fun H1 s1 Q q => h H1 s1 _ fun H2 s2 => iteT (q H2 s2)
theorem ts_not {t : TT} {b : Bool} (h : Ts H0 t σ (!b)) : Ts H0 (tNot t) σ b := fun H1 s1 Q q => h H1 s1 _ fun H2 s2 => by
  rw [Bool.not_not]
  exact q H2 s2
theorem ts_b {t : TE} {b : Bool} (h : Vs H0 t σ (IsB b)) : Ts H0 (tB t) σ b := fun H1 s1 Q q => h H1 s1 _ fun v H2 s2 e => ⟨b, e, q H2 s2⟩
theorem ts_test {t : TE} {b : Bool} (h : Vs H0 t σ (IsB b)) : Ts H0 (tTest t) σ b := fun H1 s1 Q q => h H1 s1 _ fun v H2 s2 e => ⟨b, e, q H2 s2⟩
theorem vs_var {i : Nat} {v : V} {Φ : V → Hp → Prop} (e : σ[i]? = some (some v)) (h : ∀ H1, Same H0 H1 → Φ v H1) : Vs H0 (tVar i) σ Φ := fun H1 s1 Q q => ⟨v, e, q v H1 (Same.refl _) (h H1 s1)⟩
theorem vs_p {i : Nat} {z : Addr} (e : σ[i]? = some (some (.ref z))) (h : PatAt CP H0 z p) : Vs H0 (tVar i) σ (IsP CP p) := vs_var e fun H1 s1 => ⟨z, rfl, h.sm s1⟩
theorem vs_l {i : Nat} {z : Addr} (e : σ[i]? = some (some (.ref z))) (h : H0 z = some (.lst (vals p))) : Vs H0 (tVar i) σ (IsL p) := vs_var e fun H1 s1 => ⟨z, rfl, s1 _ _ h⟩
theorem vs_c {b : Bool} : Vs H0 (tC (.bl b)) σ (IsB b) := fun H1 s1 Q q => q _ H1 (Same.refl _) rfl
theorem IsP.sm {v : V} {H H' : Hp} (h : IsP CP p v H) (s : Same H H') : IsP CP p v H' := let ⟨z, e, k⟩ := h; ⟨z, e, k.sm s⟩
/-- | and & -/
theorem vs_op {op : List (Option Nat) → List (Option Nat) → List (Option Nat)} {ta tb : TE} (ha : Vs H0 ta σ (IsP CP p)) (hb : Vs H0 tb σ (IsP CP q)) (hM : Mask p q) : Vs H0 (tOp (rOpI CP (spBin CP CB op) E0) ta tb) σ (IsP CP (op p q)) :=
  fun H1 s1 Q qq => ha H1 s1 _ fun v H2 s2 ⟨x, ev, hx⟩ => hb H2 (s1.trans s2) _ fun u H3 s3 ⟨y, eu, hy⟩ => by
    subst ev
    subst eu
    have hx3 := hx.sm s3
    obtain ⟨dx, tx, cx, ex, _⟩ := id hx3
    obtain ⟨dy, ty, cy, ey, _⟩ := id hy
    exact ⟨x, y, dx, dy, _, _, rfl, rfl, ex, ey, x, y, p, q, rfl, hx3, hy, fun _ H5 z s5 hz => ⟨z, rfl, qq _ _ ((s2.trans s3).trans s5) ⟨z, rfl, hz⟩⟩, fun z => absurd hM z⟩
/-- == of patterns -/
theorem vs_eq {ta tb : TE} (nf : PySem.W.notFirst K CP (.ref CP) = true) (ha : Vs H0 ta σ (IsP CP p)) (hb : Vs H0 tb σ (IsP CP q)) : Vs H0 (tOp (rEqI K CP (spPEq CP)) ta tb) σ (IsB (decide (p = q))) :=
  fun H1 s1 Q qq => ha H1 s1 _ fun v H2 s2 ⟨x, ev, hx⟩ => hb H2 (s1.trans s2) _ fun u H3 s3 ⟨y, eu, hy⟩ => by
    subst ev
    subst eu
    have hx3 := hx.sm s3
    obtain ⟨dx, tx, cx, ex, _⟩ := id hx3
    obtain ⟨dy, ty, cy, ey, _⟩ := id hy
    exact ⟨x, dx, _, _, rfl, ex, .ins ey, nf, x, y, p, q, rfl, hx3, hy, _, rfl, qq _ _ (s2.trans s3) rfl⟩
/-- the program's finer -/
theorem vs_fin {ta tb : TE} (ha : Vs H0 ta σ (IsP CP p)) (hb : Vs H0 tb σ (IsP CP q)) (hM : Mask p q) {b : Bool} (hB : b = true ↔ Finer p q) : Vs H0 (tCall (spFin CP CB) [] E0 (tCons ta (tCons tb tNil))) σ (IsB b) :=
  fun H1 s1 Q qq => ha H1 s1 _ fun v H2 s2 ⟨x, ev, hx⟩ => hb H2 (s1.trans s2) _ fun u H3 s3 ⟨y, eu, hy⟩ => by
    subst ev
    subst eu
    exact ⟨x, y, p, q, rfl, hx.sm s3, hy, fun _ c H5 s5 hc => qq _ _ ((s2.trans s3).trans s5) (by rw [show c = b from Bool.eq_iff_iff.mpr (hc.trans hB.symm)]; exact rfl), fun z => absurd hM z⟩
/-- the law's finer -/
theorem vs_lf {ta tb : TE} (ha : Vs H0 ta σ (IsL p)) (hb : Vs H0 tb σ (IsL q)) (hM : Mask p q) (hl : p.length ≤ 40) {b : Bool} (hB : b = true ↔ Finer p q) : Vs H0 (tCall spLF [] E0 (tCons ta (tCons tb tNil))) σ (IsB b) :=
  fun H1 s1 Q qq => ha H1 s1 _ fun v H2 s2 ⟨x, ev, hx⟩ => hb H2 (s1.trans s2) _ fun u H3 s3 ⟨y, eu, hy⟩ => by
    subst ev
    subst eu
    exact ⟨x, y, p, q, rfl, s3 _ _ hx, hy, hM, hl, fun H5 c s5 hc => qq _ _ ((s2.trans s3).trans s5) (by rw [show c = b from Bool.eq_iff_iff.mpr (hc.trans hB.symm)]; exact rfl)⟩
theorem vs_is {ta tb : TE} {b c : Bool} (ha : Vs H0 ta σ (IsB b)) (hb : Vs H0 tb σ (IsB c)) : Vs H0 (tCall spIs [] E0 (tCons ta (tCons tb tNil))) σ (IsB (decide (b = c))) :=
  fun H1 s1 Q qq => ha H1 s1 _ fun v H2 s2 e => hb H2 (s1.trans s2) _ fun u H3 s3 e2 => by
    obtain rfl : v = .bl b := e
    obtain rfl : u = .bl c := e2
    exact ⟨b, c, rfl, qq _ _ (s2.trans s3) rfl⟩
theorem vs_ne {ta tb : TE} {b c : Bool} (ha : Vs H0 ta σ (IsB b)) (hb : Vs H0 tb σ (IsB c)) : Vs H0 (tOp rNe ta tb) σ (IsB (!decide (b = c))) :=
  fun H1 s1 Q qq => ha H1 s1 _ fun v H2 s2 e => hb H2 (s1.trans s2) _ fun u H3 s3 e2 => by
    obtain rfl : v = .bl b := e
    obtain rfl : u = .bl c := e2
    have z : decide (V.bl b = V.bl c) = decide (b = c) := decide_eq_decide.mpr ⟨fun z => V.bl.inj z, fun z => by rw [z]⟩
    refine ⟨rfl, ?_⟩
    rw [z]
    exact qq _ _ (s2.trans s3) rfl
abbrev tList (K : PySem.W.Frag) (t : TE) : TE := tCB (fun xs H Q => ∃ p ys, xs = [V.ref p] ∧ (SqL K H p ys ∨ SqT K H p ys) ∧ ∀ l, H l = none → Q (V.ref l) (upd H l (.lst ys))) (tCons (tFld K t "entries") tNil)
/-- list(x.entries) -/
theorem vs_list {ta : TE} (T : PatC K CP) (ha : Vs H0 ta σ (IsP CP p)) : Vs H0 (tList K ta) σ (IsL p) :=
  fun H1 s1 Q qq => ha H1 s1 _ fun v H2 s2 ⟨x, ev, hx⟩ => by
    subst ev
    obtain ⟨dx, tx, cx, ex, etx, lx, _⟩ := hx
    exact ⟨x, CP, dx, _, _, rfl, ex, T.cl, T.nE, rfl, tx, _, rfl, .inr (SqT.of etx), fun l nl => qq _ _ (s2.trans (same_upd nl)) ⟨l, rfl, upd_same⟩⟩
theorem vs_la {ta tb : TE} {R : List (Option Nat) → List (Option Nat) → List (Option Nat) → Prop} {r : List (Option Nat)} (ha : Vs H0 ta σ (IsL p)) (hb : Vs H0 tb σ (IsL q)) (hM : Mask p q) (hl : p.length ≤ 40) (hR : ∀ l, Pt l → R l p q → l = r) : Vs H0 (tCall (spLA R) [] E0 (tCons ta (tCons tb tNil))) σ (IsL r) :=
  fun H1 s1 Q qq => ha H1 s1 _ fun v H2 s2 ⟨x, ev, hx⟩ => hb H2 (s1.trans s2) _ fun u H3 s3 ⟨y, eu, hy⟩ => by
    subst ev
    subst eu
    exact ⟨x, y, p, q, rfl, s3 _ _ hx, hy, hM, hl, fun H5 z l s5 nz ez hp hr => qq _ _ ((s2.trans s3).trans s5) ⟨z, rfl, by rw [← hR l hp hr]; exact ez⟩⟩
theorem shaped_vals (p : List (Option Nat)) : SeqAt.shaped (.list (p.map datO)) = true :=
  shaped_of (lay_all fun d hd => by obtain ⟨o, _, rfl⟩ := List.mem_map.mp hd; cases o <;> rfl) (by
    show PyData.depthAll (p.map datO) + 1 ≤ 64
    have : PyData.depthAll (p.map datO) ≤ 8 := dep_all fun d hd => by obtain ⟨o, _, rfl⟩ := List.mem_map.mp hd; cases o <;> exact Nat.zero_le _
    omega)
theorem vs_neL {ta tb : TE} (ha : Vs H0 ta σ (IsL p)) (hb : Vs H0 tb σ (IsL q)) : Vs H0 (tOp (rNeD K) ta tb) σ (IsB (!decide (p = q))) :=
  fun H1 s1 Q qq => ha H1 s1 _ fun v H2 s2 ⟨x, ev, hx⟩ => hb H2 (s1.trans s2) _ fun u H3 s3 ⟨y, eu, hy⟩ => by
    subst ev
    subst eu
    refine ⟨_, _, (Dt.lst (S := Any) trivial (s3 _ _ hx) (dt_vals _)).dp, (Dt.lst (S := Any) trivial hy (dt_vals _)).dp, shaped_vals _, shaped_vals _, qq _ _ (s2.trans s3) ?_⟩
    show V.bl (!PyData.eqvAll (p.map datO) (q.map datO)) = _
    rw [eqv_opts]
theorem vs_eqL {ta tb : TE} (ha : Vs H0 ta σ (IsL p)) (hb : Vs H0 tb σ (IsL q)) : Vs H0 (tOp (rEqD K) ta tb) σ (IsB (decide (p = q))) :=
  fun H1 s1 Q qq => ha H1 s1 _ fun v H2 s2 ⟨x, ev, hx⟩ => hb H2 (s1.trans s2) _ fun u H3 s3 ⟨y, eu, hy⟩ => by
    subst ev
    subst eu
    refine ⟨_, _, (Dt.lst (S := Any) trivial (s3 _ _ hx) (dt_vals _)).dp, (Dt.lst (S := Any) trivial hy (dt_vals _)).dp, shaped_vals _, shaped_vals _, qq _ _ (s2.trans s3) ?_⟩
    show V.bl (PyData.eqvAll (p.map datO) (q.map datO)) = _
    rw [eqv_opts]
theorem vs_and {ta tb : TE} {b : Bool} (ha : Vs H0 ta σ (IsB true)) (hb : Vs H0 tb σ (IsB b)) : Vs H0 (tAndV ta tb) σ (IsB b) :=
  fun H1 s1 Q qq => ha H1 s1 _ fun v H2 s2 e => ⟨true, e, iteT (hb H2 (s1.trans s2) Q fun v H3 s3 e3 => qq v H3 (s2.trans s3) e3)⟩
theorem vs_andF {ta tb : TE} (ha : Vs H0 ta σ (IsB false)) : Vs H0 (tAndV ta tb) σ (IsB false) :=
  fun H1 s1 Q qq => ha H1 s1 _ fun v H2 s2 e => ⟨false, e, iteF (qq _ H2 s2 rfl)⟩
theorem Vs.as {t : TE} {b c : Bool} (h : Vs H0 t σ (IsB b)) (e : b = c) : Vs H0 t σ (IsB c) := e ▸ h
/-- if ..: return ..: not so -/
theorem seq_not {t : TT} {a u : TS} {D : Ends} {H : Hp} (h : Ts H0 t σ false) (s : Same H0 H) (g : ∀ H', Same H0 H' → u D σ H') : tSeq (tIfS t a tNext) u D σ H := h H s _ fun H2 s2 => iteF (g H2 (s.trans s2))
theorem ret_vs {t : TE} {b : Bool} {D : Ends} {H : Hp} (h : Vs H0 t σ (IsB b)) (s : Same H0 H) (g : ∀ H', Same H0 H' → D.rt (.bl b) H') : tRet t D σ H := h H s _ fun v H2 s2 e => by
  obtain rfl : v = .bl b := e
  exact g H2 (s.trans s2)
theorem par_vs {i j : Nat} {ta tb : TE} {Φ Ψ : V → Hp → Prop} {u : TS} {D : Ends} {H : Hp} (ha : Vs H0 ta σ Φ) (hb : Vs H0 tb σ Ψ) (k : ∀ v H1 H2, Φ v H1 → Same H1 H2 → Φ v H2) (s : Same H0 H) (g : ∀ v w H', Same H0 H' → Φ v H' → Ψ w H' → u D ((σ.set i (some v)).set j (some w)) H') : tSeq (tPar i j (tCons ta (tCons tb tNil))) u D σ H :=
  ha H s _ fun v H1 s1 f1 => hb H1 (s.trans s1) _ fun w H2 s2 f2 => ⟨v, w, rfl, g v w H2 (s.trans (s1.trans s2)) (k _ _ _ f1 s2) f2⟩
theorem vs_make {CE a : Addr} {i : Nat} (e : σ[i]? = some (some (.ref a))) (ha : H0 a = some (.lst (vals p))) (hp : Pt p) (hl : p.length ≤ 40) : Vs H0 (tMake CP (spPat CP CE) [] E0 (tCons (tVar i) tNil)) σ (IsP CP p) :=
  fun H1 s1 Q qq => make_pat e (s1 _ _ ha) hp hl fun H' z s' hz => qq _ _ s' ⟨z, rfl, hz⟩
end
theorem joinL_is {p q : List (Option Nat)} (hM : Mask p q) (hq : Pt q) : IsJoin (joinL p q) p q := (merged_join hM hq).nums
theorem meetL_is {p q : List (Option Nat)} (hM : Mask p q) : IsMeet (meetL p q) p q := (beneath_meet hM).nums
theorem joinL_pt (p q : List (Option Nat)) : Pt (joinL p q) := Pt.nums _
theorem meetL_pt (p q : List (Option Nat)) : Pt (meetL p q) := Pt.nums _
theorem join_one {p q l m : List (Option Nat)} (hl : Pt l) (hm : Pt m) (h : IsJoin l p q) (g : IsJoin m p q) : l = m := hl.symm.trans ((h.same g).trans hm)
theorem meet_one {p q l m : List (Option Nat)} (hl : Pt l) (hm : Pt m) (h : IsMeet l p q) (g : IsMeet m p q) : l = m := hl.symm.trans ((h.same g).trans hm)
end K26

/-! two patterns: finer, least above, greatest beneath -/
namespace K26
open PySem PySem.Spec PyProof.Rows L2
/-- own == -/
structure EqB (P : Program) (w : World) (K : PySem.W.Frag) (mg : Str → Option Value) (base : Heap) (CP f : Addr) (fd : FuncData) : Prop where
  ok : FnOk P w K mg base CX0 1 f fd ["self", "other"] (spPEq CP)
  fi : PySem.W.findIn K (.ref CP) "__eq__" = some (some (.ref f))
  fn : PySem.W.isFn K (.ref f) = true
  bi : Binds K fd ["self", "other"] []
  nf : PySem.W.notFirst K CP (.ref CP) = true
def spPR : Sp := fun vs H Q _ => ∃ (a b : Addr) (p q : List (Option Nat)), vs = [.ref a, .ref b] ∧ H a = some (.lst (vals p)) ∧ H b = some (.lst (vals q)) ∧ Pt p ∧ Pt q ∧ Mask p q ∧ p.length ≤ 40 ∧ ∀ H', Same H H' → Q (.bl true) H'
section
variable {P : Program} {w : World} {K : PySem.W.Frag} {mg : Str → Option Value} {base : Heap}
theorem ok_pr {f fI fA fB fL fS fF fO fN fQ CP CB CE : Addr} {fd fdI fdA fdB fdL fdS fdF fdO fdN fdQ : FuncData} (F : FnP K "_law_pair_right" sPairRight f fd) (z_list : mg "list" = none) (T : PatC K CP)
    (M : PatMk P w K mg base CP CE fI fdI) (dLF : Df P w K mg base "_law_finer" 1 ["_law_one", "_law_other"] spLF fL fdL) (dAb : Df P w K mg base "_law_above" 2 ["_law_one", "_law_other"] (spLA fun l p q => IsJoin l p q) fA fdA) (dBe : Df P w K mg base "_law_beneath" 2 ["_law_one", "_law_other"] (spLA fun l p q => IsMeet l p q) fB fdB)
    (dIs : Df P w K mg base "_law_is" 1 ["_law_told", "_law_due"] spIs fS fdS) (dF : DfE P w K mg base "is_finer" 4 ["one", "other"] (spFin CP CB) fF fdF) (O : OpB P w K mg base CP .BitOr (spBin CP CB joinL) fO fdO) (I : OpB P w K mg base CP .BitAnd (spBin CP CB meetL) fN fdN) (EQ : EqB P w K mg base CP fQ fdQ) :
    FnOk P w K mg base CX0 6 f fd ["_law_one", "_law_other"] spPR := by
  have sc : FnScope ["_law_one", "_law_other", "_law_first", "_law_second", "_law_above_here", "_law_beneath_here"] ["_law_one", "_law_other"] (defScope sPairRight) := ⟨rfl, rfl, rfl, by decide +kernel, rfl, by decide +kernel, by decide +kernel⟩
  refine F.ok sc (fun vs H Q E h => ?_) (fun cdv A outer s H vs Q E hr h => ?_)
  · obtain ⟨a, b, p, q, rfl, _⟩ := h
    rfl
  · obtain ⟨a, b, p, q, rfl, ha, hb, pp, pq, hM, lp, qq⟩ := h
    have hr5 := hr
    have hr4 := hr.mono (show 4 ≤ 5 by decide)
    have hr2 := hr.mono (show 2 ≤ 5 by decide)
    have hr1 := hr.mono (show 1 ≤ 5 by decide)
    refine ⟨_, PSs.nox (pss_cons (ps_par (i := 2) (j := 3) rfl sc.nd rfl rfl (by decide) rfl rfl (pa_cons (pe_make M.mks M.ok hr4 (by rfl) M.gl M.bi .nil passX0 (pa_cons (pv 0) pa_nil)) (pa_cons (pe_make M.mks M.ok hr4 (by rfl) M.gl M.bi .nil passX0 (pa_cons (pv 1) pa_nil)) pa_nil)) rfl)
    (pss_cons (ps_if (PW.pt (pw_or (pt_not (pt_val (pe_call dIs.ok hr1 (by rfl) dIs.gl dIs.kp dIs.bi .nil pass0 (pa_cons (pe_call dF.ok hr4 (by rfl) dF.gl dF.kp dF.bi .nil passX0 (pa_cons (pv 2) (pa_cons (pv 3) pa_nil))) (pa_cons (pe_call dLF.ok hr1 (by rfl) dLF.gl dLF.kp dLF.bi .nil pass0 (pa_cons (pv 0) (pa_cons (pv 1) pa_nil))) pa_nil))))) (pw_or1 (pt_not (pt_val (pe_call dIs.ok hr1 (by rfl) dIs.gl dIs.kp dIs.bi .nil pass0 (pa_cons (pe_call dF.ok hr4 (by rfl) dF.gl dF.kp dF.bi .nil passX0 (pa_cons (pv 2) (pa_cons (pv 2) pa_nil))) (pa_cons pe_bl pa_nil))))))))
      (pss_one (ps_ret pe_bl))
      pss_nil)
    (pss_cons (ps_par (i := 4) (j := 5) rfl sc.nd rfl rfl (by decide) rfl rfl (pa_cons (pe_op (op_own O.ok O.sf O.fi O.fn O.bi passX0 hr5) (pv 2) (pv 3)) (pa_cons (pe_op (op_own I.ok I.sf I.fi I.fn I.bi passX0 hr5) (pv 2) (pv 3)) pa_nil)) rfl)
    (pss_cons (ps_if (PW.pt (pw_or (pt_cmpR (op_neD hr.units) (pe_callTy call_list_of (by rfl) z_list (by decide +kernel) (pa_cons (pe_fld (pv 4) rfl) pa_nil)) (pe_call dAb.ok hr2 (by rfl) dAb.gl dAb.kp dAb.bi .nil pass0 (pa_cons (pv 0) (pa_cons (pv 1) pa_nil))) (nomark _)) (pw_or1 (pt_cmpR (op_neD hr.units) (pe_callTy call_list_of (by rfl) z_list (by decide +kernel) (pa_cons (pe_fld (pv 5) rfl) pa_nil)) (pe_call dBe.ok hr2 (by rfl) dBe.gl dBe.kp dBe.bi .nil pass0 (pa_cons (pv 0) (pa_cons (pv 1) pa_nil))) (nomark _)))))
      (pss_one (ps_ret pe_bl))
      pss_nil)
    (pss_cons (ps_if (PW.pt (pw_or (pt_not (pt_cmpR (op_eqI EQ.ok EQ.fi EQ.fn EQ.bi pass0 hr1) (pe_op (op_own O.ok O.sf O.fi O.fn O.bi passX0 hr5) (pv 3) (pv 2)) (pv 4) (nomark _))) (pw_or (pt_not (pt_cmpR (op_eqI EQ.ok EQ.fi EQ.fn EQ.bi pass0 hr1) (pe_op (op_own I.ok I.sf I.fi I.fn I.bi passX0 hr5) (pv 3) (pv 2)) (pv 5) (nomark _))) (pw_or1 (pt_not (pt_cmpR (op_eqI EQ.ok EQ.fi EQ.fn EQ.bi pass0 hr1) (pe_op (op_own O.ok O.sf O.fi O.fn O.bi passX0 hr5) (pv 2) (pv 2)) (pv 2) (nomark _)))))))
      (pss_one (ps_ret pe_bl))
      pss_nil)
    (pss_cons (ps_if (PW.pt (pw_or (pt_not (pt_cmpR (op_eqI EQ.ok EQ.fi EQ.fn EQ.bi pass0 hr1) (pe_op (op_own I.ok I.sf I.fi I.fn I.bi passX0 hr5) (pv 2) (pv 2)) (pv 2) (nomark _))) (pw_or (pt_not (pt_cmpR (op_eqI EQ.ok EQ.fi EQ.fn EQ.bi pass0 hr1) (pe_op (op_own O.ok O.sf O.fi O.fn O.bi passX0 hr5) (pv 2) (pv 5)) (pv 2) (nomark _))) (pw_or1 (pt_not (pt_cmpR (op_eqI EQ.ok EQ.fi EQ.fn EQ.bi pass0 hr1) (pe_op (op_own I.ok I.sf I.fi I.fn I.bi passX0 hr5) (pv 2) (pv 4)) (pv 2) (nomark _)))))))
      (pss_one (ps_ret pe_bl))
      pss_nil)
    (pss_cons (ps_if (PW.pt (pw_or (pt_cmpR op_ne (pe_call dLF.ok hr1 (by rfl) dLF.gl dLF.kp dLF.bi .nil pass0 (pa_cons (pv 0) (pa_cons (pv 1) pa_nil))) (pe_cmpR (op_eqI EQ.ok EQ.fi EQ.fn EQ.bi pass0 hr1) (pv 4) (pv 3) (nomark _)) (nomark _)) (pw_or1 (pt_cmpR op_ne (pe_call dLF.ok hr1 (by rfl) dLF.gl dLF.kp dLF.bi .nil pass0 (pa_cons (pv 0) (pa_cons (pv 1) pa_nil))) (pe_cmpR (op_eqI EQ.ok EQ.fi EQ.fn EQ.bi pass0 hr1) (pv 5) (pv 2) (nomark _)) (nomark _)))))
      (pss_one (ps_ret pe_bl))
      pss_nil)
    (pss_one (ps_ret (pe_and (pe_cmpR (op_eqD hr.units) (pe_callTy call_list_of (by rfl) z_list (by decide +kernel) (pa_cons (pe_fld (pv 2) rfl) pa_nil)) (pv 0) (nomark _)) (pe_one (pe_cmpR (op_eqD hr.units) (pe_callTy call_list_of (by rfl) z_list (by decide +kernel) (pa_cons (pe_fld (pv 3) rfl) pa_nil)) (pv 1) (nomark _))))))))))))), ?_⟩
    refine par_vs (Φ := IsP CP p) (Ψ := IsP CP q) (H0 := H) (vs_make rfl ha pp lp) (vs_make rfl hb pq (by rw [← hM.len]; exact lp)) (fun v H1 H2 h s => h.sm s) (Same.refl _) ?_
    rintro _ _ H1 s1 ⟨x, rfl, hx⟩ ⟨y, rfl, hy⟩
    have ha1 := s1 _ _ ha
    have hb1 := s1 _ _ hb
    have jj := joinL_is hM pq
    have mm := meetL_is hM
    have fr : (true = true ↔ Finer p p) := ⟨fun _ => Finer.refl p, fun _ => rfl⟩
    have hMs := hM.symm
    have mJ : Mask p (joinL p q) := jj.mask.symm
    have mMt : Mask p (meetL p q) := mm.mask.symm
    obtain ⟨bb, hB⟩ : ∃ bb : Bool, bb = true ↔ Finer p q := by
      by_cases h : Finer p q
      · exact ⟨true, ⟨fun _ => h, fun _ => rfl⟩⟩
      · exact ⟨false, ⟨fun z => (by cases z), fun z => absurd z h⟩⟩
    refine seq_not (H0 := H1) (ts_or (ts_not (ts_b (b := true) ((vs_is (vs_fin (vs_p rfl hx) (vs_p rfl hy) hM hB) (vs_lf (vs_l rfl ha1) (vs_l rfl hb1) hM lp hB)).as (decide_eq_true rfl)))) (ts_not (ts_b (b := true) ((vs_is (vs_fin (vs_p rfl hx) (vs_p rfl hx) rfl fr) vs_c).as (decide_eq_true rfl))))) (Same.refl _) fun H2 s2 => ?_
    refine par_vs (Φ := IsP CP (joinL p q)) (Ψ := IsP CP (meetL p q)) (H0 := H1) (vs_op (vs_p rfl hx) (vs_p rfl hy) hM) (vs_op (vs_p rfl hx) (vs_p rfl hy) hM) (fun v H1 H2 h s => h.sm s) s2 ?_
    rintro _ _ H3 s3 ⟨u, rfl, hu⟩ ⟨v, rfl, hv⟩
    have s03 := s1.trans s3
    have ha3 := s03 _ _ ha
    have hb3 := s03 _ _ hb
    have hx3 := hx.sm s3
    have hy3 := hy.sm s3
    refine seq_not (H0 := H3) (ts_or (ts_test ((vs_neL (vs_list T (vs_p rfl hu)) (vs_la (vs_l rfl ha3) (vs_l rfl hb3) hM lp fun l hp hl => join_one hp (joinL_pt p q) hl jj)).as (by rw [decide_eq_true rfl]; rfl)))
      (ts_test ((vs_neL (vs_list T (vs_p rfl hv)) (vs_la (vs_l rfl ha3) (vs_l rfl hb3) hM lp fun l hp hl => meet_one hp (meetL_pt p q) hl mm)).as (by rw [decide_eq_true rfl]; rfl)))) (Same.refl _) fun H4 s4 => ?_
    refine seq_not (H0 := H3) (ts_or (ts_not (ts_test ((vs_eq EQ.nf (vs_op (vs_p rfl hy3) (vs_p rfl hx3) hMs) (vs_p rfl hu)).as (decide_eq_true (join_one (joinL_pt q p) (joinL_pt p q) ((joinL_is hMs pp).swap hMs) jj)))))
      (ts_or (ts_not (ts_test ((vs_eq EQ.nf (vs_op (vs_p rfl hy3) (vs_p rfl hx3) hMs) (vs_p rfl hv)).as (decide_eq_true (meet_one (meetL_pt q p) (meetL_pt p q) ((meetL_is hMs).swap hMs) mm)))))
        (ts_not (ts_test ((vs_eq EQ.nf (vs_op (vs_p rfl hx3) (vs_p rfl hx3) rfl) (vs_p rfl hx3)).as (decide_eq_true (join_self pp (joinL_pt p p) (joinL_is rfl pp)))))))) s4 fun H5 s5 => ?_
    refine seq_not (H0 := H3) (ts_or (ts_not (ts_test ((vs_eq EQ.nf (vs_op (vs_p rfl hx3) (vs_p rfl hx3) rfl) (vs_p rfl hx3)).as (decide_eq_true (meet_self pp (meetL_pt p p) (meetL_is rfl))))))
      (ts_or (ts_not (ts_test ((vs_eq EQ.nf (vs_op (vs_p rfl hx3) (vs_p rfl hv) mMt) (vs_p rfl hx3)).as (decide_eq_true (join_meet pp (joinL_pt _ _) mm (joinL_is mMt (meetL_pt p q)))))))
        (ts_not (ts_test ((vs_eq EQ.nf (vs_op (vs_p rfl hx3) (vs_p rfl hu) mJ) (vs_p rfl hx3)).as (decide_eq_true (meet_join pp (meetL_pt _ _) jj (meetL_is mJ)))))))) s5 fun H6 s6 => ?_
    have e1 : bb = decide (joinL p q = q) := Bool.eq_iff_iff.mpr (hB.trans ((finer_join pq (joinL_pt p q) hM jj).trans decide_eq_true_iff.symm))
    have e2 : bb = decide (meetL p q = p) := Bool.eq_iff_iff.mpr (hB.trans ((finer_meet pp (meetL_pt p q) mm).trans decide_eq_true_iff.symm))
    refine seq_not (H0 := H3) (ts_or (ts_test ((vs_ne (vs_lf (vs_l rfl ha3) (vs_l rfl hb3) hM lp hB) (vs_eq EQ.nf (vs_p rfl hu) (vs_p rfl hy3))).as (by rw [← e1, decide_eq_true rfl]; rfl)))
      (ts_test ((vs_ne (vs_lf (vs_l rfl ha3) (vs_l rfl hb3) hM lp hB) (vs_eq EQ.nf (vs_p rfl hv) (vs_p rfl hx3))).as (by rw [← e2, decide_eq_true rfl]; rfl)))) s6 fun H7 s7 => ?_
    exact ret_vs (H0 := H3) (vs_and ((vs_eqL (vs_list T (vs_p rfl hx3)) (vs_l rfl ha3)).as (decide_eq_true rfl)) ((vs_eqL (vs_list T (vs_p rfl hy3)) (vs_l rfl hb3)).as (decide_eq_true rfl))) s7 fun H8 s8 => qq H8 (s03.trans s8)
end
end K26

/-! three patterns -/
namespace K26
open PySem PySem.Spec PyProof.Rows L2
theorem vs_andB {H0 : Hp} {σ : L2.St} {ta tb : TE} {b c : Bool} (ha : Vs H0 ta σ (IsB b)) (hb : Vs H0 tb σ (IsB c)) : Vs H0 (tAndV ta tb) σ (IsB (b && c)) := by
  cases b with
  | true => exact vs_and ha hb
  | false => exact vs_andF ha
theorem par3_vs {H0 : Hp} {σ : L2.St} {i j l : Nat} {ta tb tc : TE} {Φ Ψ Χ : V → Hp → Prop} {u : TS} {D : Ends} {H : Hp} (ha : Vs H0 ta σ Φ) (hb : Vs H0 tb σ Ψ) (hc : Vs H0 tc σ Χ) (k : ∀ v H1 H2, Φ v H1 → Same H1 H2 → Φ v H2) (k2 : ∀ v H1 H2, Ψ v H1 → Same H1 H2 → Ψ v H2) (s : Same H0 H)
    (g : ∀ v w z H', Same H0 H' → Φ v H' → Ψ w H' → Χ z H' → u D (((σ.set i (some v)).set j (some w)).set l (some z)) H') : tSeq (tPar3 i j l (tCons ta (tCons tb (tCons tc tNil)))) u D σ H :=
  ha H s _ fun v H1 s1 f1 => hb H1 (s.trans s1) _ fun w H2 s2 f2 => hc H2 (s.trans (s1.trans s2)) _ fun z H3 s3 f3 => ⟨v, w, z, rfl, g v w z H3 (s.trans ((s1.trans s2).trans s3)) (k _ _ _ f1 (s2.trans s3)) (k2 _ _ _ f2 s3) f3⟩
theorem fin_dec (p q : List (Option Nat)) : ∃ b : Bool, b = true ↔ Finer p q := by
  by_cases h : Finer p q
  · exact ⟨true, ⟨fun _ => h, fun _ => rfl⟩⟩
  · exact ⟨false, ⟨fun z => (by cases z), fun z => absurd z h⟩⟩
def spTh : Sp := fun vs H Q _ => ∃ (a b c : Addr) (p q r : List (Option Nat)), vs = [.ref a, .ref b, .ref c] ∧ H a = some (.lst (vals p)) ∧ H b = some (.lst (vals q)) ∧ H c = some (.lst (vals r)) ∧ Pt p ∧ Pt q ∧ Pt r ∧ Mask p q ∧ Mask q r ∧ p.length ≤ 40 ∧ ∀ H', Same H H' → Q (.bl true) H'
section
variable {P : Program} {w : World} {K : PySem.W.Frag} {mg : Str → Option Value} {base : Heap}
theorem ok_th {f fI fL fF fO fN fQ CP CB CE : Addr} {fd fdI fdL fdF fdO fdN fdQ : FuncData} (F : FnP K "_law_three_right" sThreeRight f fd) (T : PatC K CP)
    (M : PatMk P w K mg base CP CE fI fdI) (dLF : Df P w K mg base "_law_finer" 1 ["_law_one", "_law_other"] spLF fL fdL)
    (dF : DfE P w K mg base "is_finer" 4 ["one", "other"] (spFin CP CB) fF fdF) (O : OpB P w K mg base CP .BitOr (spBin CP CB joinL) fO fdO) (I : OpB P w K mg base CP .BitAnd (spBin CP CB meetL) fN fdN) (EQ : EqB P w K mg base CP fQ fdQ) :
    FnOk P w K mg base CX0 6 f fd ["_law_one", "_law_other", "_law_third"] spTh := by
  have sc : FnScope ["_law_one", "_law_other", "_law_third", "_law_first", "_law_second", "_law_last"] ["_law_one", "_law_other", "_law_third"] (defScope sThreeRight) := ⟨rfl, rfl, rfl, by decide +kernel, rfl, by decide +kernel, by decide +kernel⟩
  refine F.ok sc (fun vs H Q E h => ?_) (fun cdv A outer s H vs Q E hr h => ?_)
  · obtain ⟨a, b, c, p, q, r, rfl, _⟩ := h
    rfl
  · obtain ⟨a, b, c, p, q, r, rfl, ha, hb, hc, pp, pq, pr, hM, hN, lp, qq⟩ := h
    have hr5 := hr
    have hr4 := hr.mono (show 4 ≤ 5 by decide)
    have hr1 := hr.mono (show 1 ≤ 5 by decide)
    refine ⟨_, PSs.nox (pss_cons (ps_par3 (i := 3) (j := 4) (l := 5) rfl sc.nd rfl rfl rfl (by decide) (by decide) (by decide) rfl rfl rfl (pa_cons (pe_make M.mks M.ok hr4 (by rfl) M.gl M.bi .nil passX0 (pa_cons (pv 0) pa_nil)) (pa_cons (pe_make M.mks M.ok hr4 (by rfl) M.gl M.bi .nil passX0 (pa_cons (pv 1) pa_nil)) (pa_cons (pe_make M.mks M.ok hr4 (by rfl) M.gl M.bi .nil passX0 (pa_cons (pv 2) pa_nil)) pa_nil))) rfl)
    (pss_cons (ps_if (pt_cmpR op_ne (pe_call dF.ok hr4 (by rfl) dF.gl dF.kp dF.bi .nil passX0 (pa_cons (pe_op (op_own O.ok O.sf O.fi O.fn O.bi passX0 hr5) (pv 3) (pv 4)) (pa_cons (pv 5) pa_nil))) (pe_and (pe_call dLF.ok hr1 (by rfl) dLF.gl dLF.kp dLF.bi .nil pass0 (pa_cons (pv 0) (pa_cons (pv 2) pa_nil))) (pe_one (pe_call dLF.ok hr1 (by rfl) dLF.gl dLF.kp dLF.bi .nil pass0 (pa_cons (pv 1) (pa_cons (pv 2) pa_nil))))) (nomark _))
      (pss_one (ps_ret pe_bl))
      pss_nil)
    (pss_cons (ps_if (pt_cmpR op_ne (pe_call dF.ok hr4 (by rfl) dF.gl dF.kp dF.bi .nil passX0 (pa_cons (pv 5) (pa_cons (pe_op (op_own I.ok I.sf I.fi I.fn I.bi passX0 hr5) (pv 3) (pv 4)) pa_nil))) (pe_and (pe_call dLF.ok hr1 (by rfl) dLF.gl dLF.kp dLF.bi .nil pass0 (pa_cons (pv 2) (pa_cons (pv 0) pa_nil))) (pe_one (pe_call dLF.ok hr1 (by rfl) dLF.gl dLF.kp dLF.bi .nil pass0 (pa_cons (pv 2) (pa_cons (pv 1) pa_nil))))) (nomark _))
      (pss_one (ps_ret pe_bl))
      pss_nil)
    (pss_cons (ps_if (pt_not (pt_cmpR (op_eqI EQ.ok EQ.fi EQ.fn EQ.bi pass0 hr1) (pe_op (op_own O.ok O.sf O.fi O.fn O.bi passX0 hr5) (pe_op (op_own O.ok O.sf O.fi O.fn O.bi passX0 hr5) (pv 3) (pv 4)) (pv 5)) (pe_op (op_own O.ok O.sf O.fi O.fn O.bi passX0 hr5) (pv 3) (pe_op (op_own O.ok O.sf O.fi O.fn O.bi passX0 hr5) (pv 4) (pv 5))) (nomark _)))
      (pss_one (ps_ret pe_bl))
      pss_nil)
    (pss_one (ps_ret (pe_cmpR (op_eqI EQ.ok EQ.fi EQ.fn EQ.bi pass0 hr1) (pe_op (op_own I.ok I.sf I.fi I.fn I.bi passX0 hr5) (pe_op (op_own I.ok I.sf I.fi I.fn I.bi passX0 hr5) (pv 3) (pv 4)) (pv 5)) (pe_op (op_own I.ok I.sf I.fi I.fn I.bi passX0 hr5) (pv 3) (pe_op (op_own I.ok I.sf I.fi I.fn I.bi passX0 hr5) (pv 4) (pv 5))) (nomark _)))))))), ?_⟩
    have lq : q.length ≤ 40 := by rw [← hM.len]; exact lp
    have lr : r.length ≤ 40 := by rw [← hN.len]; exact lq
    refine par3_vs (Φ := IsP CP p) (Ψ := IsP CP q) (Χ := IsP CP r) (H0 := H) (vs_make rfl ha pp lp) (vs_make rfl hb pq lq) (vs_make rfl hc pr lr) (fun v H1 H2 h s => h.sm s) (fun v H1 H2 h s => h.sm s) (Same.refl _) ?_
    rintro _ _ _ H1 s1 ⟨x, rfl, hx⟩ ⟨y, rfl, hy⟩ ⟨z, rfl, hz⟩
    have ha1 := s1 _ _ ha
    have hb1 := s1 _ _ hb
    have hc1 := s1 _ _ hc
    have hMr : Mask p r := hM.trans hN
    have j1 := joinL_is hM pq
    have m1 := meetL_is hM
    have j2 := joinL_is hN pr
    have m2 := meetL_is hN
    have mj1 : Mask (joinL p q) r := j1.mask.trans hMr
    have mm1 : Mask (meetL p q) r := m1.mask.trans hMr
    have mj2 : Mask p (joinL q r) := hM.trans j2.mask.symm
    have mm2 : Mask p (meetL q r) := hM.trans m2.mask.symm
    obtain ⟨b1, B1⟩ := fin_dec p r
    obtain ⟨b2, B2⟩ := fin_dec q r
    obtain ⟨b3, B3⟩ := fin_dec r p
    obtain ⟨b4, B4⟩ := fin_dec r q
    have C1 : (b1 && b2) = true ↔ Finer (joinL p q) r := by
      rw [Bool.and_eq_true_iff, B1, B2]
      exact (join_finer j1).symm
    have C2 : (b3 && b4) = true ↔ Finer r (meetL p q) := by
      rw [Bool.and_eq_true_iff, B3, B4]
      exact (finer_of_meet m1).symm
    refine seq_not (H0 := H1) (ts_test ((vs_ne (vs_fin (vs_op (vs_p rfl hx) (vs_p rfl hy) hM) (vs_p rfl hz) mj1 C1) (vs_andB (vs_lf (vs_l rfl ha1) (vs_l rfl hc1) hMr lp B1) (vs_lf (vs_l rfl hb1) (vs_l rfl hc1) hN lq B2))).as (by rw [decide_eq_true rfl]; rfl))) (Same.refl _) fun H2 s2 => ?_
    refine seq_not (H0 := H1) (ts_test ((vs_ne (vs_fin (vs_p rfl hz) (vs_op (vs_p rfl hx) (vs_p rfl hy) hM) mm1.symm C2) (vs_andB (vs_lf (vs_l rfl hc1) (vs_l rfl ha1) hMr.symm lr B3) (vs_lf (vs_l rfl hc1) (vs_l rfl hb1) hN.symm lr B4))).as (by rw [decide_eq_true rfl]; rfl))) s2 fun H3 s3 => ?_
    refine seq_not (H0 := H1) (ts_not (ts_test ((vs_eq EQ.nf (vs_op (vs_op (vs_p rfl hx) (vs_p rfl hy) hM) (vs_p rfl hz) mj1) (vs_op (vs_p rfl hx) (vs_op (vs_p rfl hy) (vs_p rfl hz) hN) mj2)).as (decide_eq_true (join_assoc (joinL_pt _ _) (joinL_pt _ _) j1 j2 (joinL_is mj1 pr) (joinL_is mj2 (joinL_pt q r))))))) s3 fun H4 s4 => ?_
    exact ret_vs (H0 := H1) ((vs_eq EQ.nf (vs_op (vs_op (vs_p rfl hx) (vs_p rfl hy) hM) (vs_p rfl hz) mm1) (vs_op (vs_p rfl hx) (vs_op (vs_p rfl hy) (vs_p rfl hz) hN) mm2)).as (decide_eq_true (meet_assoc (meetL_pt _ _) (meetL_pt _ _) m1 m2 (meetL_is mm1) (meetL_is mm2)))) s4 fun H5 s5 => qq H5 (s1.trans s5)
end
end K26

/-! the law -/
namespace K26
open PySem PySem.Spec PyProof.Rows L2 LamX
def spLaw (K : PySem.W.Frag) (Tb : Addr) : Sp := fun vs H Q _ => ∃ (a : Addr) (ns : List Int), vs = [.ref a] ∧ SqL K H a (ns.map V.int) ∧ ns.length ≤ 63 ∧ Tabs [(Tb, qUn)] H ∧ ∀ H', Q (.bl true) H'
theorem tabs_kept {T : List (Addr × Str)} {H H' : Hp} {p : Addr} {xs : List V} (h : Tabs T H) (hp : H p = some (.lst xs)) (k : Kept p H H') : Tabs T H' := fun t ht => by
  obtain ⟨ps, h1, h2, h3⟩ := h t ht
  refine ⟨ps, k _ _ (fun z => by rw [z, hp] at h1; cases h1) h1, h2, fun pos cv hc => ?_⟩
  obtain ⟨c, e1, e2⟩ := h3 pos cv hc
  exact ⟨c, e1, k _ _ (fun z => by rw [z, hp] at e2; unfold CodeO at e2; cases e2) e2⟩
theorem tabs_hand {T : List (Addr × Str)} {H H' : Hp} {p l : Addr} (h : Tabs T H) (hp : Hand p l H) (k : Kept p H H') : Tabs T H' := by
  obtain ⟨xs, e⟩ := hp.at_
  exact tabs_kept h e k
theorem hand_ext {p l : Addr} {H H' : Hp} (h : Hand p l H) (e : ExtN H H') : Hand p l H' := by
  obtain ⟨cells, i, r, t, h1, h2, h3⟩ := h
  exact ⟨cells, i, r, t, e _ _ h1 (fun ps z => by unfold handO at z; cases z), e _ _ h2 (fun ps z => by cases z), h3⟩
theorem lst_ext {H H' : Hp} {a : Addr} {xs : List V} (h : H a = some (.lst xs)) (e : ExtN H H') : H' a = some (.lst xs) := e _ _ h fun ps z => by cases z
theorem vs_pr {H0 : Hp} {σ : L2.St} {p q : List (Option Nat)} {ta tb : TE} (ha : Vs H0 ta σ (IsL p)) (hb : Vs H0 tb σ (IsL q)) (pp : Pt p) (pq : Pt q) (hM : Mask p q) (hl : p.length ≤ 40) : Vs H0 (tCall spPR [] E0 (tCons ta (tCons tb tNil))) σ (IsB true) :=
  fun H1 s1 Q qq => ha H1 s1 _ fun v H2 s2 ⟨x, ev, hx⟩ => hb H2 (s1.trans s2) _ fun u H3 s3 ⟨y, eu, hy⟩ => by
    subst ev
    subst eu
    exact ⟨x, y, p, q, rfl, s3 _ _ hx, hy, pp, pq, hM, hl, fun H5 s5 => qq _ _ ((s2.trans s3).trans s5) rfl⟩
theorem vs_th {H0 : Hp} {σ : L2.St} {p q r : List (Option Nat)} {ta tb tc : TE} (ha : Vs H0 ta σ (IsL p)) (hb : Vs H0 tb σ (IsL q)) (hc : Vs H0 tc σ (IsL r)) (pp : Pt p) (pq : Pt q) (pr : Pt r) (hM : Mask p q) (hN : Mask q r) (hl : p.length ≤ 40) : Vs H0 (tCall spTh [] E0 (tCons ta (tCons tb (tCons tc tNil)))) σ (IsB true) :=
  fun H1 s1 Q qq => ha H1 s1 _ fun v H2 s2 ⟨x, ev, hx⟩ => hb H2 (s1.trans s2) _ fun u H3 s3 ⟨y, eu, hy⟩ => hc H3 (s1.trans (s2.trans s3)) _ fun t H4 s4 ⟨z, et, hz⟩ => by
    subst ev
    subst eu
    subst et
    exact ⟨x, y, z, p, q, r, rfl, (s3.trans s4) _ _ hx, s4 _ _ hy, hz, pp, pq, pr, hM, hN, hl, fun H5 s5 => qq _ _ (((s2.trans s3).trans s4).trans s5) rfl⟩
section
variable {P : Program} {w : World} {K : PySem.W.Frag} {mg : Str → Option Value} {base : Heap}
theorem ok_law {f Tb fH fD fP fM fO fNe fAb fBe fPR fTh fUn : Addr} {fd fdH fdD fdP fdM fdO fdNe fdAb fdBe fdPR fdTh fdUn : FuncData} (F : FnP K "law" sLaw f fd) (dH : Df P w K mg base "_law_hand" 1 ["_law_script"] (spHand K) fH fdH)
    (dD : Df P w K mg base "_law_draw" 2 ["_law_hand_here", "_law_many"] spDr fD fdD) (dP : Df P w K mg base "_law_pick" 3 ["_law_hand_here", "_law_things"] spPk fP fdP) (dM : Df P w K mg base "_law_mask" 4 ["_law_hand_here"] spMask fM fdM) (dO : Df P w K mg base "_law_on" 3 ["_law_hand_here", "_law_mask_here"] spOn fO fdO)
    (dNe : Df P w K mg base "_law_near" 4 ["_law_hand_here", "_law_entries"] spNear fNe fdNe) (dAb : Df P w K mg base "_law_above" 2 ["_law_one", "_law_other"] (spLA fun l p q => IsJoin l p q) fAb fdAb) (dBe : Df P w K mg base "_law_beneath" 2 ["_law_one", "_law_other"] (spLA fun l p q => IsMeet l p q) fBe fdBe)
    (dPR : Df P w K mg base "_law_pair_right" 6 ["_law_one", "_law_other"] spPR fPR fdPR) (dTh : Df P w K mg base "_law_three_right" 6 ["_law_one", "_law_other", "_law_third"] spTh fTh fdTh) (dUn : Df P w K mg base "_law_unmatched_right" 8 ["_law_one", "_law_other"] (spUn Tb) fUn fdUn) : FnOk P w K mg base CX0 9 f fd ["_law_script"] (spLaw K Tb) := by
  have sc : FnScope ["_law_script", "_law_hand_here", "_law_mask_here", "_law_one", "_law_other", "_law_third", "_law_strange", "_law_turned", "_law_here"] ["_law_script"] (defScope sLaw) := ⟨rfl, rfl, rfl, by decide +kernel, rfl, by decide +kernel, by decide +kernel⟩
  refine F.ok sc (fun vs H Q E h => ?_) (fun cdv A outer s H vs Q E hr8 h => ?_)
  · obtain ⟨a, ns, rfl, _⟩ := h
    rfl
  · obtain ⟨a, ns, rfl, hS, hlen, tb, q⟩ := h
    have hr6 := hr8.mono (show 6 ≤ 8 by decide)
    have hr4 := hr8.mono (show 4 ≤ 8 by decide)
    have hr3 := hr8.mono (show 3 ≤ 8 by decide)
    have hr2 := hr8.mono (show 2 ≤ 8 by decide)
    have hr1 := hr8.mono (show 1 ≤ 8 by decide)
    refine ⟨_, PSs.nox (pss_cons (ps_set (i := 1) sc.nd rfl (.inl rfl) (pe_call dH.ok hr1 (by rfl) dH.gl dH.kp dH.bi .nil pass0 (pa_cons (pv 0) pa_nil)))
    (pss_cons (ps_set (i := 2) sc.nd rfl (.inl rfl) (pe_call dM.ok hr4 (by rfl) dM.gl dM.kp dM.bi .nil pass0 (pa_cons (pv 1) pa_nil)))
    (pss_cons (ps_set (i := 3) sc.nd rfl (.inl rfl) (pe_call dO.ok hr3 (by rfl) dO.gl dO.kp dO.bi .nil pass0 (pa_cons (pv 1) (pa_cons (pv 2) pa_nil))))
    (pss_cons (ps_set (i := 4) sc.nd rfl (.inl rfl) (pe_ifExp (pt_cmpR op_eq (pe_call dD.ok hr2 (by rfl) dD.gl dD.kp dD.bi .nil pass0 (pa_cons (pv 1) (pa_cons pe_int pa_nil))) pe_int (nomark _)) (pe_call dNe.ok hr4 (by rfl) dNe.gl dNe.kp dNe.bi .nil pass0 (pa_cons (pv 1) (pa_cons (pv 3) pa_nil))) (pe_call dO.ok hr3 (by rfl) dO.gl dO.kp dO.bi .nil pass0 (pa_cons (pv 1) (pa_cons (pv 2) pa_nil)))))
    (pss_cons (ps_set (i := 5) sc.nd rfl (.inl rfl) (pe_call dP.ok hr3 (by rfl) dP.gl dP.kp dP.bi .nil pass0 (pa_cons (pv 1) (pa_cons (pe_lst (pa_cons (pe_call dO.ok hr3 (by rfl) dO.gl dO.kp dO.bi .nil pass0 (pa_cons (pv 1) (pa_cons (pv 2) pa_nil))) (pa_cons (pe_call dNe.ok hr4 (by rfl) dNe.gl dNe.kp dNe.bi .nil pass0 (pa_cons (pv 1) (pa_cons (pv 4) pa_nil))) (pa_cons (pe_call dAb.ok hr2 (by rfl) dAb.gl dAb.kp dAb.bi .nil pass0 (pa_cons (pv 3) (pa_cons (pv 4) pa_nil))) (pa_cons (pe_call dBe.ok hr2 (by rfl) dBe.gl dBe.kp dBe.bi .nil pass0 (pa_cons (pv 3) (pa_cons (pv 4) pa_nil))) pa_nil))))) pa_nil))))
    (pss_cons (ps_if (PW.pt (pw_or (pt_not (pt_val (pe_call dPR.ok hr6 (by rfl) dPR.gl dPR.kp dPR.bi .nil pass0 (pa_cons (pv 3) (pa_cons (pv 4) pa_nil))))) (pw_or (pt_not (pt_val (pe_call dPR.ok hr6 (by rfl) dPR.gl dPR.kp dPR.bi .nil pass0 (pa_cons (pv 4) (pa_cons (pv 5) pa_nil))))) (pw_or1 (pt_not (pt_val (pe_call dPR.ok hr6 (by rfl) dPR.gl dPR.kp dPR.bi .nil pass0 (pa_cons (pv 5) (pa_cons (pv 3) pa_nil)))))))))
      (pss_one (ps_ret pe_bl))
      pss_nil)
    (pss_cons (ps_if (PW.pt (pw_or (pt_not (pt_val (pe_call dTh.ok hr6 (by rfl) dTh.gl dTh.kp dTh.bi .nil pass0 (pa_cons (pv 3) (pa_cons (pv 4) (pa_cons (pv 5) pa_nil)))))) (pw_or1 (pt_not (pt_val (pe_call dTh.ok hr6 (by rfl) dTh.gl dTh.kp dTh.bi .nil pass0 (pa_cons (pv 5) (pa_cons (pv 4) (pa_cons (pv 3) pa_nil)))))))))
      (pss_one (ps_ret pe_bl))
      pss_nil)
    (pss_cons (ps_set (i := 6) sc.nd rfl (.inl rfl) (pe_call dO.ok hr3 (by rfl) dO.gl dO.kp dO.bi .nil pass0 (pa_cons (pv 1) (pa_cons (pe_call dM.ok hr4 (by rfl) dM.gl dM.kp dM.bi .nil pass0 (pa_cons (pv 1) pa_nil)) pa_nil))))
    (pss_cons (ps_setLc (i := 7) (own := [("_law_here", 8)]) (g := gName 8) (tt := tYes) rfl sc.nd rfl rfl (sw_true rfl rfl rfl (by decide +kernel)) (pi_list (pv 2)) (blkOk_by (N := ["_law_script", "_law_hand_here", "_law_mask_here", "_law_one", "_law_other", "_law_third", "_law_strange", "_law_turned", "_law_here"]) (sc := defScope sLaw) (by decide +kernel)) (fun _ _ _ _ _ => pg_name (i := 8) sc.nd rfl (Or.inl rfl)) (fun _ _ _ _ _ => pts_nil) (fun _ _ _ _ _ => (pe_not (pv 8))))
    (pss_cons (ps_if (PW.pt (pw_or (pt_not (pt_val (pe_call dUn.ok hr8 (by rfl) dUn.gl dUn.kp dUn.bi .nil pass0 (pa_cons (pv 3) (pa_cons (pv 6) pa_nil))))) (pw_or1 (pt_not (pt_val (pe_call dUn.ok hr8 (by rfl) dUn.gl dUn.kp dUn.bi .nil pass0 (pa_cons (pv 4) (pa_cons (pe_call dO.ok hr3 (by rfl) dO.gl dO.kp dO.bi .nil pass0 (pa_cons (pv 1) (pa_cons (pv 7) pa_nil))) pa_nil))))))))
      (pss_one (ps_ret pe_bl))
      pss_nil)
    (pss_one (ps_ret (pe_and (pe_call dUn.ok hr8 (by rfl) dUn.gl dUn.kp dUn.bi .nil pass0 (pa_cons (pv 3) (pa_cons (pv 4) pa_nil))) (pe_one (pe_call dPR.ok hr6 (by rfl) dPR.gl dPR.kp dPR.bi .nil pass0 (pa_cons (pv 3) (pa_cons (pv 4) pa_nil))))))))))))))))), ?_⟩
    refine ⟨_, rfl, a, ns, rfl, hS, hlen, fun H1 p l t s1 np hh => ?_⟩
    have h1 : Hand p l H1 := ⟨_, _, _, _, hh⟩
    have t1 := tabs_same tb s1
    refine ⟨_, rfl, p, l, rfl, h1, fun H2 m mask k2 h2 nm em lm => ?_⟩
    have nmp := h1.nn nm
    have t2 := tabs_hand t1 h1 k2
    refine ⟨_, rfl, _, rfl, p, l, m, mask, rfl, h2, em, nmp, lm, fun H3 z1 x k3 h3 nz1 e1 px mx => ?_⟩
    have n1 := h2.nn nz1
    have t3 := tabs_hand t2 h2 k3
    have em3 := k3 _ _ nmp em
    have len : ∀ y : List (Option Nat), y.map Option.isSome = mask → y.length ≤ 40 := fun y e => by
      have := congrArg List.length e
      rw [List.length_map] at this
      omega
    have oth : ∀ Q2 : VK, (∀ (z2 : Addr) (y : List (Option Nat)) (H5 : Hp), Kept p H3 H5 → Hand p l H5 → z2 ≠ p → H5 z2 = some (.lst (vals y)) → Pt y → y.map Option.isSome = mask → Q2 (.ref z2) H5) →
        tIf (tTest (tOp rEq (tCall spDr [] E0 (tCons (tVar 1) (tCons (tC (V.int 2)) tNil))) (tC (V.int 0)))) (tCall spNear [] E0 (tCons (tVar 1) (tCons (tVar 3) tNil))) (tCall spOn [] E0 (tCons (tVar 1) (tCons (tVar 2) tNil))) [some (.ref a), some (.ref p), some (.ref m), some (.ref z1), none, none, none, none, none] H3 Q2 := fun Q2 q2 => by
      refine ⟨_, rfl, p, l, 2, rfl, h3, by decide, by decide +kernel, fun d H4 d0 d1 k4 h4 => ⟨rfl, _, rfl, ite2 (fun g => ?_) (fun g => ?_)⟩⟩
      · exact ⟨_, rfl, _, rfl, p, l, z1, x, rfl, h4, k4 _ _ n1 e1, n1, px, len x mx, fun H5 z2 y k5 h5 nz2 e2 py hM => q2 z2 y H5 (k4.trans k5) h5 (h4.nn nz2) e2 py (Eq.trans (Eq.symm hM) mx)⟩
      · exact ⟨_, rfl, _, rfl, p, l, m, mask, rfl, h4, k4 _ _ nmp em3, nmp, lm, fun H5 z2 y k5 h5 nz2 e2 py hM => q2 z2 y H5 (k4.trans k5) h5 (h4.nn nz2) e2 py hM⟩
    refine oth _ fun z2 y H5 k5 h5 n2 e2 py my => ?_
    have t5 := tabs_hand t3 h3 k5
    have em5 := k5 _ _ nmp em3
    have e15 := k5 _ _ n1 e1
    have hM : Mask x y := mx.trans my.symm
    refine ⟨_, rfl, ?_⟩
    refine ⟨_, rfl, _, rfl, p, l, m, mask, rfl, h5, em5, nmp, lm, fun H6 w1 a1 k6 h6 nw1 f1 q1 m1 => ?_⟩
    have wn1 := h5.nn nw1
    refine ⟨_, rfl, _, rfl, p, l, z2, y, rfl, h6, k6 _ _ n2 e2, n2, py, len y my, fun H7 w2 a2 k7 h7 nw2 f2 q2 m2 => ?_⟩
    have wn2 := h6.nn nw2
    have k57 := k6.trans k7
    refine ⟨_, rfl, _, rfl, z1, z2, x, y, rfl, k57 _ _ n1 e15, k57 _ _ n2 e2, hM, len x mx, fun H8 w3 a3 s8 nw3 f3 q3 j3 => ?_⟩
    have wn3 := h7.nn nw3
    have k58 := k57.trans (Kept.same s8)
    have h8 := h7.same s8
    refine ⟨_, rfl, _, rfl, z1, z2, x, y, rfl, k58 _ _ n1 e15, k58 _ _ n2 e2, hM, len x mx, fun H9 w4 a4 s9 nw4 f4 q4 j4 => ?_⟩
    have wn4 := h8.nn nw4
    have h9 := h8.same s9
    have k59 := k58.trans (Kept.same s9)
    refine ⟨(by show 4 ≤ sizeLine; decide), fun T nT => ?_⟩
    have sT := same_upd (o := .lst [.ref w1, .ref w2, .ref w3, .ref w4]) nT
    refine ⟨p, l, T, _, rfl, h9.same sT, upd_same, h9.nn nT, (by show 0 < 4; decide), (by show 4 ≤ 1000; decide), fun v H10 hv k10 h10 => ?_⟩
    have kT := (Kept.same (p := p) sT).trans k10
    have k510 := k59.trans kT
    have t10 := tabs_hand t5 h5 k510
    obtain ⟨z3, y3, rfl, n3, e3, py3, my3⟩ : ∃ (z3 : Addr) (y3 : List (Option Nat)), v = .ref z3 ∧ z3 ≠ p ∧ H10 z3 = some (.lst (vals y3)) ∧ Pt y3 ∧ y3.map Option.isSome = mask := by
      rcases List.mem_cons.mp hv with rfl | hv
      · exact ⟨w1, a1, rfl, wn1, kT _ _ wn1 (s9 _ _ (s8 _ _ (k7 _ _ wn1 f1))), q1, m1⟩
      rcases List.mem_cons.mp hv with rfl | hv
      · exact ⟨w2, a2, rfl, wn2, kT _ _ wn2 (s9 _ _ (s8 _ _ f2)), q2, Eq.trans (Eq.symm m2) my⟩
      rcases List.mem_cons.mp hv with rfl | hv
      · exact ⟨w3, a3, rfl, wn3, kT _ _ wn3 (s9 _ _ f3), q3, Eq.trans j3.mask mx⟩
      rcases List.mem_cons.mp hv with rfl | hv
      · exact ⟨w4, a4, rfl, wn4, kT _ _ wn4 f4, q4, Eq.trans j4.mask mx⟩
      cases hv
    have e1 := k510 _ _ n1 e15
    have e2 := k510 _ _ n2 e2
    have em10 := k510 _ _ nmp em5
    have hN : Mask y y3 := my.trans my3.symm
    have hL : Mask y3 x := my3.trans mx.symm
    refine seq_not (H0 := H10) (ts_or (ts_not (ts_b (b := true) (vs_pr (vs_l rfl e1) (vs_l rfl e2) px py hM (len x mx)))) (ts_or (ts_not (ts_b (b := true) (vs_pr (vs_l rfl e2) (vs_l rfl e3) py py3 hN (len y my)))) (ts_not (ts_b (b := true) (vs_pr (vs_l rfl e3) (vs_l rfl e1) py3 px hL (len y3 my3)))))) (Same.refl _) fun H11 s11 => ?_
    refine seq_not (H0 := H10) (ts_or (ts_not (ts_b (b := true) (vs_th (vs_l rfl e1) (vs_l rfl e2) (vs_l rfl e3) px py py3 hM hN (len x mx)))) (ts_not (ts_b (b := true) (vs_th (vs_l rfl e3) (vs_l rfl e2) (vs_l rfl e1) py3 py px hN.symm hM.symm (len y3 my3))))) s11 fun H12 s12 => ?_
    have h12 := h10.same s12
    have t12 := tabs_same t10 s12
    refine ⟨_, rfl, _, rfl, p, l, rfl, h12, fun H13 m2 mask2 k13 h13 nm2 em2 lm2 => ?_⟩
    refine ⟨p, l, m2, mask2, rfl, h13, em2, h12.nn nm2, lm2, fun H14 z6 y6 k14 h14 nz6 e6 py6 my6 => ?_⟩
    have k1014 : Kept p H10 H14 := ((Kept.same s12).trans k13).trans k14
    have t14 := tabs_hand t10 h10 k1014
    have em14 := k1014 _ _ nmp em10
    have ly6 : y6.length ≤ 40 := by
      have := congrArg List.length my6
      rw [List.length_map] at this
      omega
    refine ⟨_, rfl, m, rfl, ⟨_, SqL.of em14⟩, fun D nD => lc_N walk_list (fun k acc _ => acc = ((mask.map (!·)).take k).map V.bl) (lcR_pure fun i => by rw [List.length_map]; exact List.length_take_le _ _) nD (by rw [List.length_map]; exact Nat.lt_of_le_of_lt lm (by decide)) rfl (fun H' s' => SqL.of (s' _ _ em14)) (fun _ => rfl) ?_ mT_yes (fun _ _ _ _ h ⟨x, e, c, e2, q⟩ => ⟨x, e, c, e2, h _ _ q⟩) ?_⟩
    · rintro i v acc H' ev s' eD rfl
      obtain ⟨b, eb, rfl⟩ := (by simpa using ev : ∃ b, mask[i]? = some b ∧ V.bl b = v)
      refine ⟨Same.refl _, ?_⟩
      rw [if_pos rfl]
      refine ⟨_, rfl, b, rfl, Same.refl _, ?_⟩
      rw [take_snoc' (v := !b) (by rw [List.getElem?_map, eb]; rfl), List.map_append]
      rfl
    rintro H15 acc s15 eD rfl
    rw [List.take_of_length_le (by rw [List.length_map, List.length_map]; exact Nat.le_refl _)] at eD
    have k1015 := k1014.trans (Kept.same s15)
    have h15 := h14.same s15
    have t15 := tabs_same t14 s15
    have e1a := k1015 _ _ n1 e1
    have e2a := k1015 _ _ n2 e2
    have Dp := h14.nn nD
    refine ⟨_, rfl, _, rfl, z1, z6, x, y6, rfl, e1a, s15 _ _ e6, px, py6, len x mx, ly6, t15, fun H16 x16 t16 => ⟨_, rfl, iteF ?_⟩⟩
    have h16 := hand_ext h15 x16
    have eD16 := lst_ext eD x16
    refine ⟨_, rfl, _, rfl, _, rfl, p, l, D, mask.map (!·), rfl, h16, eD16, Dp, (by rw [List.length_map]; exact lm), fun H17 z9 y9 k17 h17 nz9 e9 py9 my9 => ?_⟩
    have ly9 : y9.length ≤ 40 := by
      have := congrArg List.length my9
      rw [List.length_map, List.length_map] at this
      omega
    have t17 := tabs_hand t16 h16 k17
    refine ⟨z2, z9, y, y9, rfl, k17 _ _ n2 (lst_ext e2a x16), e9, py, py9, len y my, ly9, t17, fun H18 x18 t18 => ⟨_, rfl, iteF (tNext_of ?_)⟩⟩
    have e1b := lst_ext (k17 _ _ n1 (lst_ext e1a x16)) x18
    have e2b := lst_ext (k17 _ _ n2 (lst_ext e2a x16)) x18
    refine ⟨_, rfl, _, rfl, z1, z2, x, y, rfl, e1b, e2b, px, py, len x mx, len y my, t18, fun H19 x19 t19 => ⟨_, rfl, iteT ?_⟩⟩
    exact ⟨_, rfl, _, rfl, z1, z2, x, y, rfl, lst_ext e1b x19, lst_ext e2b x19, px, py, hM, len x mx, fun H20 s20 => q H20⟩
end
end K26

set_option maxHeartbeats 8000000
/-! the facts by the head, the end -/
namespace K26
open PySem PySem.Spec PyProof.Rows L2
theorem oexB_ok {K : PySem.W.Frag} {C : Addr} (h : oexB K C = true) : ∃ nm q N bs bm sn sub ab col dd k0 k1 k2 k3 k5, K.lookup C = some (excClassObj nm q C N bs bm true sn sub ab col dd k0 k1 k2 k3 k5 "ValueError.__new__") ∧ PySem.HandSPX.refsVE bm = true := by
  unfold oexB at h
  split at h
  · rename_i t dd cd sl e
    obtain ⟨h1, h2⟩ := Bool.and_eq_true_iff.mp h
    have et := of_decide_eq_true h1
    split at h2
    · rename_i C' bm k0 k1 k2 k3 n k5 hm hs
      obtain ⟨h3, h4⟩ := Bool.and_eq_true_iff.mp h2
      obtain ⟨h5, h6⟩ := Bool.and_eq_true_iff.mp h4
      obtain ⟨h7, h8⟩ := Bool.and_eq_true_iff.mp h6
      obtain ⟨h9, h10⟩ := Bool.and_eq_true_iff.mp h8
      have eC := of_decide_eq_true h3
      have en := of_decide_eq_true h5
      obtain ⟨nm, bs, mro, ns, qn, hd, sn, sb, ab, col, del⟩ := cd
      dsimp only at hm h7 h9
      have e9 : del = false := by
        cases del with
        | false => rfl
        | true => cases h9
      have es : sl = #[k0, k1, k2, k3, some (.builtin n), k5] := by
        cases sl
        exact congrArg Array.mk hs
      subst et eC en e9 hm es h7
      exact ⟨nm, qn, ns, bs, bm, sn, sb, ab, col, dd, k0, k1, k2, k3, k5, e, h10⟩
    · cases h2
  · cases h
theorem b2 {a b : Bool} (h : (a && b) = true) : a = true ∧ b = true := Bool.and_eq_true_iff.mp h
/-- what the head says of an error -/
structure BadF (K : PySem.W.Frag) (D : Addr) : Prop where
  ox : OexC K D
  xf : XfC K D
  cl : PySem.W.findIn K (.ref D) "__class__" = some (some (.builtin "object.__class__"))
  ob : PySem.W.mroIn K D (.type "object") = some true
  ini : PySem.W.findIn K (.ref D) "__init__" = some (some (.ref (He.ma K D "__init__")))
  ty : PySem.W.typeIn K (.ref (He.ma K D "__init__")) = some (.type "function")
theorem badE_ok {K : PySem.W.Frag} {D : Addr} (h : badE K D = true) : BadF K D := by
  obtain ⟨x1, h⟩ := b2 h
  obtain ⟨x2, h⟩ := b2 h
  obtain ⟨x3, x4⟩ := b2 h
  obtain ⟨h1, h⟩ := b2 x2
  obtain ⟨h2, h⟩ := b2 h
  obtain ⟨h3, h⟩ := b2 h
  obtain ⟨h4, h⟩ := b2 h
  obtain ⟨h5, h⟩ := b2 h
  obtain ⟨h6, h⟩ := b2 h
  obtain ⟨h7, h⟩ := b2 h
  obtain ⟨h8, h9⟩ := b2 h
  have xf : XfC K D := ⟨of_decide_eq_true h1, of_decide_eq_true h2, of_decide_eq_true h3, h4⟩
  exact ⟨⟨oexB_ok x1, of_decide_eq_true h7, xf.exC, of_decide_eq_true h8, h9⟩, xf, of_decide_eq_true h5, of_decide_eq_true h6, of_decide_eq_true x3, of_decide_eq_true x4⟩
theorem proB_ok {K : PySem.W.Frag} (h : proB K = true) : PropOf K (He.ga K "Pattern") "class_count" (pA K) (gA K) := by
  obtain ⟨h1, h⟩ := b2 h
  obtain ⟨h2, h⟩ := b2 h
  obtain ⟨h3, h4⟩ := b2 h
  refine ⟨of_decide_eq_true h1, of_decide_eq_true h2, of_decide_eq_true h3, ?_⟩
  unfold gA
  cases e : PySem.W.recIn K (pA K) "property" with
  | none => rw [e] at h4; cases h4
  | some l =>
    rw [e] at h4
    match l, h4 with
    | .ref g :: rest, _ => exact ⟨rest, rfl⟩
theorem funG {K : PySem.W.Frag} (e : gW K = valM.2.2) (c : gB K = true) :
    ∃ fd, FunD K "class_count" "Pattern.class_count" (defArgs sCount) (defBody sCount) (defScope sCount) [] [] (gA K) fd := by
  obtain ⟨kp, c2⟩ := b2 c
  unfold gW at e
  cases hq : K.lookup (gA K) with
  | none =>
    rw [hq] at e
    cases e
  | some ob =>
    obtain ⟨kc, kd, kt, ks⟩ := ob
    rw [hq] at c2 e
    cases kt with
    | func dd =>
      obtain ⟨m1, m2, m3, m4, m5, m6, m7, m8, m9, m10, m11, m12, m13, m14, m15⟩ := dd
      have ee : (some (m1, m2, m3, m4, m5, m6, m7, m15) : He.FnW) = some (("class_count" : Str), ("Pattern.class_count" : Str), defArgs sCount0, FuncBody.stmts (defBody sCount0), defScope sCount0, mainGlobals, ([] : List (Str × Addr)), builtinsNs) := e
      simp only [Option.some.injEq, Prod.mk.injEq] at ee
      obtain ⟨a1, a2, a3, a4, a5, a6, a7, a8⟩ := ee
      subst a1 a2 a3 a4 a5 a6 a7 a8
      obtain ⟨l1, l2⟩ := b2 (show (PySem.W.codeIn K m13 "Pattern.class_count" && (He.dflB K m8 [] && He.kwdB K m9 [])) = true from c2)
      obtain ⟨l3, l4⟩ := b2 l2
      exact ⟨_, ⟨kc, kd, m8, m9, m10, m11, m12, m13, m14, ks, rfl, hq, l1, He.dflB_ok l3, He.kwdB_ok l4⟩, kp⟩
    | _ => cases e
section
variable {P : Program} {w : World} {K : PySem.W.Frag} {mg : Str → Option Value} {base : Heap}
theorem SaysM.all (c : SaysM K) : ((fa.all fun f => f.ok K) && (restB K && fn.all fun d => d.ok K)) = true := congrArg (fun z : AlM => z.1) c
theorem SaysM.fact_ (c : SaysM K) (i : Nat) {f : He.Fa} (h : fa[i]? = some f) : f.ok K = true := List.all_eq_true.mp (b2 c.all).1 f (List.mem_of_getElem? h)
theorem SaysM.rest (c : SaysM K) : restB K = true := (b2 (b2 c.all).2).1
theorem SaysM.prop (c : SaysM K) : gW K = valM.2.2 := congrArg (fun z : AlM => z.2.2) c
theorem SaysM.def_ (c : SaysM K) (i : Nat) {d : He.DefD} (h : fn[i]? = some d) : ∃ fd, FunD K d.name d.qual d.params d.body d.scope (d.dvs K) (d.kws K) (He.fAd K d.at_) fd := by
  have c2 := (b2 (b2 c.all).2).2
  have e : fn.map (fun d => He.fnW K d.at_) = fn.map He.DefD.val := congrArg (fun z : AlM => z.2.1) c
  have e2 : (fn.map fun d => He.fnW K d.at_)[i]? = (fn.map He.DefD.val)[i]? := by rw [e]
  rw [List.getElem?_map, List.getElem?_map, h] at e2
  exact He.DefD.funD (Option.some.inj e2) (List.all_eq_true.mp c2 d (List.mem_of_getElem? h))
/-- with its code object known -/
theorem funC_of {x qual : Str} {params : Arguments} {body : List Stmt} {scope : Scope} {p : He.Defn} {fd : FuncData} (F : FunD K x qual params body scope [] [] (He.fAd K p) fd) : FunC K x qual params body scope (He.codeOf K p) (He.fAd K p) fd := by
  obtain ⟨oc, od, dV, kV, doc, pm, an, cdv, ct, osl, rfl, lk, hcd, _, _⟩ := F.ex
  obtain ⟨c, rfl⟩ := He.codeIn_ref hcd
  have e := He.codeOf_eq lk rfl
  rw [e]
  exact ⟨oc, od, dV, kV, doc, pm, an, ct, osl, rfl, lk, hcd⟩
theorem facts {h : Heap} {f : Addr} (X : K.In h) (G : h.Ns mainGlobals mg) (hfa : mg ("law" : Str) = some (.ref f)) (c : SaysM K) :
    ∃ fd : FuncData, (∀ (s : Shared) (v : Value), BindsTo s fd ⟨[v], []⟩ [("_law_script", v)]) ∧ ∀ base : Heap, K.In base → base.Ns mainGlobals mg → LamX.TabB base mg (He.codeOf K ("_law_unmatched_right", none)) (He.tabOf K (He.codeOf K ("_law_unmatched_right", none))) → FnOk P w K mg base CX0 9 f fd ["_law_script"] (spLaw K (He.tabOf K (He.codeOf K ("_law_unmatched_right", none)))) := by
  have z_int : mg "int" = none := He.free_ok X G (c.fact_ 0 (f := .free "int") rfl)
  have z_bool : mg "bool" = none := He.free_ok X G (c.fact_ 1 (f := .free "bool") rfl)
  have z_isinstance : mg "isinstance" = none := He.free_ok X G (c.fact_ 2 (f := .free "isinstance") rfl)
  have z_len : mg "len" = none := He.free_ok X G (c.fact_ 3 (f := .free "len") rfl)
  have z_list : mg "list" = none := He.free_ok X G (c.fact_ 4 (f := .free "list") rfl)
  have z_tuple : mg "tuple" = none := He.free_ok X G (c.fact_ 5 (f := .free "tuple") rfl)
  have z_enumerate : mg "enumerate" = none := He.free_ok X G (c.fact_ 6 (f := .free "enumerate") rfl)
  have z_range : mg "range" = none := He.free_ok X G (c.fact_ 7 (f := .free "range") rfl)
  have z_abs : mg "abs" = none := He.free_ok X G (c.fact_ 8 (f := .free "abs") rfl)
  have z_type : mg "type" = none := He.free_ok X G (c.fact_ 9 (f := .free "type") rfl)
  have z_max : mg "max" = none := He.free_ok X G (c.fact_ 10 (f := .free "max") rfl)
  have z_set : mg "set" = none := He.free_ok X G (c.fact_ 11 (f := .free "set") rfl)
  have g_is_sequence : mg "is_sequence" = some (.ref (He.ga K "is_sequence")) := He.glo_ok X G (c.fact_ 12 (f := .glo "is_sequence") rfl)
  have g_numbered : mg "numbered" = some (.ref (He.ga K "numbered")) := He.glo_ok X G (c.fact_ 13 (f := .glo "numbered") rfl)
  have g__entries_fault : mg "_entries_fault" = some (.ref (He.ga K "_entries_fault")) := He.glo_ok X G (c.fact_ 14 (f := .glo "_entries_fault") rfl)
  have g_check_match : mg "check_match" = some (.ref (He.ga K "check_match")) := He.glo_ok X G (c.fact_ 15 (f := .glo "check_match") rfl)
  have g__merged : mg "_merged" = some (.ref (He.ga K "_merged")) := He.glo_ok X G (c.fact_ 16 (f := .glo "_merged") rfl)
  have g_is_finer : mg "is_finer" = some (.ref (He.ga K "is_finer")) := He.glo_ok X G (c.fact_ 17 (f := .glo "is_finer") rfl)
  have g__law_mix : mg "_law_mix" = some (.ref (He.ga K "_law_mix")) := He.glo_ok X G (c.fact_ 18 (f := .glo "_law_mix") rfl)
  have g__law_hand : mg "_law_hand" = some (.ref (He.ga K "_law_hand")) := He.glo_ok X G (c.fact_ 19 (f := .glo "_law_hand") rfl)
  have g__law_draw : mg "_law_draw" = some (.ref (He.ga K "_law_draw")) := He.glo_ok X G (c.fact_ 20 (f := .glo "_law_draw") rfl)
  have g__law_pick : mg "_law_pick" = some (.ref (He.ga K "_law_pick")) := He.glo_ok X G (c.fact_ 21 (f := .glo "_law_pick") rfl)
  have g__law_mask : mg "_law_mask" = some (.ref (He.ga K "_law_mask")) := He.glo_ok X G (c.fact_ 22 (f := .glo "_law_mask") rfl)
  have g__law_on : mg "_law_on" = some (.ref (He.ga K "_law_on")) := He.glo_ok X G (c.fact_ 23 (f := .glo "_law_on") rfl)
  have g__law_numbers : mg "_law_numbers" = some (.ref (He.ga K "_law_numbers")) := He.glo_ok X G (c.fact_ 24 (f := .glo "_law_numbers") rfl)
  have g__law_near : mg "_law_near" = some (.ref (He.ga K "_law_near")) := He.glo_ok X G (c.fact_ 25 (f := .glo "_law_near") rfl)
  have g__law_finer : mg "_law_finer" = some (.ref (He.ga K "_law_finer")) := He.glo_ok X G (c.fact_ 26 (f := .glo "_law_finer") rfl)
  have g__law_above : mg "_law_above" = some (.ref (He.ga K "_law_above")) := He.glo_ok X G (c.fact_ 27 (f := .glo "_law_above") rfl)
  have g__law_beneath : mg "_law_beneath" = some (.ref (He.ga K "_law_beneath")) := He.glo_ok X G (c.fact_ 28 (f := .glo "_law_beneath") rfl)
  have g__law_match_word : mg "_law_match_word" = some (.ref (He.ga K "_law_match_word")) := He.glo_ok X G (c.fact_ 29 (f := .glo "_law_match_word") rfl)
  have g__law_word : mg "_law_word" = some (.ref (He.ga K "_law_word")) := He.glo_ok X G (c.fact_ 30 (f := .glo "_law_word") rfl)
  have g__law_is : mg "_law_is" = some (.ref (He.ga K "_law_is")) := He.glo_ok X G (c.fact_ 31 (f := .glo "_law_is") rfl)
  have g__law_pair_right : mg "_law_pair_right" = some (.ref (He.ga K "_law_pair_right")) := He.glo_ok X G (c.fact_ 32 (f := .glo "_law_pair_right") rfl)
  have g__law_three_right : mg "_law_three_right" = some (.ref (He.ga K "_law_three_right")) := He.glo_ok X G (c.fact_ 33 (f := .glo "_law_three_right") rfl)
  have g__law_unmatched_right : mg "_law_unmatched_right" = some (.ref (He.ga K "_law_unmatched_right")) := He.glo_ok X G (c.fact_ 34 (f := .glo "_law_unmatched_right") rfl)
  have g_law : mg "law" = some (.ref (He.ga K "law")) := He.glo_ok X G (c.fact_ 35 (f := .glo "law") rfl)
  have g_Pattern : mg "Pattern" = some (.ref (He.ga K "Pattern")) := He.glo_ok X G (c.fact_ 36 (f := .glo "Pattern") rfl)
  have g_BadPattern : mg "BadPattern" = some (.ref (He.ga K "BadPattern")) := He.glo_ok X G (c.fact_ 37 (f := .glo "BadPattern") rfl)
  have g_BadMatch : mg "BadMatch" = some (.ref (He.ga K "BadMatch")) := He.glo_ok X G (c.fact_ 38 (f := .glo "BadMatch") rfl)
  have g_MOST_PLACES : ∃ t, mg "MOST_PLACES" = some (.int 40 t) := He.int_ok X G (c.fact_ 39 (f := .int "MOST_PLACES" 40) rfl)
  obtain ⟨d_is_sequence, F_is_sequence⟩ := c.def_ 0 rfl
  obtain ⟨d_numbered, F_numbered⟩ := c.def_ 1 rfl
  obtain ⟨d__entries_fault, F__entries_fault⟩ := c.def_ 2 rfl
  obtain ⟨d_check_match, F_check_match⟩ := c.def_ 3 rfl
  obtain ⟨d__merged, F__merged⟩ := c.def_ 4 rfl
  obtain ⟨d_is_finer, F_is_finer⟩ := c.def_ 5 rfl
  obtain ⟨d__law_mix, F__law_mix⟩ := c.def_ 6 rfl
  obtain ⟨d__law_hand, F__law_hand⟩ := c.def_ 7 rfl
  obtain ⟨d__law_draw, F__law_draw⟩ := c.def_ 8 rfl
  obtain ⟨d__law_pick, F__law_pick⟩ := c.def_ 9 rfl
  obtain ⟨d__law_mask, F__law_mask⟩ := c.def_ 10 rfl
  obtain ⟨d__law_on, F__law_on⟩ := c.def_ 11 rfl
  obtain ⟨d__law_numbers, F__law_numbers⟩ := c.def_ 12 rfl
  obtain ⟨d__law_near, F__law_near⟩ := c.def_ 13 rfl
  obtain ⟨d__law_finer, F__law_finer⟩ := c.def_ 14 rfl
  obtain ⟨d__law_above, F__law_above⟩ := c.def_ 15 rfl
  obtain ⟨d__law_beneath, F__law_beneath⟩ := c.def_ 16 rfl
  obtain ⟨d__law_match_word, F__law_match_word⟩ := c.def_ 17 rfl
  obtain ⟨d__law_word, F__law_word⟩ := c.def_ 18 rfl
  obtain ⟨d__law_is, F__law_is⟩ := c.def_ 19 rfl
  obtain ⟨d__law_pair_right, F__law_pair_right⟩ := c.def_ 20 rfl
  obtain ⟨d__law_three_right, F__law_three_right⟩ := c.def_ 21 rfl
  obtain ⟨d__law_unmatched_right, F__law_unmatched_right⟩ := c.def_ 22 rfl
  obtain ⟨d_law, F_law⟩ := c.def_ 23 rfl
  obtain ⟨d_BadPattern__init__, F_BadPattern__init__⟩ := c.def_ 24 rfl
  obtain ⟨d_BadMatch__init__, F_BadMatch__init__⟩ := c.def_ 25 rfl
  obtain ⟨d_Pattern__init__, F_Pattern__init__⟩ := c.def_ 26 rfl
  obtain ⟨d_Pattern__or__, F_Pattern__or__⟩ := c.def_ 27 rfl
  obtain ⟨d_Pattern__and__, F_Pattern__and__⟩ := c.def_ 28 rfl
  obtain ⟨d_Pattern__eq__, F_Pattern__eq__⟩ := c.def_ 29 rfl
  have b_is_sequence : Binds K d_is_sequence ["thing"] [] := FunD.bindsN F_is_sequence fun _ _ _ _ _ _ us hl => match us, hl with | [_], _ => rfl
  have b_numbered : Binds K d_numbered ["values"] [] := FunD.bindsN F_numbered fun _ _ _ _ _ _ us hl => match us, hl with | [_], _ => rfl
  have b__entries_fault : Binds K d__entries_fault ["entries"] [] := FunD.bindsN F__entries_fault fun _ _ _ _ _ _ us hl => match us, hl with | [_], _ => rfl
  have b_check_match : Binds K d_check_match ["one", "other"] [] := FunD.bindsN F_check_match fun _ _ _ _ _ _ us hl => match us, hl with | [_, _], _ => rfl
  have b__merged : Binds K d__merged ["one", "other"] [] := FunD.bindsN F__merged fun _ _ _ _ _ _ us hl => match us, hl with | [_, _], _ => rfl
  have b_is_finer : Binds K d_is_finer ["one", "other"] [] := FunD.bindsN F_is_finer fun _ _ _ _ _ _ us hl => match us, hl with | [_, _], _ => rfl
  have b__law_mix : Binds K d__law_mix ["_law_number", "_law_turn"] [] := FunD.bindsN F__law_mix fun _ _ _ _ _ _ us hl => match us, hl with | [_, _], _ => rfl
  have b__law_hand : Binds K d__law_hand ["_law_script"] [] := FunD.bindsN F__law_hand fun _ _ _ _ _ _ us hl => match us, hl with | [_], _ => rfl
  have b__law_draw : Binds K d__law_draw ["_law_hand_here", "_law_many"] [] := FunD.bindsN F__law_draw fun _ _ _ _ _ _ us hl => match us, hl with | [_, _], _ => rfl
  have b__law_pick : Binds K d__law_pick ["_law_hand_here", "_law_things"] [] := FunD.bindsN F__law_pick fun _ _ _ _ _ _ us hl => match us, hl with | [_, _], _ => rfl
  have b__law_mask : Binds K d__law_mask ["_law_hand_here"] [] := FunD.bindsN F__law_mask fun _ _ _ _ _ _ us hl => match us, hl with | [_], _ => rfl
  have b__law_on : Binds K d__law_on ["_law_hand_here", "_law_mask_here"] [] := FunD.bindsN F__law_on fun _ _ _ _ _ _ us hl => match us, hl with | [_, _], _ => rfl
  have b__law_numbers : Binds K d__law_numbers ["_law_things"] [] := FunD.bindsN F__law_numbers fun _ _ _ _ _ _ us hl => match us, hl with | [_], _ => rfl
  have b__law_near : Binds K d__law_near ["_law_hand_here", "_law_entries"] [] := FunD.bindsN F__law_near fun _ _ _ _ _ _ us hl => match us, hl with | [_, _], _ => rfl
  have b__law_finer : Binds K d__law_finer ["_law_one", "_law_other"] [] := FunD.bindsN F__law_finer fun _ _ _ _ _ _ us hl => match us, hl with | [_, _], _ => rfl
  have b__law_above : Binds K d__law_above ["_law_one", "_law_other"] [] := FunD.bindsN F__law_above fun _ _ _ _ _ _ us hl => match us, hl with | [_, _], _ => rfl
  have b__law_beneath : Binds K d__law_beneath ["_law_one", "_law_other"] [] := FunD.bindsN F__law_beneath fun _ _ _ _ _ _ us hl => match us, hl with | [_, _], _ => rfl
  have b__law_match_word : Binds K d__law_match_word ["_law_one", "_law_other"] [] := FunD.bindsN F__law_match_word fun _ _ _ _ _ _ us hl => match us, hl with | [_, _], _ => rfl
  have b__law_word : Binds K d__law_word ["_law_call"] [] := FunD.bindsN F__law_word fun _ _ _ _ _ _ us hl => match us, hl with | [_], _ => rfl
  have b__law_is : Binds K d__law_is ["_law_told", "_law_due"] [] := FunD.bindsN F__law_is fun _ _ _ _ _ _ us hl => match us, hl with | [_, _], _ => rfl
  have b__law_pair_right : Binds K d__law_pair_right ["_law_one", "_law_other"] [] := FunD.bindsN F__law_pair_right fun _ _ _ _ _ _ us hl => match us, hl with | [_, _], _ => rfl
  have b__law_three_right : Binds K d__law_three_right ["_law_one", "_law_other", "_law_third"] [] := FunD.bindsN F__law_three_right fun _ _ _ _ _ _ us hl => match us, hl with | [_, _, _], _ => rfl
  have b__law_unmatched_right : Binds K d__law_unmatched_right ["_law_one", "_law_other"] [] := FunD.bindsN F__law_unmatched_right fun _ _ _ _ _ _ us hl => match us, hl with | [_, _], _ => rfl
  have b_BadPattern__init__ : Binds K d_BadPattern__init__ ["self", "index", "what"] [] := FunD.bindsN F_BadPattern__init__ fun _ _ _ _ _ _ us hl => match us, hl with | [_, _, _], _ => rfl
  have b_BadMatch__init__ : Binds K d_BadMatch__init__ ["self", "what"] [] := FunD.bindsN F_BadMatch__init__ fun _ _ _ _ _ _ us hl => match us, hl with | [_, _], _ => rfl
  have b_Pattern__init__ : Binds K d_Pattern__init__ ["self", "entries"] [] := FunD.bindsN F_Pattern__init__ fun _ _ _ _ _ _ us hl => match us, hl with | [_, _], _ => rfl
  have b_Pattern__or__ : Binds K d_Pattern__or__ ["self", "other"] [] := FunD.bindsN F_Pattern__or__ fun _ _ _ _ _ _ us hl => match us, hl with | [_, _], _ => rfl
  have b_Pattern__and__ : Binds K d_Pattern__and__ ["self", "other"] [] := FunD.bindsN F_Pattern__and__ fun _ _ _ _ _ _ us hl => match us, hl with | [_, _], _ => rfl
  have b_Pattern__eq__ : Binds K d_Pattern__eq__ ["self", "other"] [] := FunD.bindsN F_Pattern__eq__ fun _ _ _ _ _ _ us hl => match us, hl with | [_, _], _ => rfl
  have T : PatC K (He.ga K "Pattern") := ⟨(He.cls_ok (c.fact_ 40 (f := .cls "Pattern") rfl)), (He.noat_ok (c.fact_ 42 (f := .noat "Pattern" "entries") rfl)), (He.noat_ok (c.fact_ 43 (f := .noat "Pattern" "_classes") rfl))⟩
  obtain ⟨r1, r⟩ := b2 c.rest
  obtain ⟨r2, r⟩ := b2 r
  obtain ⟨r3, r⟩ := b2 r
  obtain ⟨r4, r⟩ := b2 r
  obtain ⟨r5, r⟩ := b2 r
  obtain ⟨r6, r⟩ := b2 r
  obtain ⟨r7, r8⟩ := b2 r
  have bP := badE_ok r1
  have bM := badE_ok r2
  obtain ⟨d_count, F_count⟩ := funG c.prop r8
  have b_count : Binds K d_count ["self"] [] := FunD.bindsN F_count fun _ _ _ _ _ _ us hl => match us, hl with | [_], _ => rfl
  obtain ⟨p1, p2⟩ := b2 r3
  obtain ⟨p2, p3⟩ := b2 p2
  obtain ⟨p3, p4⟩ := b2 p3
  obtain ⟨o1, o2⟩ := b2 r4
  obtain ⟨n1, n2⟩ := b2 r5
  have e := hfa.symm.trans g_law
  cases e
  have b_law := FunD.bindsA (ps := ["_law_script"]) F_law fun _ _ _ _ _ _ us hl => match us, hl with | [_], _ => rfl
  refine ⟨d_law, fun s v => b_law s [v] rfl, fun base KX KG TB => ?_⟩
  have D_is_sequence : Df P w K mg base "is_sequence" 1 ["thing"] spSeq (He.ga K "is_sequence") d_is_sequence := ⟨g_is_sequence, ok_seq F_is_sequence z_list z_tuple z_isinstance, b_is_sequence, F_is_sequence.kp⟩
  have D__entries_fault : Df P w K mg base "_entries_fault" 2 ["entries"] spEF (He.ga K "_entries_fault") d__entries_fault := ⟨g__entries_fault, ok_ef F__entries_fault z_len z_enumerate z_isinstance z_int z_bool g_MOST_PLACES D_is_sequence, b__entries_fault, F__entries_fault.kp⟩
  have XP : ErrC P w K mg base "BadPattern" ["self", "index", "what"] spPatErr (He.ga K "BadPattern") _ d_BadPattern__init__ := ⟨bP.ox, bP.ini, bP.ty, g_BadPattern, ok_patErr F_BadPattern__init__ bP.ox (He.noat_ok (c.fact_ 44 (f := .noat "BadPattern" "index") rfl)) (He.noat_ok (c.fact_ 45 (f := .noat "BadPattern" "what") rfl)), b_BadPattern__init__⟩
  have XM : ErrC P w K mg base "BadMatch" ["self", "what"] spMtErr (He.ga K "BadMatch") _ d_BadMatch__init__ := ⟨bM.ox, bM.ini, bM.ty, g_BadMatch, ok_mtErr F_BadMatch__init__ bM.ox (He.noat_ok (c.fact_ 46 (f := .noat "BadMatch" "what") rfl)), b_BadMatch__init__⟩
  have M : PatMk P w K mg base (He.ga K "Pattern") (He.ga K "BadPattern") _ d_Pattern__init__ := ⟨(He.mkr_ok (c.fact_ 41 (f := .mkr "Pattern") rfl)), g_Pattern, ok_pat F_Pattern__init__ T z_tuple z_max D__entries_fault XP, b_Pattern__init__⟩
  have D_nbI : Df P w K mg base "numbered" 1 ["values"] spNbI (He.ga K "numbered") d_numbered := ⟨g_numbered, ok_nbI F_numbered z_len, b_numbered, F_numbered.kp⟩
  have D_nbT : Df P w K mg base "numbered" 1 ["values"] spNbT (He.ga K "numbered") d_numbered := ⟨g_numbered, ok_nbT F_numbered z_len, b_numbered, F_numbered.kp⟩
  have D_check_match : DfE P w K mg base "check_match" 3 ["one", "other"] (spCM (He.ga K "Pattern") (He.ga K "BadMatch")) (He.ga K "check_match") d_check_match := ⟨g_check_match, ok_cm F_check_match T z_len XM, b_check_match, F_check_match.kp⟩
  have D__merged : Df P w K mg base "_merged" 1 ["one", "other"] spMg (He.ga K "_merged") d__merged := ⟨g__merged, ok_mg F__merged z_len z_list z_range z_enumerate, b__merged, F__merged.kp⟩
  have PR : CountP P w K mg base (He.ga K "Pattern") (pA K) (gA K) d_count := ⟨proB_ok r7, ok_count F_count T, b_count⟩
  have D_is_finer : DfE P w K mg base "is_finer" 4 ["one", "other"] (spFin (He.ga K "Pattern") (He.ga K "BadMatch")) (He.ga K "is_finer") d_is_finer := ⟨g_is_finer, ok_fin F_is_finer T z_enumerate z_len z_set D_check_match PR, b_is_finer, F_is_finer.kp⟩
  have O : OpB P w K mg base (He.ga K "Pattern") .BitOr (spBin (He.ga K "Pattern") (He.ga K "BadMatch") joinL) _ d_Pattern__or__ := ⟨ok_or F_Pattern__or__ T D_check_match D__merged D_nbI M, r6, of_decide_eq_true o1, o2, b_Pattern__or__⟩
  have I : OpB P w K mg base (He.ga K "Pattern") .BitAnd (spBin (He.ga K "Pattern") (He.ga K "BadMatch") meetL) _ d_Pattern__and__ := ⟨ok_and F_Pattern__and__ T z_enumerate D_check_match D_nbT M, r6, of_decide_eq_true n1, n2, b_Pattern__and__⟩
  have EQ : EqB P w K mg base (He.ga K "Pattern") _ d_Pattern__eq__ := ⟨ok_peq F_Pattern__eq__ T z_type, of_decide_eq_true p1, p2, b_Pattern__eq__, p3⟩
  have N : MtX K mg (He.ga K "BadMatch") := ⟨g_BadMatch, bM.xf, (He.noat_ok (c.fact_ 46 (f := .noat "BadMatch" "what") rfl)), (He.exm_ok (c.fact_ 47 (f := .exm "BadMatch" "BadMatch" true) rfl))⟩
  have D_draw0 : Df P w K mg base "_law_draw" 2 ["_law_hand_here", "_law_many"] spDraw (He.ga K "_law_draw") d__law_draw := ⟨g__law_draw, ok_draw F__law_draw z_int z_len F__law_mix g__law_mix, b__law_draw, F__law_draw.kp⟩
  have D__law_hand : Df P w K mg base "_law_hand" 1 ["_law_script"] (spHand K) (He.ga K "_law_hand") d__law_hand := ⟨g__law_hand, ok_hand F__law_hand z_int z_abs z_enumerate, b__law_hand, F__law_hand.kp⟩
  have D_pick0 : Df P w K mg base "_law_pick" 3 ["_law_hand_here", "_law_things"] (spPick K) (He.ga K "_law_pick") d__law_pick := ⟨g__law_pick, ok_pick F__law_pick z_len D_draw0, b__law_pick, F__law_pick.kp⟩
  have D__law_draw := D_draw0.draw
  have D__law_pick := D_pick0.pick
  have D__law_mask : Df P w K mg base "_law_mask" 4 ["_law_hand_here"] spMask (He.ga K "_law_mask") d__law_mask := ⟨g__law_mask, ok_mask F__law_mask z_range D__law_draw D__law_pick, b__law_mask, F__law_mask.kp⟩
  have D__law_on : Df P w K mg base "_law_on" 3 ["_law_hand_here", "_law_mask_here"] spOn (He.ga K "_law_on") d__law_on := ⟨g__law_on, ok_on F__law_on D__law_draw, b__law_on, F__law_on.kp⟩
  have D__law_numbers : Df P w K mg base "_law_numbers" 1 ["_law_things"] (spNums encN) (He.ga K "_law_numbers") d__law_numbers := ⟨g__law_numbers, ok_nums encI F__law_numbers, b__law_numbers, F__law_numbers.kp⟩
  have D_numP : Df P w K mg base "_law_numbers" 1 ["_law_things"] (spNums datP) (He.ga K "_law_numbers") d__law_numbers := ⟨g__law_numbers, ok_nums encPr F__law_numbers, b__law_numbers, F__law_numbers.kp⟩
  have D__law_near : Df P w K mg base "_law_near" 4 ["_law_hand_here", "_law_entries"] spNear (He.ga K "_law_near") d__law_near := ⟨g__law_near, ok_near F__law_near z_list z_enumerate D__law_draw D__law_pick D__law_numbers, b__law_near, F__law_near.kp⟩
  have D__law_finer : Df P w K mg base "_law_finer" 1 ["_law_one", "_law_other"] spLF (He.ga K "_law_finer") d__law_finer := ⟨g__law_finer, ok_lf F__law_finer z_range z_enumerate, b__law_finer, F__law_finer.kp⟩
  have D__law_above : Df P w K mg base "_law_above" 2 ["_law_one", "_law_other"] (spLA fun l p q => IsJoin l p q) (He.ga K "_law_above") d__law_above := ⟨g__law_above, ok_ab F__law_above z_list z_range z_len D__law_numbers, b__law_above, F__law_above.kp⟩
  have D__law_beneath : Df P w K mg base "_law_beneath" 2 ["_law_one", "_law_other"] (spLA fun l p q => IsMeet l p q) (He.ga K "_law_beneath") d__law_beneath := ⟨g__law_beneath, ok_be F__law_beneath z_range z_len D_numP, b__law_beneath, F__law_beneath.kp⟩
  have D__law_match_word : Df P w K mg base "_law_match_word" 1 ["_law_one", "_law_other"] spMW (He.ga K "_law_match_word") d__law_match_word := ⟨g__law_match_word, ok_mw F__law_match_word z_range z_len, b__law_match_word, F__law_match_word.kp⟩
  have D__law_is : Df P w K mg base "_law_is" 1 ["_law_told", "_law_due"] spIs (He.ga K "_law_is") d__law_is := ⟨g__law_is, ok_is F__law_is z_isinstance z_bool, b__law_is, F__law_is.kp⟩
  have D__law_pair_right : Df P w K mg base "_law_pair_right" 6 ["_law_one", "_law_other"] spPR (He.ga K "_law_pair_right") d__law_pair_right := ⟨g__law_pair_right, ok_pr F__law_pair_right z_list T M D__law_finer D__law_above D__law_beneath D__law_is D_is_finer O I EQ, b__law_pair_right, F__law_pair_right.kp⟩
  have D__law_three_right : Df P w K mg base "_law_three_right" 6 ["_law_one", "_law_other", "_law_third"] spTh (He.ga K "_law_three_right") d__law_three_right := ⟨g__law_three_right, ok_th F__law_three_right T M D__law_finer D_is_finer O I EQ, b__law_three_right, F__law_three_right.kp⟩
  have D__law_unmatched_right : Df P w K mg base "_law_unmatched_right" 8 ["_law_one", "_law_other"] (spUn (He.tabOf K (He.codeOf K ("_law_unmatched_right", none)))) (He.ga K "_law_unmatched_right") d__law_unmatched_right := ⟨g__law_unmatched_right, ok_un (funC_of F__law_unmatched_right) TB F__law_word g__law_word b__law_word N M D__law_match_word D_is_finer O I, b__law_unmatched_right, F__law_unmatched_right.kp⟩
  exact ok_law F_law D__law_hand D__law_draw D__law_pick D__law_mask D__law_on D__law_near D__law_above D__law_beneath D__law_pair_right D__law_three_right D__law_unmatched_right
end
end K26
open PySem PySem.W PySem.Calls PyProof.Rows
set_option maxRecDepth 100000 in
set_option maxHeartbeats 0 in
theorem PySem.Challenge.cw_namesakes_k26_whole_finer_least_above_an_holds : PySem.Challenge.rw_namesakes_k26_whole_finer_least_above_an.Holds := by
  w_on; o_law
  refine HandSHeadRun.head_any (r := OpenLaw.row PySem.Challenge.rw_namesakes_k26_whole_finer_least_above_an) (q := view (OpenLaw.row PySem.Challenge.rw_namesakes_k26_whole_finer_least_above_an).prog [33]) (H := K26.hookM) (ob := K26.ob) (M := 20000) (loose := K26.looseL)
    (d := HandSHeadRun.topDef (OpenLaw.row PySem.Challenge.rw_namesakes_k26_whole_finer_least_above_an).prog 33) (kwd := []) K26.ob_eq
    (by kernel_rfl) (fun s => by kernel_rfl) K26.run (by kernel_rfl) (by kernel_rfl) (by kernel_rfl) (by rfl) (by first | assumption | decide +kernel) (by decide +kernel) ⟨rfl, rfl, rfl, rfl, rfl, by decide +kernel⟩ ?hw ?hc
  case hw => w_witness2
  case hc =>
    refine LamX.walk_ofTsE (l := PySem.Challenge.rw_namesakes_k26_whole_finer_least_above_an) (n := 63) (k := 9) (x := "_law_script") (CX := fun _ => L2.CX0) rfl (by decide) (by kernel_rfl) ⟨rfl, by decide, by decide⟩ ?F (fun _ _ _ _ _ z => z)
    intro w mg fa h Y G hmg0
    obtain ⟨K, KX, c⟩ := Y
    have hmg : mg ("law" : PySem.Str) = some (.ref fa) := by
      have e : (HandSHeadRun.topDef (OpenLaw.row PySem.Challenge.rw_namesakes_k26_whole_finer_least_above_an).prog 33).name = ("law" : PySem.Str) := by kernel_rfl
      rw [← e]
      exact hmg0
    obtain ⟨fd, hb, hF⟩ := K26.facts (P := (PySem.Challenge.rw_namesakes_k26_whole_finer_least_above_an).prog) (w := w) KX G hmg c.m
    have m0 : (("_law_unmatched_right", none) : He.Defn) ∈ K26.tf := List.mem_singleton.mpr rfl
    refine ⟨K, KX, fd, [He.cT K ("_law_unmatched_right", none)], K26.spLaw K (He.cT K ("_law_unmatched_right", none)).2, fun p hp => ?_, fun p hp => ?_, fun p hp => ?_, hb, fun H a ns hl _ hT hS => ⟨a, ns, rfl, hS, hl, fun p hp => ?_, fun _ => rfl⟩, fun base KB GB TB => hF base KB GB (TB _ (List.mem_singleton.mpr rfl))⟩
    · rw [List.mem_singleton.mp hp]
      exact c.empty _ m0
    · rw [List.mem_singleton.mp hp]
      exact c.out _ m0
    · rw [List.mem_singleton.mp hp]
      exact PySem.W.codeHd_of_K KX (c.hd _ m0)
    · rw [List.mem_singleton.mp hp]
      exact LamX.TabS.nil (hT _ (List.mem_singleton.mpr rfl))
