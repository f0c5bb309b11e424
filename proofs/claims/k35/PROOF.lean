import PyProof.Rows.All
import Wide.All
import OpenK.AllK
import Wide.FinOn
import KE.KStateDown
import KE.KExcIs
import HandS.ForMost
import HandS.Exc
import HandS.ExcOwn
import HandS.ExcInit
import HandS.ExcField
import HandS.ExcValue
import HandS.IsInst
import HandS.ExcIs
import HandS.Deep
import HandS.Wide
import HandS.Walk
import HandS.Flow
import HandS.Defaults
import HandS.Words
import HandS.WordsList
import HandS.WordsExc
import HandS.TryOnly
import HandS.Head0
import HandS.Head1
import HandS.Head2
import HandS.HeadEnd
import HandS.HeadHook1
import HandS.HeadHook2
import PySem.Challenge.RW_namesakes_k35_states_made_and_refused
import HandS.HeadHook3
import HandS.SortKw
import KE.DataMinMax
import HandS.OwnEq
import HandS.More
import HandS.SuiteRaise
import HandS.RaiseFrom
import HandS.ExcInitHot
import HandS.Iter
import PyProof.EnumMake
import PyProof.Draws
import KE.GoesMore
import HandS.Text
import HandS.Conv
import HandS.Property
import HandS.Dict
set_option Elab.async false
set_option linter.all false
set_option maxRecDepth 100000
set_option maxHeartbeats 4000000
namespace K35
open PySem PySem.Spec PyProof.Rows L2
def top (i : Nat) : Stmt := PySem.Challenge.pw_namesakes_k35_states_made_and_refused.main.body.getD i (.Pass ⟨0, 0, 0, 0⟩)
abbrev FnP (K : PySem.W.Frag) (x : Str) (st : Stmt) (f : Addr) (fd : FuncData) : Prop := FunD K x x (defArgs st) (defBody st) (defScope st) [] [] f fd
abbrev sPWall : Stmt := top 0
abbrev sPIsWhole : Stmt := top 8
abbrev sPIsKind : Stmt := top 9
abbrev sPIsSequence : Stmt := top 10
abbrev sPNumbered : Stmt := top 13
abbrev sPEntriesFault : Stmt := top 14
abbrev sPCheckMatch : Stmt := top 16
abbrev sPMerged : Stmt := top 17
abbrev sPIsMark : Stmt := top 23
abbrev sPPatternOf : Stmt := top 24
abbrev sPCheckLives : Stmt := top 25
abbrev sPCheckBorne : Stmt := top 26
abbrev sMix : Stmt := top 30
abbrev sHand : Stmt := top 31
abbrev sDraw : Stmt := top 32
abbrev sPick : Stmt := top 33
abbrev sClasses : Stmt := top 34
abbrev sMany : Stmt := top 35
abbrev sEntries : Stmt := top 36
abbrev sDrawnLives : Stmt := top 37
abbrev sDrawnMarks : Stmt := top 38
abbrev sPersonWord : Stmt := top 39
abbrev sCoupleWord : Stmt := top 40
abbrev sFirst : Stmt := top 41
abbrev sSpoilt : Stmt := top 42
abbrev sRefusals : Stmt := top 43
abbrev sPersonRight : Stmt := top 44
abbrev sCoupleRight : Stmt := top 45
abbrev sLaw : Stmt := top 46
end K35

namespace K35
open PySem PySem.Spec PyProof.Rows L2
def oexB (K : PySem.W.Frag) (C : Addr) : Bool := match K.lookup C with
  | some ⟨.type t, _, .cls cd, sl⟩ => decide (t = "type") && (match cd.mro, sl.toList with
    | .ref C' :: bm, [_, _, _, _, some (.builtin n), _] => decide (C' = C) && (decide (n = "ValueError.__new__") && (cd.hasDict && (!cd.hasDel && PySem.HandSPX.refsVE bm)))
    | _, _ => false)
  | _ => false
/-- what isinstance and the reads of fields ask of a class -/
def excB (K : PySem.W.Frag) (D : Addr) : Bool :=
  decide (PySem.W.findIn K (.ref D) "__getattribute__" = some (some (.builtin "BaseException.__getattribute__"))) && (
  decide (PySem.W.findIn K (.ref D) "__getattr__" = some none) && (
  decide (PySem.W.subIn K (.ref D) (.type "BaseException") = some true) && (
  PySem.W.hasDictIn K D && (
  decide (PySem.W.findIn K (.ref D) "__class__" = some (some (.builtin "object.__class__"))) && (
  decide (PySem.W.mroIn K D (.type "object") = some true) && (
  decide (PySem.W.findIn K (.ref D) "__setattr__" = some (some (.builtin "object.__setattr__"))) && (
  decide (PySem.W.typeIn K (.ref D) = some (.type "type")) && (
  PySem.W.keepIn K (.ref D)))))))))
def dunB (K : PySem.W.Frag) : Bool :=
  decide (PySem.W.specialIn K (.builtin "object.__class__") "__get__" = some (some (.builtin "getset_descriptor.__get__"))) && decide (PySem.W.takesIn K (.builtin "object.__class__") = some true)
/-- an error with an own __init__ -/
def badB (K : PySem.W.Frag) (C : Addr) : Bool :=
  oexB K C && (excB K C && (
  decide (PySem.W.findIn K (.ref C) "__init__" = some (some (.ref (He.ma K C "__init__")))) &&
  decide (PySem.W.typeIn K (.ref (He.ma K C "__init__")) = some (.type "function"))))
/-- a class with an own __eq__ -/
def eqB (K : PySem.W.Frag) (C : Addr) : Bool :=
  decide (PySem.W.findIn K (.ref C) "__eq__" = some (some (.ref (He.ma K C "__eq__")))) && (PySem.W.isFn K (.ref (He.ma K C "__eq__")) && (PySem.W.notFirst K C (.ref C) && PySem.W.notFirst K C (.type "tuple")))
/-- the property -/
def pA (K : PySem.W.Frag) : Addr := He.ma K (He.ga K "Pattern") "class_count"
def gA (K : PySem.W.Frag) : Addr := match PySem.W.recIn K (pA K) "property" with
  | some (.ref g :: _) => g
  | _ => 0
def proB (K : PySem.W.Frag) : Bool :=
  decide (PySem.W.findIn K (.ref (He.ga K "Pattern")) "class_count" = some (some (.ref (pA K)))) && (
  decide (PySem.W.specialIn K (.ref (pA K)) "__get__" = some (some (.builtin "property.__get__"))) && (
  decide (PySem.W.takesIn K (.ref (pA K)) = some true) && (match PySem.W.recIn K (pA K) "property" with
    | some (.ref _ :: _) => true
    | _ => false)))
def gW (K : PySem.W.Frag) : He.FnW := match K.lookup (gA K) with
  | some ⟨_, _, .func d, _⟩ => some (d.name, d.qualname, d.params, d.body, d.scope, d.globals, d.closure, d.builtins)
  | _ => none
def gB (K : PySem.W.Frag) : Bool := PySem.W.keepIn K (.ref (gA K)) && (match K.lookup (gA K) with
  | some ⟨_, _, .func d, _⟩ => PySem.W.codeIn K d.code "Pattern.class_count" && (He.dflB K d.defaults [] && He.kwdB K d.kwdefaults [])
  | _ => false)
/-- the marks that are taken where none are handed -/
def tA (K : PySem.W.Frag) : Addr := He.dflAt ("CoupleState", some "__init__") 0 K
def tB0 (K : PySem.W.Frag) : Bool := match K.lookup (tA K) with
  | some ⟨.type c, _, .seq its _, _⟩ => decide (c = "tuple") && (decide (its.size ≤ sizeLine) && He.relAll [V.int 0, V.int 0] its.toList)
  | _ => false
def restB (K : PySem.W.Frag) : Bool := badB K (He.ga K "BadPattern") && (badB K (He.ga K "BadState") && (dunB K && (decide (PySem.W.kitOne K (.ref (He.ga K "BadState")) (.ref (He.ga K "CustomError")) = some true) && (
  eqB K (He.ga K "PersonState") && (eqB K (He.ga K "CoupleState") && (proB K && (gB K && (tB0 K && He.tupB K "KINDS" [.str "s", .str "d"]))))))))
def fa : List He.Fa := [.free "int",
  .free "bool",
  .free "isinstance",
  .free "str",
  .free "len",
  .free "list",
  .free "tuple",
  .free "enumerate",
  .free "range",
  .free "abs",
  .free "type",
  .free "min",
  .free "max",
  .free "sum",
  .glo "is_whole",
  .glo "is_kind",
  .glo "is_sequence",
  .glo "_entries_fault",
  .glo "is_mark",
  .glo "_pattern_of",
  .glo "_check_lives",
  .glo "_check_borne",
  .glo "_law_mix",
  .glo "_law_hand",
  .glo "_law_draw",
  .glo "_law_pick",
  .glo "_law_classes",
  .glo "_law_many",
  .glo "_law_entries",
  .glo "_law_drawn_lives",
  .glo "_law_drawn_marks",
  .glo "_law_person_word",
  .glo "_law_couple_word",
  .glo "_law_first",
  .glo "_law_spoilt",
  .glo "_law_refusals",
  .glo "_law_person_right",
  .glo "_law_couple_right",
  .glo "law",
  .glo "Pattern",
  .glo "PersonState",
  .glo "CoupleState",
  .glo "BadPattern",
  .glo "BadState",
  .glo "CustomError",
  .glo "KINDS",
  .int "MOST_PLACES" 40,
  .int "MOST_MARK" 1000,
  .int "MOST_NUMBER" 3,
  .int "NEVER_BORNE" 0,
  .int "NOW_BORNE" 2,
  .cls "Pattern",
  .mkr "Pattern",
  .noat "Pattern" "entries",
  .noat "Pattern" "_classes",
  .cls "PersonState",
  .mkr "PersonState",
  .noat "PersonState" "kind",
  .noat "PersonState" "names",
  .noat "PersonState" "lives",
  .noat "PersonState" "mark",
  .cls "CoupleState",
  .mkr "CoupleState",
  .noat "CoupleState" "names",
  .noat "CoupleState" "lives",
  .noat "CoupleState" "sons",
  .noat "CoupleState" "daughters",
  .noat "CoupleState" "borne",
  .noat "CoupleState" "marks",
  .noat "CoupleState" "classes",
  .noat "CoupleState" "is_new",
  .meth "CoupleState" "mark_of",
  .noat "BadPattern" "index",
  .noat "BadPattern" "what",
  .noat "BadState" "what",
  .exm "BadPattern" "BadPattern" true,
  .exm "BadState" "BadState" true]
def dG (x : Str) (st : Stmt) : He.DefD := ⟨(x, none), x, x, defArgs st, defBody st, defScope st, [], []⟩
def fn : List He.DefD := [dG "is_whole" sPIsWhole,
  dG "is_kind" sPIsKind,
  dG "is_sequence" sPIsSequence,
  dG "_entries_fault" sPEntriesFault,
  dG "is_mark" sPIsMark,
  dG "_pattern_of" sPPatternOf,
  dG "_check_lives" sPCheckLives,
  dG "_check_borne" sPCheckBorne,
  dG "_law_mix" sMix,
  dG "_law_hand" sHand,
  dG "_law_draw" sDraw,
  dG "_law_pick" sPick,
  dG "_law_classes" sClasses,
  dG "_law_many" sMany,
  dG "_law_entries" sEntries,
  dG "_law_drawn_lives" sDrawnLives,
  dG "_law_drawn_marks" sDrawnMarks,
  dG "_law_person_word" sPersonWord,
  dG "_law_couple_word" sCoupleWord,
  dG "_law_first" sFirst,
  dG "_law_spoilt" sSpoilt,
  dG "_law_refusals" sRefusals,
  dG "_law_person_right" sPersonRight,
  dG "_law_couple_right" sCoupleRight,
  dG "law" sLaw,
  ⟨("BadPattern", some "__init__"), "__init__", "BadPattern.__init__", defArgs (inClass (top 3) 0), defBody (inClass (top 3) 0), defScope (inClass (top 3) 0), [], []⟩,
  ⟨("BadState", some "__init__"), "__init__", "BadState.__init__", defArgs (inClass (top 5) 0), defBody (inClass (top 5) 0), defScope (inClass (top 5) 0), [], []⟩,
  ⟨("Pattern", some "__init__"), "__init__", "Pattern.__init__", defArgs (inClass (top 15) 0), defBody (inClass (top 15) 0), defScope (inClass (top 15) 0), [], []⟩,
  ⟨("PersonState", some "__init__"), "__init__", "PersonState.__init__", defArgs (inClass (top 27) 0), defBody (inClass (top 27) 0), defScope (inClass (top 27) 0), [.int 0], []⟩,
  ⟨("PersonState", some "__eq__"), "__eq__", "PersonState.__eq__", defArgs (inClass (top 27) 1), defBody (inClass (top 27) 1), defScope (inClass (top 27) 1), [], []⟩,
  ⟨("CoupleState", some "__init__"), "__init__", "CoupleState.__init__", defArgs (inClass (top 28) 0), defBody (inClass (top 28) 0), defScope (inClass (top 28) 0), [.adr (He.dflAt ("CoupleState", some "__init__") 0)], []⟩,
  ⟨("CoupleState", some "mark_of"), "mark_of", "CoupleState.mark_of", defArgs (inClass (top 28) 1), defBody (inClass (top 28) 1), defScope (inClass (top 28) 1), [], []⟩,
  ⟨("CoupleState", some "__eq__"), "__eq__", "CoupleState.__eq__", defArgs (inClass (top 28) 2), defBody (inClass (top 28) 2), defScope (inClass (top 28) 2), [], []⟩]
abbrev sCount0 : Stmt := inClass (top 15) 2
/-! ### the Hook -/
abbrev AlM : Type := Bool × List He.FnW × He.FnW
def obsM (K : PySem.W.Frag) : AlM := ((fa.all fun f => f.ok K) && (restB K && fn.all fun d => d.ok K), fn.map fun d => He.fnW K d.at_, gW K)
def valM : AlM := (true, fn.map He.DefD.val, some ("class_count", "Pattern.class_count", defArgs sCount0, .stmts (defBody sCount0), defScope sCount0, mainGlobals, [], builtinsNs))
def SaysM (K : PySem.W.Frag) : Prop := obsM K = valM
end K35

namespace K35
open PySem PySem.Spec PyProof.Rows L2
def refs1 (o : Obj) : List Addr := match o.data with
  | .dict es _ => es.toList.flatMap fun e => He.refV e.val
  | .func fd => He.refV fd.code ++ He.refV fd.defaults
  | .cls cd => [cd.ns]
  | .fields vs => vs.toList.flatMap He.refV
  | .seq its _ => its.toList.flatMap He.refV
  | _ => []
def nxt (g : Addr → Option Obj) (as : List Addr) : List Addr := as.flatMap fun a => match g a with
  | some o => refs1 o
  | none => []
def asL (g : Addr → Option Obj) : Nat → List Addr → List Addr
  | 0, as => as
  | n + 1, as => as ++ asL g n (nxt g as)
def asM (g : Addr → Option Obj) : List Addr := asL g 5 [mainGlobals]
def obsMG (g : Addr → Option Obj) : AlM := obsM (He.frG g (asM g))
def hookM : PySem.W.Hook where
  α := AlM
  obs := fun s => obsMG s.heap.get?
  val := fun _ => valM
  says := fun _ h => ∃ K : PySem.W.Frag, K.In h ∧ SaysM K
  of := fun _ _ e => ⟨_, He.frG_in, e⟩
  keeps := fun _ _ _ ⟨K, hK, c⟩ k => ⟨K, PySem.W.Frag.In.keeps hK k, c⟩
abbrev R : PySem.W.OpenRow := PySem.W.OpenLaw.row PySem.Challenge.rw_namesakes_k35_states_made_and_refused
def ob (s : PySem.W.SharedT) : AlM := obsMG (HandSHeadRun.getT s)
theorem ob_eq (s : PySem.W.SharedT) : ob s = hookM.obs s.abs := by
  have e : HandSHeadRun.getT s = s.abs.heap.get? := funext (HandSHeadRun.getT_eq s)
  show obsMG (HandSHeadRun.getT s) = obsMG s.abs.heap.get?
  rw [e]
def looseL : List Str := [("_wall" : Str), ("CustomError" : Str), ("BadPattern" : Str), ("BadMatch" : Str), ("BadState" : Str), ("KINDS" : Str), ("is_whole" : Str), ("is_kind" : Str), ("is_sequence" : Str), ("MOST_PLACES" : Str), ("numbered" : Str), ("_entries_fault" : Str), ("Pattern" : Str), ("check_match" : Str), ("_merged" : Str), ("MOST_MARK" : Str), ("MOST_NUMBER" : Str), ("NEVER_BORNE" : Str), ("NOW_BORNE" : Str), ("is_mark" : Str), ("_pattern_of" : Str), ("_check_lives" : Str), ("_check_borne" : Str), ("PersonState" : Str), ("CoupleState" : Str), ("_law_mix" : Str), ("_law_hand" : Str), ("_law_draw" : Str), ("_law_pick" : Str), ("_law_classes" : Str), ("_law_many" : Str), ("_law_entries" : Str), ("_law_drawn_lives" : Str), ("_law_drawn_marks" : Str), ("_law_person_word" : Str), ("_law_couple_word" : Str), ("_law_first" : Str), ("_law_spoilt" : Str), ("_law_refusals" : Str), ("_law_person_right" : Str), ("_law_couple_right" : Str)]
theorem run (w : World) : HandSHeadRun.RunEq R (PySem.W.view R.prog [46]) hookM ob 20000 looseL w := by
  intro os
  kernel_rfl
end K35

namespace K35
open PySem PySem.Spec PyProof.Rows L2
/-! ### the hand from which a script is drawn -/
/-- what the hand's list holds: the cells' list, how many are taken, the rest of a great cell, the running number -/
abbrev handO (l : Addr) (i r t : Int) : HO := .lst [.ref l, .int i, .int r, .int t]
structure HandOk (cells : List Int) (i r t : Int) : Prop where
  len : cells.length ≤ 63
  pos : ∀ c ∈ cells, 0 ≤ c
  i0 : 0 ≤ i
  i1 : i ≤ 63
  r0 : 0 ≤ r
  t0 : 0 ≤ t
  t1 : t < 2147483629
def HandAt (H : Hp) (p l : Addr) (cells : List Int) (i r t : Int) : Prop := H p = some (handO l i r t) ∧ H l = some (.lst (cells.map V.int)) ∧ HandOk cells i r t
/-! ### promises -/
def spMix : Sp := fun vs H Q _ => ∃ n k : Int, vs = [.int n, .int k] ∧ 0 ≤ n ∧ n < 2147483647 ∧ 0 ≤ k ∧ k ≤ 64 ∧ ∀ d : Int, 0 ≤ d → Q (.int d) H
def spDraw : Sp := fun vs H Q _ => ∃ (p l : Addr) (cells : List Int) (i r t m : Int), vs = [.ref p, .int m] ∧ HandAt H p l cells i r t ∧ 0 < m ∧ m.natAbs < 2 ^ 8000 ∧
  ∀ d i' r' t' : Int, 0 ≤ d → d < m → HandOk cells i' r' t' → Q (.int d) (upd H p (handO l i' r' t'))
section
variable {P : Program} {w : World} {K : PySem.W.Frag} {mg : Str → Option Value} {base : Heap}
theorem scMix : FnScope ["_law_number", "_law_turn", "_law_once", "_law_twice"] ["_law_number", "_law_turn"] (defScope sMix) := ⟨rfl, rfl, rfl, by decide +kernel, rfl, by decide +kernel, by decide +kernel⟩
theorem pp31 : (2147483647 : Int) < 2 ^ 64 := by decide
theorem ok_mix {f : Addr} {fd : FuncData} (F : FnP K "_law_mix" sMix f fd) (zi : mg "int" = none) : FnOk P w K mg base CX0 1 f fd ["_law_number", "_law_turn"] spMix := by
  refine F.ok scMix (fun vs H Q E h => ?_) (fun cdv A outer s H vs Q E hr h => ?_)
  · obtain ⟨n, k, rfl, _⟩ := h
    rfl
  · obtain ⟨n, k, rfl, n0, n1, k0, k1, q⟩ := h
    refine ⟨_, PSs.nox (pss_cons (ps_set (i := 2) scMix.nd rfl (.inl rfl)
        (pe_op op_mod (pe_callTy call_int1 (by rfl) zi (by decide +kernel) (pa_cons
          (pe_op op_add (pe_op op_add (pe_op op_mul (pv 0) pe_int) (pe_op op_mul (pv 1) pe_int)) pe_int) pa_nil)) pe_int))
      (pss_cons (ps_set (i := 3) scMix.nd rfl (.inl rfl)
        (pe_op op_mod (pe_callTy call_int1 (by rfl) zi (by decide +kernel) (pa_cons
          (pe_op op_add (pe_op op_add (pe_op op_mul (pv 2) (pv 2)) (pe_op op_mul (pe_op op_fdiv (pv 2) pe_int) pe_int)) (pe_op op_mul (pv 1) pe_int)) pa_nil)) pe_int))
      (pss_one (ps_ret (pe_op op_fdiv (pe_op op_mod (pe_callTy call_int1 (by rfl) zi (by decide +kernel) (pa_cons
          (pe_op op_add (pe_op op_fdiv (pe_op op_mul (pv 3) (pv 3)) pe_int) (pv 2)) pa_nil)) pe_int) pe_int))))), ?_⟩
    refine ⟨_, rfl, _, _, rfl, rfl, .inl ⟨by omega, by omega⟩, _, rfl, _, _, rfl, rfl, .inl ⟨by omega, by omega⟩, _, _, rfl, rfl, _, _, rfl, rfl, .inl ⟨_, rfl, _, _, rfl, rfl, (by show (0 : Int) < 2147483647; decide), ?_⟩⟩
    refine ⟨_, rfl, _, rfl, _, _, rfl, rfl, .inl ⟨by omega, by omega⟩, _, rfl, _, _, rfl, rfl, ⟨by decide, by decide⟩, _, _, rfl, rfl, .inr ⟨by decide, by decide⟩, _, _, rfl, rfl, _, rfl, _, _, rfl, rfl, .inl ⟨by omega, by omega⟩, _, _, rfl, rfl, .inl ⟨_, rfl, _, _, rfl, rfl, (by show (0 : Int) < 2147483399; decide), ?_⟩⟩
    refine ⟨_, rfl, _, rfl, _, _, rfl, rfl, .inl ⟨by omega, by omega⟩, _, _, rfl, rfl, ⟨by decide, by decide⟩, _, rfl, _, _, rfl, rfl, .inl ⟨_, rfl, _, _, rfl, rfl, (by show (0 : Int) < 2147483563; decide), _, _, rfl, rfl, ⟨by decide, by decide⟩, ?_⟩⟩
    refine q _ ?_
    omega
theorem scDraw : FnScope ["_law_hand_here", "_law_many_here", "_law_cell", "_law_rest"] ["_law_hand_here", "_law_many_here"] (defScope sDraw) := ⟨rfl, rfl, rfl, by decide +kernel, rfl, by decide +kernel, by decide +kernel⟩
theorem ok_draw {f fM : Addr} {fd fdM : FuncData} (F : FnP K "_law_draw" sDraw f fd) (zi : mg "int" = none) (zl : mg "len" = none) (FM : FnP K "_law_mix" sMix fM fdM) (gM : mg "_law_mix" = some (.ref fM)) : FnOk P w K mg base CX0 2 f fd ["_law_hand_here", "_law_many_here"] spDraw := by
  have GM : FnOk P w K mg base CX0 1 fM fdM ["_law_number", "_law_turn"] spMix := ok_mix FM zi
  have bM : Binds K fdM ["_law_number", "_law_turn"] [] := FM.bindsN fun _ _ _ _ _ _ us hl => match us, hl with | [_, _], _ => rfl
  refine F.ok scDraw (fun vs H Q E h => ?_) (fun cdv A outer s H vs Q E hr h => ?_)
  · obtain ⟨p, l, cells, i, r, t, m, rfl, _⟩ := h
    rfl
  · obtain ⟨p, l, cells, i, r, t, m, rfl, ⟨hp, hl, ok⟩, m0, m1, q⟩ := h
    refine ⟨_, PSs.nox (pss_cons (ps_if (PW.pt (pw_and (pt_cmpR op_eq (pe_ix ix_list (pv 0) pe_int (fun _ _ => rfl)) pe_int (nomark _)) (pw_and1 (pt_cmpR op_lt (pe_ix ix_list (pv 0) pe_int (fun _ _ => rfl)) (pe_callB call_len_seq (by rfl) zl boot_len (pa_cons (pe_ix ix_list (pv 0) pe_int (fun _ _ => rfl)) pa_nil)) (nomark _)))))
          (pss_cons (ps_set (i := 2) scDraw.nd rfl (.inl rfl) (pe_ix ix_list (pe_ix ix_list (pv 0) pe_int (fun _ _ => rfl)) (pe_ix ix_list (pv 0) pe_int (fun _ _ => rfl)) (fun _ _ => rfl)))
          (pss_cons (ps_asg (pe_op op_add (pe_ix ix_list (pv 0) pe_int (fun _ _ => rfl)) pe_int) (pg_sub (pv 0) pe_int set_list))
          (pss_cons (ps_if (pt_cmpR op_lt (pv 2) (pe_op op_pow pe_int pe_int) (nomark _))
            (pss_one (ps_ret (pe_op op_mod (pe_callTy call_int1 (by rfl) zi (by decide +kernel) (pa_cons (pe_call GM hr (by rfl) gM FM.kp bM .nil pass0 (pa_cons (pe_op op_mod (pe_callTy call_int1 (by rfl) zi (by decide +kernel) (pa_cons (pv 2) pa_nil)) pe_int) (pa_cons (pe_ix ix_list (pv 0) pe_int (fun _ _ => rfl)) pa_nil))) pa_nil)) (pv 1)))) pss_nil)
          (pss_one (ps_asg (pv 2) (pg_sub (pv 0) pe_int set_list)))))) pss_nil)
      (pss_cons (ps_if (pt_cmpR op_gt (pe_ix ix_list (pv 0) pe_int (fun _ _ => rfl)) pe_int (nomark _))
          (pss_cons (ps_set (i := 3) scDraw.nd rfl (.inl rfl) (pe_ix ix_list (pv 0) pe_int (fun _ _ => rfl)))
          (pss_cons (ps_asg (pe_op op_fdivW (pv 3) (pv 1)) (pg_sub (pv 0) pe_int set_list))
          (pss_one (ps_ret (pe_op op_mod (pe_callTy call_int1 (by rfl) zi (by decide +kernel) (pa_cons (pv 3) pa_nil)) (pv 1)))))) pss_nil)
      (pss_cons (ps_asg (pe_op op_mod (pe_callTy call_int1 (by rfl) zi (by decide +kernel) (pa_cons (pe_op op_add (pe_ix ix_list (pv 0) pe_int (fun _ _ => rfl)) pe_int) pa_nil)) pe_int) (pg_sub (pv 0) pe_int set_list))
      (pss_one (ps_ret (pe_op op_mod (pe_callTy call_int1 (by rfl) zi (by decide +kernel) (pa_cons (pe_call GM hr (by rfl) gM FM.kp bM .nil pass0 (pa_cons (pe_ix ix_list (pv 0) pe_int (fun _ _ => rfl)) (pa_cons (pe_ix ix_list (pv 0) pe_int (fun _ _ => rfl)) pa_nil))) pa_nil)) (pv 1))))))), ?_⟩
    refine ⟨_, rfl, _, _, _, _, rfl, rfl, SqL.of hp, rfl, rfl, _, rfl, ?_⟩
    have mlog : m.natAbs.log2 < 9000 := Nat.lt_of_lt_of_le (PySem.Flt.log2_lt_of (by decide) m1) (by decide)
    have fin : ∀ (d i' r' t' : Int) (H2 : Hp), 0 ≤ d → d < m → HandOk cells i' r' t' → H2 = upd H p (handO l i' r' t') → Q (.int d) H2 := fun d i' r' t' H2 d0 d1 o e => by
      subst e
      exact q d i' r' t' d0 d1 o
    have npl : l ≠ p := fun z => by
      rw [z, hp] at hl
      have h2 := Option.some.inj hl
      injection h2 with h3
      have h4 := congrArg List.head? h3
      cases cells with
      | nil => cases h4
      | cons c cs => cases h4
    refine ite2 (fun e => ?_) (fun e => ?_)
    · refine ⟨_, rfl, _, _, _, _, rfl, rfl, SqL.of hp, rfl, _, rfl, _, _, _, _, rfl, rfl, SqL.of hp, rfl, _, _, rfl, .inl (SqL.of hl), _, _, rfl, rfl, _, rfl, ?_⟩
      refine ite2 (fun e1 => ?_) (fun e1 => ?_)
      · have HP0 := hp
        have hi0 : 0 ≤ i := ok.i0
        have hlen : ((cells.map V.int).length : Int) = (cells.length : Int) := by rw [List.length_map]
        have hlt : i < (cells.length : Int) := by
          have z : i < ((cells.map V.int).length : Int) := of_decide_eq_true e1
          omega
        have hnat : i.toNat < cells.length := by omega
        have hget : atI (cells.map V.int) i = some (.int cells[i.toNat]) := by
          have z := atI_nat (xs := cells.map V.int) (j := i.toNat) (v := .int cells[i.toNat]) (by rw [List.getElem?_map, List.getElem?_eq_getElem hnat]; rfl)
          rw [Int.toNat_of_nonneg hi0] at z
          exact z
        have c0 : 0 ≤ cells[i.toNat] := ok.pos _ (List.getElem_mem hnat)
        have hl63 := ok.len
        refine ⟨_, rfl, _, _, _, _, rfl, rfl, SqL.of hp, rfl, _, rfl, _, _, _, _, rfl, rfl, SqL.of hp, rfl, _, _, _, _, rfl, rfl, SqL.of hl, hget, ?_⟩
        generalize cells[i.toNat] = c at c0
        refine ⟨_, rfl, _, _, _, _, rfl, rfl, SqL.of hp, rfl, _, _, rfl, rfl, _, rfl, _, _, _, _, rfl, rfl, hp, rfl, ?_⟩
        have ok2 : HandOk cells (i + 1) c t := ⟨ok.len, ok.pos, by omega, by omega, c0, ok.t0, ok.t1⟩
        refine ⟨_, rfl, _, _, rfl, rfl, ⟨by decide, by decide, by decide⟩, _, _, rfl, rfl, _, rfl, ?_⟩
        refine ite2 (fun e2 => ?_) (fun e2 => ?_)
        · refine ⟨_, rfl, .inl ⟨_, rfl, _, _, rfl, rfl, (by show (0 : Int) < 2147483647; decide), _, rfl, _, _, _, _, rfl, rfl, SqL.of upd_same, rfl, _, _, rfl, Int.emod_nonneg _ (by decide), Int.emod_lt_of_pos _ (by decide), by omega, by omega, fun d d0 => ?_⟩⟩
          refine .inl ⟨_, rfl, _, rfl, _, _, rfl, rfl, m0, ?_⟩
          exact fin _ _ _ _ _ (Int.emod_nonneg _ (Int.ne_of_gt m0)) (Int.emod_lt_of_pos _ m0) ⟨ok.len, ok.pos, ok2.i0, ok2.i1, ok.r0, ok.t0, ok.t1⟩ (by simp only [upd_upd]; rfl)
        · refine ⟨_, rfl, _, rfl, _, _, _, _, rfl, rfl, upd_same, rfl, ?_⟩
          have HP : (upd (upd H p (.lst ([V.ref l, .int i, .int r, .int t].set 1 (.int (i + 1))))) p (.lst (([V.ref l, .int i, .int r, .int t].set 1 (.int (i + 1))).set 2 (.int c)))) p = some (handO l (i + 1) c t) := upd_same
          refine ⟨_, rfl, _, _, _, _, rfl, rfl, SqL.of HP, rfl, _, _, rfl, rfl, _, rfl, ?_⟩
          refine ite2 (fun e3 => ?_) (fun e3 => ?_)
          · refine ⟨_, rfl, _, _, _, _, rfl, rfl, SqL.of HP, rfl, ?_⟩
            refine ⟨_, rfl, _, rfl, _, _, rfl, rfl, ⟨m0, mlog⟩, _, rfl, _, _, _, _, rfl, rfl, HP, rfl, ?_⟩
            refine ⟨_, rfl, .inl ⟨_, rfl, _, rfl, _, _, rfl, rfl, m0, ?_⟩⟩
            exact fin _ _ _ _ _ (Int.emod_nonneg _ (Int.ne_of_gt m0)) (Int.emod_lt_of_pos _ m0) ⟨ok2.len, ok2.pos, ok2.i0, ok2.i1, Int.ediv_nonneg ok2.r0 (Int.le_of_lt m0), ok2.t0, ok2.t1⟩ (by simp only [upd_upd]; rfl)
          · refine ⟨_, rfl, _, _, _, _, rfl, rfl, SqL.of HP, rfl, _, _, rfl, rfl, .inl ⟨_, rfl, _, _, rfl, rfl, (by show (0 : Int) < 2147483629; decide), _, rfl, _, _, _, _, rfl, rfl, HP, rfl, ?_⟩⟩
            have u0 := ok2.i0
            have u1 := ok2.i1
            refine ⟨_, rfl, _, _, _, _, rfl, rfl, SqL.of upd_same, rfl, _, rfl, _, _, _, _, rfl, rfl, SqL.of upd_same, rfl, _, _, rfl, by omega, by omega, by omega, by omega, fun d d0 => ?_⟩
            refine .inl ⟨_, rfl, _, rfl, _, _, rfl, rfl, m0, ?_⟩
            exact fin _ _ _ _ _ (Int.emod_nonneg _ (Int.ne_of_gt m0)) (Int.emod_lt_of_pos _ m0) ⟨ok2.len, ok2.pos, ok2.i0, ok2.i1, ok2.r0, Int.emod_nonneg (t + 1) (show (2147483629 : Int) ≠ 0 by decide), Int.emod_lt_of_pos (t + 1) (show (0 : Int) < 2147483629 by decide)⟩ (by simp only [upd_upd]; rfl)
      · have HP := hp
        refine ⟨_, rfl, _, _, _, _, rfl, rfl, SqL.of HP, rfl, _, _, rfl, rfl, _, rfl, ?_⟩
        refine ite2 (fun e2 => ?_) (fun e2 => ?_)
        · refine ⟨_, rfl, _, _, _, _, rfl, rfl, SqL.of HP, rfl, ?_⟩
          refine ⟨_, rfl, _, rfl, _, _, rfl, rfl, ⟨m0, mlog⟩, _, rfl, _, _, _, _, rfl, rfl, HP, rfl, ?_⟩
          refine ⟨_, rfl, .inl ⟨_, rfl, _, rfl, _, _, rfl, rfl, m0, ?_⟩⟩
          exact fin _ _ _ _ _ (Int.emod_nonneg _ (Int.ne_of_gt m0)) (Int.emod_lt_of_pos _ m0) ⟨ok.len, ok.pos, ok.i0, ok.i1, Int.ediv_nonneg ok.r0 (Int.le_of_lt m0), ok.t0, ok.t1⟩ (by simp only [upd_upd]; rfl)
        · refine ⟨_, rfl, _, _, _, _, rfl, rfl, SqL.of HP, rfl, _, _, rfl, rfl, .inl ⟨_, rfl, _, _, rfl, rfl, (by show (0 : Int) < 2147483629; decide), _, rfl, _, _, _, _, rfl, rfl, HP, rfl, ?_⟩⟩
          have u0 := ok.i0
          have u1 := ok.i1
          refine ⟨_, rfl, _, _, _, _, rfl, rfl, SqL.of upd_same, rfl, _, rfl, _, _, _, _, rfl, rfl, SqL.of upd_same, rfl, _, _, rfl, by omega, by omega, by omega, by omega, fun d d0 => ?_⟩
          refine .inl ⟨_, rfl, _, rfl, _, _, rfl, rfl, m0, ?_⟩
          exact fin _ _ _ _ _ (Int.emod_nonneg _ (Int.ne_of_gt m0)) (Int.emod_lt_of_pos _ m0) ⟨ok.len, ok.pos, ok.i0, ok.i1, ok.r0, Int.emod_nonneg (t + 1) (show (2147483629 : Int) ≠ 0 by decide), Int.emod_lt_of_pos (t + 1) (show (0 : Int) < 2147483629 by decide)⟩ (by simp only [upd_upd]; rfl)
    · have HP := hp
      refine ⟨_, rfl, _, _, _, _, rfl, rfl, SqL.of HP, rfl, _, _, rfl, rfl, _, rfl, ?_⟩
      refine ite2 (fun e2 => ?_) (fun e2 => ?_)
      · refine ⟨_, rfl, _, _, _, _, rfl, rfl, SqL.of HP, rfl, ?_⟩
        refine ⟨_, rfl, _, rfl, _, _, rfl, rfl, ⟨m0, mlog⟩, _, rfl, _, _, _, _, rfl, rfl, HP, rfl, ?_⟩
        refine ⟨_, rfl, .inl ⟨_, rfl, _, rfl, _, _, rfl, rfl, m0, ?_⟩⟩
        exact fin _ _ _ _ _ (Int.emod_nonneg _ (Int.ne_of_gt m0)) (Int.emod_lt_of_pos _ m0) ⟨ok.len, ok.pos, ok.i0, ok.i1, Int.ediv_nonneg ok.r0 (Int.le_of_lt m0), ok.t0, ok.t1⟩ (by simp only [upd_upd]; rfl)
      · refine ⟨_, rfl, _, _, _, _, rfl, rfl, SqL.of HP, rfl, _, _, rfl, rfl, .inl ⟨_, rfl, _, _, rfl, rfl, (by show (0 : Int) < 2147483629; decide), _, rfl, _, _, _, _, rfl, rfl, HP, rfl, ?_⟩⟩
        have u0 := ok.i0
        have u1 := ok.i1
        refine ⟨_, rfl, _, _, _, _, rfl, rfl, SqL.of upd_same, rfl, _, rfl, _, _, _, _, rfl, rfl, SqL.of upd_same, rfl, _, _, rfl, by omega, by omega, by omega, by omega, fun d d0 => ?_⟩
        refine .inl ⟨_, rfl, _, rfl, _, _, rfl, rfl, m0, ?_⟩
        exact fin _ _ _ _ _ (Int.emod_nonneg _ (Int.ne_of_gt m0)) (Int.emod_lt_of_pos _ m0) ⟨ok.len, ok.pos, ok.i0, ok.i1, ok.r0, Int.emod_nonneg (t + 1) (show (2147483629 : Int) ≠ 0 by decide), Int.emod_lt_of_pos (t + 1) (show (0 : Int) < 2147483629 by decide)⟩ (by simp only [upd_upd]; rfl)
/-! ### the hand is made -/
def absI (c : Int) : Int := if c < 0 then -c else c
theorem absI_nonneg (c : Int) : 0 ≤ absI c := by
  unfold absI
  split <;> omega
theorem same_upd {H : Hp} {p : Addr} {o : HO} (h : H p = none) : Same H (upd H p o) := fun b x e => by
  rw [upd_ne (ne_of_none e h)]
  exact e
def spHand (K : PySem.W.Frag) : Sp := fun vs H Q _ => ∃ (a : Addr) (ns : List Int), vs = [.ref a] ∧ SqL K H a (ns.map V.int) ∧ ns.length ≤ 63 ∧
  ∀ (H' : Hp) (p l : Addr) (t : Int), Same H H' → H p = none → HandAt H' p l (ns.map absI) 0 0 t → Q (.ref p) H'
theorem scHand : FnScope ["_law_script", "_law_total", "_law_k", "_law_cell"] ["_law_script"] (defScope sHand) := ⟨rfl, rfl, rfl, by decide +kernel, rfl, by decide +kernel, by decide +kernel⟩
theorem ok_hand {f : Addr} {fd : FuncData} (F : FnP K "_law_hand" sHand f fd) (zi : mg "int" = none) (za : mg "abs" = none) (ze : mg "enumerate" = none) : FnOk P w K mg base CX0 1 f fd ["_law_script"] (spHand K) := by
  refine F.ok scHand (fun vs H Q E h => ?_) (fun cdv A outer s H vs Q E hr h => ?_)
  · obtain ⟨a, ns, rfl, _⟩ := h
    rfl
  · obtain ⟨a, ns, rfl, hS, hlen, q⟩ := h
    refine ⟨_, PSs.nox (pss_cons (ps_set (i := 1) scHand.nd rfl (.inl rfl) pe_int)
      (pss_cons (ps_for PassesOwn.never rfl (pi_enum (by rfl) ze (pa_cons (pv 0) pa_nil))
          (pg_tup (by rfl) (pgs_cons (pg_name (i := 2) scHand.nd rfl (.inl rfl)) (pgs_cons (pg_name (i := 3) scHand.nd rfl (.inl rfl)) pgs_nil)))
        (pss_one (ps_set (i := 1) scHand.nd rfl (.inl rfl) (pe_op op_mod (pe_callTy call_int1 (by rfl) zi (by decide +kernel) (pa_cons
          (pe_op op_add (pe_op op_mul (pv 1) pe_int) (pe_op op_mul (pe_callTy call_int1 (by rfl) zi (by decide +kernel) (pa_cons (pv 3) pa_nil)) (pe_op op_add (pv 2) pe_int))) pa_nil)) pe_int))))
      (pss_one (ps_ret (pe_lst (pa_cons
        (pe_lc (own := [("_law_cell", 3)]) (g := gName 3) (tt := tYes) rfl scHand.nd (pi_list (pv 0)) (blkOk_by (N := ["_law_script", "_law_total", "_law_k", "_law_cell"]) (sc := defScope sHand) (by decide +kernel)) (fun _ _ _ _ _ => pg_name (i := 3) scHand.nd rfl (Or.inl rfl)) (fun _ _ _ _ _ => pts_nil)
          (fun _ _ _ _ _ => pe_callB call_abs (by rfl) za (by decide +kernel) (pa_cons (pe_callTy call_int1 (by rfl) zi (by decide +kernel) (pa_cons (pv 3) pa_nil)) pa_nil)))
        (pa_cons pe_int (pa_cons pe_int (pa_cons (pv 1) pa_nil))))))))), ?_⟩
    refine ⟨_, rfl, a, _, rfl, hS, for_it walk_enum (fun _ σ H' => ∃ (t : Int) (x y : Option V), σ = [some (.ref a), some (.int t), x, y] ∧ 0 ≤ t ∧ t < 2147483629 ∧ Same H H') ⟨0, none, none, rfl, by decide, by decide, fun _ _ e => e⟩
      (fun i σ H' _ ⟨_, _, _, _, _, _, sm⟩ => sm.seq hS) ?_ ?_⟩
    · rintro i x σ H1 H2 hi ⟨t, x1, x2, rfl, t0, t1, sm⟩ ⟨T, u, v, rfl, nT, rfl, eu, ev⟩
      have hi' : i < ns.length := by
        rw [List.length_map] at hi
        exact hi
      obtain rfl : u = .int (i : Int) := (Option.some.inj eu).symm
      obtain rfl : v = .int ns[i] := by
        have e2 : (ns.map V.int)[i]? = some (.int ns[i]) := by rw [List.getElem?_map, List.getElem?_eq_getElem hi']; rfl
        exact Option.some.inj (ev.symm.trans e2)
      refine ⟨T, _, rfl, .inl (.inl upd_same), rfl, _, _, rfl, _, _, rfl, rfl, ?_⟩
      refine ⟨_, rfl, _, _, rfl, rfl, .inl ⟨by omega, by omega⟩, _, rfl, .inl ⟨_, rfl, _, rfl, _, _, rfl, rfl, _, _, rfl, rfl, .inr ⟨by omega, by omega⟩, _, _, rfl, rfl, .inl ⟨_, rfl, _, _, rfl, rfl, (by show (0 : Int) < 2147483629; decide), ?_⟩⟩⟩
      exact ⟨_, _, _, rfl, Int.emod_nonneg _ (by decide), Int.emod_lt_of_pos _ (by decide), fun b o e => same_upd nT _ _ (sm _ _ e)⟩
    · rintro σ H1 ⟨t, x1, x2, rfl, t0, t1, sm⟩
      refine ⟨_, rfl, a, rfl, ⟨_, sm.seq hS⟩, fun D nD => lc_it walk_list (fun i H' => Same H1 H' ∧ H' D = some (.lst (((ns.map absI).take i).map V.int))) ⟨same_upd nD, upd_same⟩
        (fun i H' _ ⟨s2, _⟩ => s2.seq (sm.seq hS)) ?_ ?_⟩
      · rintro i x H2 H3 hi ⟨s2, eD⟩ ⟨rfl, ex⟩
        have hi' : i < ns.length := by
          rw [List.length_map] at hi
          exact hi
        obtain rfl : x = .int ns[i] := by
          have e2 : (ns.map V.int)[i]? = some (.int ns[i]) := by rw [List.getElem?_map, List.getElem?_eq_getElem hi']; rfl
          exact Option.some.inj (ex.symm.trans e2)
        refine ⟨rfl, ?_⟩
        refine ⟨_, rfl, .inl ⟨_, rfl, _, rfl, _, eD, ?_, ?_⟩⟩
        · rw [List.length_map, List.length_take]
          exact Nat.lt_of_le_of_lt (Nat.min_le_left _ _) (Nat.lt_of_lt_of_le (Nat.lt_of_lt_of_le hi' hlen) (by decide))
        · refine ⟨fun b o e => ?_, ?_⟩
          · have nb : b ≠ D := ne_of_none e nD
            rw [upd_ne nb]
            exact s2 _ _ e
          · rw [upd_same, List.take_add_one, List.getElem?_map, List.getElem?_eq_getElem hi', List.map_append]
            rfl
      · rintro H2 ⟨s2, eD⟩
        have eall : ((ns.map absI).take (ns.map V.int).length) = ns.map absI := List.take_of_length_le (by rw [List.length_map, List.length_map]; exact Nat.le_refl _)
        rw [eall] at eD
        refine ⟨_, rfl, (by show 4 ≤ sizeLine; decide), fun p np => ?_⟩
        have npD : D ≠ p := ne_of_none eD np
        refine q _ p D t (fun b o e => same_upd np _ _ (s2 _ _ (sm _ _ e))) ?_ ⟨upd_same, ?_, ?_⟩
        · cases e : H p with
          | none => rfl
          | some o =>
            have e2 := s2 _ _ (sm _ _ e)
            rw [np] at e2
            cases e2
        · rw [upd_ne npD]
          exact eD
        · exact ⟨by rw [List.length_map]; exact hlen, fun c hc => by
            obtain ⟨y, _, rfl⟩ := List.mem_map.mp hc
            exact absI_nonneg y, by decide, by decide, by decide, t0, t1⟩
end
end K35

/-! the greatest of a list of whole numbers, with default= -/
namespace K35
open PySem PySem.Spec PyProof.Rows L2
def rMaxDef (K : PySem.W.Frag) : List V → List V → Hp → VK → Prop := fun vs zs H Q => ∃ (a : Addr) (ns : List Int) (d : Int), vs = [.ref a] ∧ zs = [.int d] ∧ SqL K H a (ns.map V.int) ∧ (ns = [] → Q (.int d) H) ∧
  ∀ m, m ∈ ns → (∀ y ∈ ns, y ≤ m) → Q (.int m) H
theorem readsInts {h : Heap} {vs : List Value} {ns : List Int} (r : IntsAre vs ns) : ReadsAll h vs (ns.map PyData.int) [] := by
  induction r with
  | nil => exact .nil
  | cons i t _ ih => exact .cons (.int _ _) ih
theorem depth_ints : ∀ ns : List Int, PyData.depthAll (ns.map PyData.int) ≤ 1
  | [] => Nat.zero_le _
  | n :: ns => Nat.max_le.mpr ⟨Nat.zero_le _, depth_ints ns⟩
theorem foldmax_mem (n : Int) : ∀ ns : List Int, (ns.foldl max n ∈ n :: ns) ∧ ∀ y ∈ n :: ns, y ≤ ns.foldl max n
  | [] => ⟨List.mem_cons_self, fun y h => by
    rcases List.mem_cons.mp h with rfl | h
    · exact Int.le_refl _
    · cases h⟩
  | k :: ns => by
    obtain ⟨h1, h2⟩ := foldmax_mem (max n k) ns
    rw [List.foldl_cons]
    have hm : max n k = n ∨ max n k = k := by omega
    refine ⟨?_, fun y h => ?_⟩
    · rcases List.mem_cons.mp h1 with e | h
      · rw [e]
        rcases hm with e2 | e2
        · rw [e2]; exact List.mem_cons_self
        · rw [e2]; exact List.mem_cons_of_mem _ List.mem_cons_self
      · exact List.mem_cons_of_mem _ (List.mem_cons_of_mem _ h)
    · have hmx := h2 (max n k) List.mem_cons_self
      rcases List.mem_cons.mp h with rfl | h
      · omega
      · rcases List.mem_cons.mp h with rfl | h
        · omega
        · exact h2 y (List.mem_cons_of_mem _ h)
theorem crk_max {X : Cx} (hc : X.calm = true) (hu : X.A.units + 3 < cLine) : CallRK X (.builtin "max") [Str.ofString "default"] (rMaxDef X.K) := by
  intro pins s σ H xs zs us ws Q I r rz h
  obtain ⟨a, ns, d, rfl, rfl, hS, q0, q⟩ := h
  obtain ⟨its, rv, hl, _⟩ := I.list hS
  rw [Vals.ref1 r]
  cases rz with
  | cons rd rr =>
    cases rr
    obtain ⟨t, rfl⟩ := rd
    have hi := rv.ints
    have hr := readsInts (h := s.heap) hi
    have hd : PyData.depthAll (ns.map PyData.int) ≤ 1 := depth_ints ns
    refine PySem.W.max_list_default (vs := its.toArray) (xs := ns.map PyData.int) (I.ok.hd hc) hl.isList hr ⟨fun x hx y hy => ?_, fun x hx => ?_⟩ (by show X.A.units + 1 + _ < _; omega) (fun e h' tk hk => ?_) (fun y ys i v h' tk bs e hv rd hk => ?_)
    · obtain ⟨i, _, rfl⟩ := List.mem_map.mp hx
      obtain ⟨j, _, rfl⟩ := List.mem_map.mp hy
      rfl
    · obtain ⟨i, _, rfl⟩ := List.mem_map.mp hx
      intro z
      cases z
    · have en : ns = [] := by
        cases ns with
        | nil => rfl
        | cons n ns => cases e
      exact ⟨.int d, H, I.kept hk, ⟨_, rfl⟩, q0 en⟩
    · cases ns with
      | nil => cases e
      | cons n ns =>
        injection e with e1 e2
        subst e1 e2
        rw [PySem.W.maxD_ints] at rd
        obtain ⟨h1, h2⟩ := foldmax_mem n ns
        cases rd with
        | int i t => exact ⟨.int _, H, I.kept hk, ⟨_, rfl⟩, q _ h1 h2⟩
end K35

/-! == by an own __eq__, with either answer; is between classes of either sort; type of either sort -/
namespace K35
open PySem PySem.Spec PyProof.Rows L2
/-- what stands right of the sign: its class -/
inductive TyR (H : Hp) : V → Value → Prop where
  | ins {a C dx : Addr} {fs : List (Str × V)} (e : H a = some (.ins C dx fs)) : TyR H (.ref a) (.ref C)
  | tup {a : Addr} {xs : List V} (e : H a = some (.tup xs)) : TyR H (.ref a) (.type "tuple")
  | lst {a : Addr} {xs : List V} (e : H a = some (.lst xs)) : TyR H (.ref a) (.type "list")
def rEqI (K : PySem.W.Frag) (C : Addr) (sp : Sp) : R2 := fun x y H Q => ∃ (a dx : Addr) (fs : List (Str × V)) (tb : Value), x = .ref a ∧ H a = some (.ins C dx fs) ∧ TyR H y tb ∧ PySem.W.notFirst K C tb = true ∧ sp [.ref a, y] H (fun v H' => ∃ b, v = .bl b ∧ Q (.bl b) H') E0
section
variable {X : Cx} {n : Nat}
theorem TyR.look {pins : List (Addr × Obj)} {s : Shared} {σ : L2.St} {H : Hp} {y : V} {v tb : Value} (I : Inv X pins σ H s) (t : TyR H y tb) (r : RelV y v) : PySem.W.Looks (model X.prog X.w) s.heap (typeOf v) tb := by
  cases t with
  | ins e =>
    cases r
    obtain ⟨mA, J, _⟩ := ins_get I.hok e
    obtain ⟨od, J, _⟩ := J.look
    exact J.type
  | tup e =>
    cases r
    obtain ⟨_, _, _, o, h1, h2, _⟩ := (show ObjOk X.prog X.w H s.heap _ (.tup _) from I.hok _ _ e)
    exact fun A Q E s k q => wpAny_typeOf_ref (k _ _ h1) (by rw [h2]; exact q)
  | lst e =>
    cases r
    obtain ⟨_, _, n, _, h1⟩ := (show ObjOk X.prog X.w H s.heap _ (.lst _) from I.hok _ _ e)
    exact fun A Q E s k q => wpAny_typeOf_ref (k _ _ h1) q
theorem op_eqI {CX : CXT} {C f : Addr} {fd : FuncData} {ps : List Str} {sp : Sp} (F : FnOk X.prog X.w X.K X.mg X.base CX n f fd ps sp)
    (hs : PySem.W.findIn X.K (.ref C) "__eq__" = some (some (.ref f))) (hf : PySem.W.isFn X.K (.ref f) = true) (hb : Binds X.K fd ps []) (hx : Passes CX X E0) (hr : Room n X.A) : OpR X (compareOp .Eq) (rEqI X.K C sp) := by
  intro pins s σ H x y u v Q I rx ry h
  obtain ⟨a, dx, fs, tb, rfl, ha, ty, nf, hsp⟩ := h
  cases rx
  obtain ⟨mA, J, _⟩ := ins_get I.hok ha
  obtain ⟨od, J, _⟩ := J.look
  obtain ⟨m, hF⟩ := I.fr
  refine PySem.W.cmp_K (op := .Eq) (tb := tb) hr.units0 hF I.ok.mod.kin J (ty.look I ry) nf hs hf ?_
  have e0 : Env0 X.prog X.w X.K X.mg X.base X.A X.stack s H := I.env0
  have hl := F.len _ _ _ _ hsp
  have r2 : Vals [V.ref a, y] [Value.ref a, v] := .cons rfl (.cons ry .nil)
  refine wpAny_call (codeAny_mono (F.run X.A X.stack s H ⟨[.ref a, v], []⟩ [.ref a, v] [.ref a, y] _ E0 hr e0 (by
    have := hb s [.ref a, v] I.kIn (by simpa using hl)
    simpa using this) r2 hsp) fun r s' hq => ?_)
  cases r with
  | error e => exact hx pins σ H s e s' I hq
  | ok fl =>
    cases fl with
    | ret w =>
      obtain ⟨z, H', I', rz, b, ez, q⟩ := I.after hq
      subst ez
      cases rz
      exact ⟨.bl b, H', I', rfl, q⟩
    | next => exact False.elim hq
    | brk => exact False.elim hq
    | cont => exact False.elim hq
/-! ### type(a) is type(b) -/
def rTyp2 : List V → Hp → VK → Prop := fun xs H Q => ∃ x, xs = [x] ∧ ((∃ a C dx fs, x = .ref a ∧ H a = some (.ins C dx fs) ∧ Q (.ref C) H) ∨ (∃ a us, x = .ref a ∧ (H a = some (.tup us)) ∧ Q (.ty "tuple") H))
theorem cr_type2 : CallR X (.type "type") rTyp2 := by
  intro pins s σ H xs us Q I r h
  obtain ⟨x, rfl, ⟨a, C, dx, fs, rfl, ha, q⟩ | ⟨a, zs, rfl, ha, q⟩⟩ := h
  · exact cr_type pins s σ H _ us Q I r ⟨a, C, dx, fs, rfl, ha, q⟩
  · rw [Vals.ref1 r]
    obtain ⟨hz, its, r', ob, g, c, k⟩ := (show ObjOk X.prog X.w H s.heap _ (.tup _) from I.hok _ _ ha)
    exact call_type_of (Tx := "tuple") ⟨ob, g, c⟩ (by decide +kernel) ⟨.ty "tuple", H, I, rfl, q⟩
def rIs2 (K : PySem.W.Frag) : R2 := fun x y H Q => ∃ a, x = .ref a ∧ ((y = .ref a ∧ Q (.bl true) H) ∨ (∃ b, y = .ref b ∧ a ≠ b ∧ PySem.W.makesIn K a = true ∧ PySem.W.makesIn K b = true ∧ Q (.bl false) H) ∨ (∃ t, y = .ty t ∧ Q (.bl false) H))
theorem op_is2 : OpR X (compareOp .Is) (rIs2 X.K) := by
  intro pins s σ H x y v u Q I rx ry h
  obtain ⟨a, rfl, ⟨rfl, q⟩ | ⟨b, rfl, ne, h1, h2, q⟩ | ⟨t, rfl, q⟩⟩ := h
  · exact op_is_cls pins s σ H _ _ v u Q I rx ry ⟨a, a, rfl, rfl, .inl rfl, by rw [decide_eq_true rfl]; exact q⟩
  · exact op_is_cls pins s σ H _ _ v u Q I rx ry ⟨a, b, rfl, rfl, .inr ⟨h1, h2⟩, by rw [decide_eq_false ne]; exact q⟩
  · cases rx
    cases ry
    exact wpAny_is_other rfl (by intro z; cases z) ⟨.bl false, H, I, rfl, q⟩
end
end K35

/-! own errors with an __init__: made where an except suite above may raise; isinstance of a caught one with fields; a def walked while one is handled -/
namespace K35
open PySem PySem.Spec PyProof.Rows L2
section
variable {X : Cx} {e : Expr} {es : List Expr} {ta : TA} {p pos : Pos}
theorem pmk_oexN {CX : CXT} {x : Str} {C fI : Addr} {k : Nat} {fd : FuncData} {ps : List Str} {sp : Sp} (T : OexC X.K C) (iC : PySem.W.findIn X.K (.ref C) "__init__" = some (some (.ref fI))) (tI : PySem.W.typeIn X.K (.ref fI) = some (.type "function"))
    (F1 : FnOk X.prog X.w X.K X.mg X.base CX k fI fd ps sp) (hr : Room (k + 1) X.A) (hb : Binds X.K fd ps []) (hx : Passes CX X (fun _ _ _ => False)) (hg : Gl X x) (hm : X.mg x = some (.ref C)) (ha : PA X (e :: es) ta)
    (hdb : (x == ("__debug__" : Str)) = false := by decide) (he : starEach (e :: es) X.env = (false, eval e X.env) :: starEach es X.env := by rfl) (hpl : (backTo pos (starEach es X.env)).any (·.1) = false := by rfl) :
    L2N.PMk X (.Call (.Name x p) (e :: es) [] pos) (tMkO C sp [] ta) := by
  intro pins s σ H Q I h
  obtain ⟨nm, q, N, bs, bm, sn, sub, ab, col, dd, k0, k1, k2, k3, k5, hC, hbm⟩ := T.cls
  refine wpAny_Call_Name_kw (ld_glob I hg hm ?_ hdb)
  refine PySem.W.callWith_K (h₀ := X.base) I.ok.mod.kin T.kC (thn (ha.run pos pins s σ H _ I h) fun us s1 ⟨vs, H1, I1, r1, hz, q1⟩ => ⟨I1.kIn, ?_⟩) he hpl
  show wpAny _ _ (call (.ref C) us) _ _ _
  obtain ⟨hp, g, dr, tk, os⟩ := s1
  have hsz : hp.objs.size ≤ hp.objs.size + 1 := Nat.le_succ _
  have hn : H1 (hp.objs.size + 1) = none := I1.hok.fresh hsz
  have hq := q1 (hp.objs.size + 1) hn
  have kk : ∀ b o, hp.get? b = some o → ((hp.push (PySem.W.kdv_tup us)).push (PySem.HandSPX.excO C hp.objs.size)).get? b = some o := fun b o e => Heap.get?_push_of_some _ (Heap.get?_push_of_some _ e)
  have hget : ((hp.push (PySem.W.kdv_tup us)).push (PySem.HandSPX.excO C hp.objs.size)).get? (hp.objs.size + 1) = some (PySem.HandSPX.excO C hp.objs.size) := by heap_get
  have I2 : Inv X pins σ (upd H1 (hp.objs.size + 1) (exo (hp.objs.size + 1) C none)) ⟨(hp.push (PySem.W.kdv_tup us)).push (PySem.HandSPX.excO C hp.objs.size), g, dr, tk, os⟩ :=
    I1.laid (t' := tk) (a := hp.objs.size + 1) (o := exo (hp.objs.size + 1) C none) (h' := (hp.push (PySem.W.kdv_tup us)).push (PySem.HandSPX.excO C hp.objs.size)) kk hsz (exo_ok hget)
  have r2 : Vals (V.ref (hp.objs.size + 1) :: (vs ++ [])) (Value.ref (hp.objs.size + 1) :: (us ++ [])) := .cons rfl (r1.append .nil)
  have hl : (Value.ref (hp.objs.size + 1) :: us ++ []).length = ps.length := by
    have e := r2.length
    rw [F1.len _ _ _ _ hq] at e
    exact e.symm
  have hus : us.length ≤ sizeLine := by
    rw [← Paired.length r1, sizeLine_eq]
    omega
  refine wpAny_call (PySem.HandSPX.call_own F.excBase_ValueError (fun Y => PySem.HandSPX.refsVE_contains Y bm hbm) (I1.kIn _ _ hC) (PySem.W.looks_findIn I1.kIn iC) (fun self => PySem.W.bind_fn I1.kIn self tI) hus
    (codeAny_mono (F1.run _ X.stack _ _ ⟨Value.ref (hp.objs.size + 1) :: us, []⟩ (Value.ref (hp.objs.size + 1) :: (us ++ [])) _ _ (fun _ _ _ => False) (hr.make C us []) (I2.env0.make C us []) (by rw [List.append_nil]; have z := hb _ (Value.ref (hp.objs.size + 1) :: us) I2.kIn hl; rw [List.append_nil] at z; exact z) r2 hq) fun r s' hq' => ?_))
  cases r with
  | error er => exact hx pins σ _ _ er s' I2 hq'
  | ok fl =>
    cases fl with
    | ret u =>
      obtain ⟨v, H2, os2, bare2, un2, hok2, rv, ev, d, fs, ea, ed, hd1, q2⟩ := hq'
      subst ev
      obtain ⟨h2, g2, d2, t2, os'⟩ := s'
      obtain ⟨t0, G, J, kG, ge, hoe, na⟩ := mk_end0 (d2 := d2) (t2 := t2) I1 hsz kk un2 hok2 os2 bare2 ea ed hd1
      exact ⟨rv, ⟨hp.objs.size + 1, _, _, ⟨G, g2, d2, t2, os'⟩, _, .ref C, some d, rfl, J, kG, ge, hoe, ⟨rfl, rfl, fun vs hv => by
        cases hv
        rfl⟩, rfl, rfl, na, rfl, bare2, raises_own T.exC T.tyC, q2⟩⟩
    | next => exact False.elim hq'
    | brk => exact False.elim hq'
    | cont => exact False.elim hq'
end
/-! ### isinstance of the error that a suite holds, with fields of its own -/
def rIsD (K : PySem.W.Frag) (D a : Addr) (cls : Value) (d : Option Addr) : List V → Hp → VK → Prop := fun xs H Q => ∃ (c : V) (cv : Value) (b : Bool) (dd : Addr) (fs : List (Str × V)), xs = [.ref a, c] ∧ cls = .ref D ∧ d = some dd ∧ H dd = some (.xd fs) ∧ (∀ u, RelV c u → u = cv) ∧ PySem.W.kitOne K (.ref D) cv = some b ∧ Q (.bl b) H
theorem clsIn_some {K : PySem.W.Frag} {D : Addr} (h : PySem.W.hasDictIn K D = true) : (PySem.W.clsIn K D).isSome = true := by
  obtain ⟨cd, hc, _⟩ := PySem.W.any_some h
  rw [hc]
  rfl
theorem call_isD {X : Cx} {a D : Addr} {oe : Obj} {cls : Value} {d : Option Addr} {pn : List (Addr × Obj)} (C : ExcC X.K D) (hz : Zc cls d oe) (hf : ∃ vs, oe.data = .fields vs) : CallR (X.suite a ((a, oe) :: pn)) (.builtin "isinstance") (rIsD X.K D a cls d) := by
  intro pins s σ H xs us Q I r h
  obtain ⟨c, cv, b, dd, fs, rfl, rfl, rfl, ed, hcv, e, q⟩ := h
  obtain ⟨u1, u2, rfl, r1, r2⟩ := vals2 r
  cases (show u1 = Value.ref a from r1)
  have ec := hcv _ r2
  subst ec
  obtain ⟨hget, _⟩ := I.pin (a, oe) (List.mem_append.mpr (.inl List.mem_cons_self))
  obtain ⟨vs, hv⟩ := hf
  have hx : ObjOk X.prog X.w H s.heap dd (.xd fs) := I.hok dd _ ed
  obtain ⟨mA, hns, hr⟩ := hx
  obtain ⟨od, ho, hl⟩ := lookIn_ns hns
  have J : PySem.W.InstAt s.heap a oe D (some od) := ⟨hget, hz.1, by unfold PySem.W.notCls; rw [hv] <;> rfl, by rw [hz.2]; exact ho⟩
  exact PySem.W.kia_one (PySem.W.kitx_exc (clsIn_some C.hd) C.hg C.hk C.hs C.ha C.hn C.ht C.hm) I.kIn J e (fun z => nomatch z) fun tk => ⟨.bl b, H, I.tok tk, rfl, q⟩
end K35
namespace L2H
open PySem PySem.Spec PyProof.Rows L2
/-! ### a def walked while an error is handled -/
theorem okH {P : Program} {w : World} {K : PySem.W.Frag} {mg : Str → Option Value} {base : Heap} {x qual : Str} {params : Arguments} {body : List Stmt} {scope : Scope} {dvs : List V} {kws : List (Str × V)} {f : Addr} {fd : FuncData}
    {CX : CXT} {N ps : List Str} {k : Nat} {sp : Sp} (F : FunD K x qual params body scope dvs kws f fd) (S : FnScope N ps scope) (len : ∀ vs H Q E, sp vs H Q E → vs.length = ps.length)
    (hbody : ∀ (cdv : Value) (A : Around) (outer : List Env) (s : Shared) (H : Hp) (vs : List V) (Q : VK) (E : XK) (p : Addr × Obj), Hot1 A p → RoomH k (A.deeper (envOfC qual scope s.heap.objs.size f cdv)) → sp vs H Q E →
      ∃ t, PSs (cxH CX P w K mg base N qual scope f cdv A outer s H E p) body t ∧ t { nx := fun _ H' => Q .non H', rt := Q } (L2.start N vs) H) : FnH P w K mg base CX (k + 1) f fd ps sp := by
  obtain ⟨oc, od, dV, kV, doc, pm, an, cdv, ct, osl, rfl, lk, hcd, _, _⟩ := F.ex
  exact fn_ofH lk hcd S len fun A outer s H vs Q E p hot hr hsp => hbody cdv A outer s H vs Q E p hot hr hsp
end L2H

/-! enumerate over a tuple -/
namespace K35
open PySem PySem.Spec PyProof.Rows
open AutoSeq1 (wpAny_loadPart')
theorem enum_new_tuple (l : Addr) (items : Array Value) (n : Nat) (dct : Option Addr) (sl : Array (Option Value)) :
    Meets (Builtin.«enumerate.__new__» ⟨[.type "enumerate", .ref l], []⟩) (fun _ R s => s.heap.get? l = some { cls := .type "tuple", dict := dct, data := .seq items n, slots := sl } ∧
      R (.ok (.ret (.ref (s.heap.push { cls := .type "tuple_iterator", data := .fields #[.ref l, .int 0 0] }).objs.size)))
        { s with heap := (s.heap.push { cls := .type "tuple_iterator", data := .fields #[.ref l, .int 0 0] }).push { cls := .type "enumerate", data := .fields #[.none, .bool false, .ref s.heap.objs.size, rawInt 0, .none, .none] } }) :=
  .of_wp fun prog w A R s h => by
    obtain ⟨hp, g, d, tk, os⟩ := s
    obtain ⟨hl, h⟩ := h
    have subE := sub_enumerate
    have isT : Heap.IsTuple (Shared.heap ⟨hp, g, d, tk, os⟩) l items := ⟨_, hl, rfl, n, rfl⟩
    wp_walk using wpAny_loadPart' hl
    refine wpAny_stack_any fun st => wpAny_pure ?_
    split
    · rename_i c _ _ _ _ _
      cases (c == Value.type "enumerate")
      · wp_walk using wpAny_loadPart' hl, wpAny_pyIter_tuple isT
        exact ⟨_, rfl, h⟩
      · wp_walk using wpAny_loadPart' hl, wpAny_pyIter_tuple isT
        exact ⟨_, rfl, h⟩
    · wp_walk using wpAny_loadPart' hl, wpAny_pyIter_tuple isT
      exact ⟨_, rfl, h⟩
section
variable {prog : Program} {w : World} {A : Around} {E : Value → Shared → Prop} {s : Shared}
theorem call_enum_tuple {l : Addr} {items : Array Value} {Q : Value → Shared → Prop} (hL : IsTup s.heap l items)
    (h : ∀ h', IsEnum h' (s.heap.objs.size + 1) s.heap.objs.size 0 .none → h'.IsTupleIter s.heap.objs.size l 0 → h'.objs.size = s.heap.objs.size + 2 →
      (∀ b o, s.heap.get? b = some o → h'.get? b = some o) → Q (.ref (s.heap.objs.size + 1)) { s with heap := h' }) :
    wpAny (model prog w) A (call (.type "enumerate") [.ref l]) Q E s := by
  obtain ⟨⟨c, dct, dt, sl⟩, hl, hc, n, hd⟩ := hL
  replace hc : c = .type "tuple" := hc
  replace hd : dt = .seq items n := hd
  subst hc hd
  refine callType_new F.called_enumerate (by decide) (F.typeCall_enumerate_1 _) (F.newCall_enumerate_1 _) (fun obj => F.args_object_init_2 obj _) F.entry_enumerate_new (enum_new_tuple l items n dct sl) ⟨hl, ?_⟩
  have hz : (s.heap.push { cls := .type "tuple_iterator", data := .fields #[.ref l, .int 0 0] }).objs.size = s.heap.objs.size + 1 := Heap.size_push ..
  show _ ∧ _
  rw [hz]
  have he : IsEnum ((s.heap.push { cls := .type "tuple_iterator", data := .fields #[.ref l, .int 0 0] }).push
      { cls := .type "enumerate", data := .fields #[.none, .bool false, .ref s.heap.objs.size, rawInt 0, .none, .none] }) (s.heap.objs.size + 1) s.heap.objs.size 0 .none := by
    have e0 := Heap.get?_push_size (s.heap.push { cls := .type "tuple_iterator", data := .fields #[.ref l, .int 0 0] })
      (o := { cls := .type "enumerate", data := .fields #[.none, .bool false, .ref s.heap.objs.size, rawInt 0, .none, .none] }) rfl
    rw [hz] at e0
    exact e0
  exact ⟨⟨_, he, rfl⟩, h _ he ⟨_, Heap.get?_push_of_some _ (Heap.get?_push_size _ rfl), rfl, rfl⟩ (by rw [Heap.size_push, hz]) fun b o x => Heap.get?_push_of_some _ (Heap.get?_push_of_some _ x)⟩
end
open L2
/-- the tuple at a, its items in new pairs with their numbers -/
def IteT (K : PySem.W.Frag) (a : Addr) : It :=
  ⟨fun i H => ∃ (xs : List V) (x : V), SqT K H a xs ∧ xs[i]? = some x, fun i H v H' => ∃ T x, v = .ref T ∧ H T = none ∧ H' = upd H T (.tup [.int (i : Nat), x]) ∧ ∀ xs, SqT K H a xs → xs[i]? = some x, fun i H => ∃ xs : List V, SqT K H a xs ∧ xs.length = i⟩
theorem turn_enumT {P : Program} {w : World} {K : PySem.W.Frag} {elts : List Expr} {kk : Nat} {tpos : Pos} (a e it : Addr) :
    Turn P w K (.Tuple elts kk tpos) (IteT K a) [e, it] e (fun i h => (∃ old, IsEnum h e it ((i : Nat) : Int) old) ∧ h.IsTupleIter it a i ∧ e ≠ it) where
  mem := by simp
  obj := fun i h st b hb => by
    obtain ⟨⟨old, he⟩, ⟨o, ho, hc, hd⟩, _⟩ := st
    have e' : b = e ∨ b = it := by simpa using hb
    rcases e' with z | z
    · rw [z]; exact ⟨_, he, fun v q => nomatch q⟩
    · rw [z]; exact ⟨o, ho, fun v q => by rw [hd] at q; cases q⟩
  keep := fun i h h' st k => let ⟨⟨old, he⟩, hi, hne⟩ := st; ⟨⟨old, k e (by simp) _ he⟩, hi.at fun o q => k it (by simp) o q, hne⟩
  item := by
    intro X hP hw hK hc i pins s σ H E I hf st hg
    subst hP hw hK
    obtain ⟨⟨old, he⟩, hit, hne⟩ := st
    obtain ⟨xs, x, hq, hx⟩ := hg
    obtain ⟨its, rv, p, hz⟩ := I.tuple hq
    obtain ⟨u, hu, ru⟩ := rv.get hx
    have hel : e < s.heap.objs.size := Heap.lt_size he
    have hil : it < s.heap.objs.size := by obtain ⟨_, q, _⟩ := hit; exact Heap.lt_size q
    have nae : e ≠ a := fun z => by
      obtain ⟨o, ho, hcl, _⟩ := p
      rw [← z, he] at ho
      have z2 := Option.some.inj ho
      subst z2
      exact absurd (Value.type.inj hcl) (by decide)
    have nai : a ≠ it := fun z => by
      obtain ⟨o, ho, hcl, _⟩ := p
      obtain ⟨o2, ho2, hc2, _⟩ := hit
      rw [z, ho2] at ho
      have z2 := Option.some.inj ho
      subst z2
      rw [hcl] at hc2
      exact absurd (Value.type.inj hc2) (by decide)
    have hi : i < its.toArray.size := by
      have z := (List.getElem?_eq_some_iff.mp hu).1
      simpa using z
    refine wpAny_pyNext_enum_itemD (Draws.tuple (A := X.A.in1) (I.ok.hd hc) it a nai its.toArray) he ⟨hit, show s.heap.IsTuple a its.toArray from p⟩ hi hne (by simp only [List.mem_cons, List.not_mem_nil, or_false, not_or]; exact ⟨hne, nae⟩) fun y h' tk hP ho hst' hT hsz hk => ?_
    have ey : y = u := by
      have z : its.toArray[i]? = some u := by simpa using hu
      exact Option.some.inj (hP.symm.trans z)
    subst ey
    refine ⟨_, rfl, wpAny_letOwnedTupleGo_enum (s := { s with heap := h', toks := tk + 1 }) ho fun h'' he' sb => ?_⟩
    have hT2 : h''.get? s.heap.objs.size = some { cls := .type "tuple", data := .seq #[.int i tk, y] } := (sb.2 _ (Nat.ne_of_gt hel)).trans hT
    have new : ObjOk X.prog X.w (upd H s.heap.objs.size (.tup [.int (i : Nat), x])) h'' s.heap.objs.size (.tup [.int (i : Nat), x]) :=
      ⟨by show 2 ≤ sizeLine; decide, [.int i tk, y], .cons ⟨_, rfl⟩ (.cons ru .nil), ⟨_, hT2, rfl, _, rfl⟩⟩
    have I1 : Inv X pins σ (upd H s.heap.objs.size (.tup [.int (i : Nat), x])) { s with heap := h'', toks := tk + 1 } :=
      I.turnedNew (ch := [e, it]) (fun b ob hb q => (sb.2 b (fun z => hb (by simp [z]))).trans (hk b ob (fun z => hb (by simp [z])) (fun z => hb (by simp [z])) q)) hf (Nat.le_refl _) new
    refine ⟨.ref s.heap.objs.size, _, I1, rfl, ⟨_, x, rfl, I.hok.fresh (Nat.le_refl _), rfl, fun ys hy => by rw [I.tuple_inj hy hq]; exact hx⟩, ⟨⟨y, ?_⟩, hst'.1.at fun o q => (sb.2 it (Ne.symm hne)).trans q, hne⟩, fun b hb => ?_⟩
    · have e1 : ((i + 1 : Nat) : Int) = (i : Int) + 1 := by omega
      rw [e1]; exact he'
    · have hb' : b < s.heap.objs.size := by
        have e' : b = e ∨ b = it := by simpa using hb
        rcases e' with z | z
        · rw [z]; exact hel
        · rw [z]; exact hil
      rw [upd_ne (Nat.ne_of_lt hb')]
      exact (hf b hb).1
  done := by
    intro X hP hw hK hc i pins s σ H E I hf st hg
    subst hP hw hK
    obtain ⟨⟨old, he⟩, hit, hne⟩ := st
    obtain ⟨xs, hq, hx⟩ := hg
    obtain ⟨its, rv, p, hz⟩ := I.tuple hq
    obtain ⟨f0, f1, f2, f3, f4, f5⟩ := hf it (by simp)
    have nai : a ≠ it := fun z => by
      obtain ⟨o, ho, hcl, _⟩ := p
      obtain ⟨o2, ho2, hc2, _⟩ := hit
      rw [z, ho2] at ho
      have z2 := Option.some.inj ho
      subst z2
      rw [hcl] at hc2
      exact absurd (Value.type.inj hc2) (by decide)
    have hn : its.toArray.size = i := by
      have hl := rv.length
      simp only [List.size_toArray]
      omega
    have D := Draws.tuple (prog := X.prog) (w := X.w) (A := X.A.in1) (I.ok.hd hc) it a nai its.toArray
    rw [hn] at D
    exact wpAny_pyNext_enum_endD D he ⟨hit, show s.heap.IsTuple a its.toArray from p⟩ fun h' eb => ⟨rfl, I.turned (t' := s.toks) (fun b o hb q => eb b o hb q) f0 f1 f3 f4 f5⟩
  self := fun A i s Q E st h => let ⟨⟨_, he⟩, _⟩ := st; wpAny_pyIter_enum he h
def iEnumT (K : PySem.W.Frag) (ta : TA) : TI := fun σ H R => ta σ H fun vs H1 => ∃ a xs, vs = [.ref a] ∧ SqT K H1 a xs ∧ R (IteT K a) H1
theorem pi_enumT {X : Cx} {e : Expr} {ta : TA} {p pos tpos : Pos} {elts : List Expr} {kk : Nat} (hg : Gl X "enumerate") (hm : X.mg "enumerate" = none) (ha : PA X [e] ta) (hs : starEach [e] X.env = [(false, eval e X.env)]) :
    PI X (.Tuple elts kk tpos) (.Call (.Name "enumerate" p) [e] [] pos) (iEnumT X.K ta) := by
  refine ⟨fun pins s σ H R I h => ?_⟩
  refine Call_ (ld_blt I hg hm boot_enumerate (PyProof.Rows.callWith_type1 (thn (ha.run pos pins s σ H _ I h) fun us s1 ⟨vs, H1, I1, r1, q1⟩ => ?_) hs rfl))
  obtain ⟨a, xs, rfl, hq, q⟩ := q1
  obtain ⟨u, rfl, rx⟩ := vals1 r1
  cases (show u = Value.ref a from rx)
  obtain ⟨its, rv, tp, hz⟩ := I1.tuple hq
  refine call_enum_tuple tp fun h' he hit hsz hk => wpAny_pyIter_enum he ?_
  have I2 : Inv X pins σ H1 { s1 with heap := h' } := I1.kept (t' := s1.toks) hk
  refine ⟨s1.heap.objs.size + 1, [s1.heap.objs.size + 1, s1.heap.objs.size], _, _, H1, rfl, I2, turn_enumT a (s1.heap.objs.size + 1) s1.heap.objs.size, ⟨⟨.none, he⟩, hit, Nat.succ_ne_self _⟩, fun b hb => ?_, q⟩
  have hle : s1.heap.objs.size ≤ b := by
    have e' : b = s1.heap.objs.size + 1 ∨ b = s1.heap.objs.size := by simpa using hb
    rcases e' with z | z
    · rw [z]
      exact Nat.le_succ _
    · rw [z]
      exact Nat.le_refl _
  exact I1.fpOk hle (I1.hok.fresh hle)
theorem walk_enumT {K : PySem.W.Frag} {a : Addr} {xs : List V} : Walk (IteT K a) xs.length (fun H => SqT K H a xs) (YPair (fun i => some (.int (i : Nat))) (fun i => xs[i]?)) := by
  refine ⟨fun i _ hi q => ⟨xs, xs[i], q, by simp [hi]⟩, fun _ q => ⟨xs, q, rfl⟩, fun i H v H' _ q y => ?_⟩
  obtain ⟨T, x, h1, h2, h3, h4⟩ := y
  exact ⟨T, .int (i : Nat), x, h1, h2, h3, rfl, h4 xs q⟩
/-- one walk or the other -/
theorem pi_or {X : Cx} {tg it : Expr} {w1 w2 : TI} (h1 : PI X tg it w1) (h2 : PI X tg it w2) : PI X tg it (fun σ H R => w1 σ H R ∨ w2 σ H R) :=
  ⟨fun pins s σ H R I h => h.elim (h1.run pins s σ H R I) (h2.run pins s σ H R I)⟩
end K35

/-! the questions: is it a whole number, a kind, a sequence -/
namespace K35
open PySem PySem.Spec PyProof.Rows L2
/-- any thing that the law draws: its type's name -/
inductive Odd (H : Hp) : V → String → Prop where
  | int (i : Int) : Odd H (.int i) "int"
  | bl (b : Bool) : Odd H (.bl b) "bool"
  | non : Odd H .non "NoneType"
  | str (x : Str) (hx : x.length ≤ 1000) (hs : (PyData.str x).canLay0 = true) : Odd H (.str x) "str"
  | tup {a : Addr} {xs : List V} (h : H a = some (.tup xs)) : Odd H (.ref a) "tuple"
  | lst {a : Addr} {xs : List V} (h : H a = some (.lst xs)) : Odd H (.ref a) "list"
  | dic {a : Addr} {kvs : List (Key × V)} (h : H a = some (.dK kvs)) : Odd H (.ref a) "dict"
theorem Odd.ty {K : PySem.W.Frag} {H : Hp} {v : V} {t : String} (o : Odd H v t) : TyX K H v (.type t) := by
  cases o with
  | int i => exact .base (.int i)
  | bl b => exact .base (.bl b)
  | non => exact .base .non
  | str x _ _ => exact .base (.str x)
  | tup h => exact .base (.tup h)
  | lst h => exact .base (.lst h)
  | dic h => exact .base (.dK h)
def wholeV (v : V) (lo hi : Int) : Bool := match v with
  | .int i => decide (lo ≤ i) && decide (i ≤ hi)
  | _ => false
def spWhole : Sp := fun vs H Q _ => ∃ (v : V) (t : String) (lo hi : Int), vs = [v, .int lo, .int hi] ∧ Odd H v t ∧ Q (.bl (wholeV v lo hi)) H
section
variable {P : Program} {w : World} {K : PySem.W.Frag} {mg : Str → Option Value} {base : Heap}
theorem scWhole : FnScope ["thing", "low", "high"] ["thing", "low", "high"] (defScope sPIsWhole) := ⟨rfl, rfl, rfl, by decide +kernel, rfl, by decide +kernel, by decide +kernel⟩
theorem ok_whole {f : Addr} {fd : FuncData} (F : FnP K "is_whole" sPIsWhole f fd) (zi : mg "int" = none) (zb : mg "bool" = none) (zs : mg "isinstance" = none) : FnOk P w K mg base CX0 1 f fd ["thing", "low", "high"] spWhole := by
  refine F.ok scWhole (fun vs H Q E h => ?_) (fun cdv A outer s H vs Q E hr h => ?_)
  · obtain ⟨v, t, lo, hi, rfl, _⟩ := h
    rfl
  · obtain ⟨v, t, lo, hi, rfl, o, q⟩ := h
    refine ⟨_, PSs.nox (pss_one (ps_ret (pe_and (pe_callB call_isi (by rfl) zs (by decide +kernel) (pa_cons (pv 0) (pa_cons (pe_bltn (by rfl) zi (by decide +kernel) (v := .ty "int") rfl) pa_nil)))
      (pe_and (pe_not (pe_callB call_isi (by rfl) zs (by decide +kernel) (pa_cons (pv 0) (pa_cons (pe_bltn (by rfl) zb (by decide +kernel) (v := .ty "bool") rfl) pa_nil)))) (pe_one (pe_chain op_le op_le (pv 1) (pv 0) (pv 2))))))), ?_⟩
    have ty := o.ty (K := K)
    cases o with
    | int i =>
      refine ⟨_, rfl, _, _, _, _, true, rfl, .ty _, ty, kit_ty (by decide +kernel), _, rfl, iteT ⟨_, rfl, _, _, _, _, false, rfl, .ty _, ty, kit_ty (by decide +kernel), _, rfl, _, rfl, iteT ⟨_, rfl, _, rfl, _, _, rfl, rfl, _, rfl, ?_⟩⟩⟩
      have e : wholeV (.int i) lo hi = (decide (lo ≤ i) && decide (i ≤ hi)) := rfl
      rw [e] at q
      refine ite2 (fun h => ?_) (fun h => ?_)
      · rw [h, Bool.true_and] at q
        exact ⟨_, rfl, _, _, rfl, rfl, q⟩
      · rw [Bool.eq_false_iff.mpr h, Bool.false_and] at q
        exact q
    | bl b => exact ⟨_, rfl, _, _, _, _, true, rfl, .ty _, ty, kit_ty (by decide +kernel), _, rfl, iteT ⟨_, rfl, _, _, _, _, true, rfl, .ty _, ty, kit_ty (by decide +kernel), _, rfl, _, rfl, iteF q⟩⟩
    | _ => exact ⟨_, rfl, _, _, _, _, false, rfl, .ty _, ty, kit_ty (by decide +kernel), _, rfl, iteF q⟩
def kindV (v : V) : Bool := match v with
  | .str x => inV (.str x) [.str "s", .str "d"]
  | _ => false
def spKind : Sp := fun vs H Q _ => ∃ (v : V) (t : String), vs = [v] ∧ Odd H v t ∧ Q (.bl (kindV v)) H
theorem scKind : FnScope ["thing"] ["thing"] (defScope sPIsKind) := ⟨rfl, rfl, rfl, by decide +kernel, rfl, by decide +kernel, by decide +kernel⟩
theorem ok_kind {f a : Addr} {fd : FuncData} (F : FnP K "is_kind" sPIsKind f fd) (zt : mg "str" = none) (zs : mg "isinstance" = none) (gK : mg "KINDS" = some (.ref a)) (hK : ∀ H, SqT K H a [.str "s", .str "d"]) : FnOk P w K mg base CX0 1 f fd ["thing"] spKind := by
  refine F.ok scKind (fun vs H Q E h => ?_) (fun cdv A outer s H vs Q E hr h => ?_)
  · obtain ⟨v, t, rfl, _⟩ := h
    rfl
  · obtain ⟨v, t, rfl, o, q⟩ := h
    refine ⟨_, PSs.nox (pss_one (ps_ret (pe_and (pe_callB call_isi (by rfl) zs (by decide +kernel) (pa_cons (pv 0) (pa_cons (pe_bltn (by rfl) zt (by decide +kernel) (v := .ty "str") rfl) pa_nil)))
      (pe_one (pe_cmpR op_in_seq (pv 0) (pe_glob (by rfl) gK (v := .ref a) rfl) (by rfl)))))), ?_⟩
    have ty := o.ty (K := K)
    cases o with
    | str x hx hs => exact ⟨_, rfl, _, _, _, _, true, rfl, .ty _, ty, kit_ty (by decide +kernel), _, rfl, iteT ⟨_, rfl, _, _, rfl, .inr (hK H), rfl, rfl, q⟩⟩
    | _ => exact ⟨_, rfl, _, _, _, _, false, rfl, .ty _, ty, kit_ty (by decide +kernel), _, rfl, iteF q⟩
def seqT (t : String) : Bool := t == "list" || t == "tuple"
def spSeq : Sp := fun vs H Q _ => ∃ (v : V) (t : String), vs = [v] ∧ Odd H v t ∧ ∀ p, H p = none → Q (.bl (seqT t)) (upd H p (.tup [.ty "list", .ty "tuple"]))
theorem kit_seq {K : PySem.W.Frag} {t : String} {b1 b2 r : Bool} (h1 : kitB t "list" = some b1) (h2 : kitB t "tuple" = some b2) (e : (b1 || b2) = r) : PySem.W.kitAny K (.type t) [.type "list", .type "tuple"] = some r := by
  subst e
  refine kitAny_cons (kit_ty h1) (fun e1 => ?_) (fun e1 => by rw [e1]; rfl)
  subst e1
  refine kitAny_cons (kit_ty h2) (fun e2 => ?_) (fun e2 => by rw [e2]; rfl)
  subst e2
  exact kitAny_nil
theorem scSeq : FnScope ["thing"] ["thing"] (defScope sPIsSequence) := ⟨rfl, rfl, rfl, by decide +kernel, rfl, by decide +kernel, by decide +kernel⟩
theorem Odd.same {H H' : Hp} {v : V} {t : String} (o : Odd H v t) (s : Same H H') : Odd H' v t := by
  cases o with
  | int i => exact .int i
  | bl b => exact .bl b
  | non => exact .non
  | str x hx hs => exact .str x hx hs
  | tup h => exact .tup (s _ _ h)
  | lst h => exact .lst (s _ _ h)
  | dic h => exact .dic (s _ _ h)
theorem ok_seq {f : Addr} {fd : FuncData} (F : FnP K "is_sequence" sPIsSequence f fd) (zl : mg "list" = none) (zt : mg "tuple" = none) (zs : mg "isinstance" = none) : FnOk P w K mg base CX0 1 f fd ["thing"] spSeq := by
  refine F.ok scSeq (fun vs H Q E h => ?_) (fun cdv A outer s H vs Q E hr h => ?_)
  · obtain ⟨v, t, rfl, _⟩ := h
    rfl
  · obtain ⟨v, t, rfl, o, q⟩ := h
    refine ⟨_, PSs.nox (pss_one (ps_ret (pe_callB call_isiT (by rfl) zs (by decide +kernel) (pa_cons (pv 0) (pa_cons (pe_tup (pa_cons (pe_bltn (by rfl) zl (by decide +kernel) (v := .ty "list") rfl) (pa_cons (pe_bltn (by rfl) zt (by decide +kernel) (v := .ty "tuple") rfl) pa_nil))) pa_nil))))), ?_⟩
    refine ⟨_, rfl, (by show 2 ≤ sizeLine; decide), fun p np => ⟨_, p, _, _, [.type "list", .type "tuple"], seqT t, rfl, upd_same, .cons (.ty _) (.cons (.ty _) .nil), (o.same (same_upd np)).ty, ?_, q p np⟩⟩
    cases o with
    | tup _ => exact kit_seq (b1 := false) (b2 := true) (by decide +kernel) (by decide +kernel) (by decide +kernel)
    | lst _ => exact kit_seq (b1 := true) (b2 := false) (by decide +kernel) (by decide +kernel) (by decide +kernel)
    | _ => exact kit_seq (b1 := false) (b2 := false) (by decide +kernel) (by decide +kernel) (by decide +kernel)
end
end K35

/-! a list or a tuple, walked; the model of patterns, lives, pairs -/
namespace K35
open PySem PySem.Spec PyProof.Rows L2
theorem not_t {b : Bool} (h : (!b) = true) : b = false := by
  cases b with
  | false => rfl
  | true => cases h
theorem not_f {b : Bool} (h : ¬ (!b) = true) : b = true := by
  cases b with
  | true => rfl
  | false => exact absurd rfl h
/-- at a stands a list or a tuple of xs -/
def Sq (H : Hp) (a : Addr) (xs : List V) : Prop := H a = some (.lst xs) ∨ H a = some (.tup xs)
def Kp (a : Addr) (H H' : Hp) : Prop := ∀ o, H a = some o → H' a = some o
theorem Same.kp {H H' : Hp} {a : Addr} (s : Same H H') : Kp a H H' := fun o e => s a o e
theorem Sq.kp {H H' : Hp} {a : Addr} {xs : List V} (h : Sq H a xs) (k : Kp a H H') : Sq H' a xs := h.elim (fun h => .inl (k _ h)) fun h => .inr (k _ h)
theorem Sq.same {H H' : Hp} {a : Addr} {xs : List V} (h : Sq H a xs) (s : Same H H') : Sq H' a xs := h.kp (Same.kp s)
theorem Sq.or {K : PySem.W.Frag} {H : Hp} {a : Addr} {xs : List V} (h : Sq H a xs) : SqL K H a xs ∨ SqT K H a xs := h.elim (fun h => .inl (SqL.of h)) fun h => .inr (SqT.of h)
theorem Sq.odd {H : Hp} {a : Addr} {xs : List V} (h : Sq H a xs) : ∃ t, Odd H (.ref a) t ∧ seqT t = true := h.elim (fun h => ⟨_, .lst h, by decide⟩) fun h => ⟨_, .tup h, by decide⟩
theorem enum_any {K : PySem.W.Frag} {σ : L2.St} {H : Hp} {R : It → Hp → Prop} {te : TE} {a : Addr} {xs : List V} (he : ∀ Q : VK, Q (.ref a) H → te σ H Q) (hS : Sq H a xs)
    (key : ∀ (it : It) (G : Hp → Prop), Walk it xs.length G (YPair (fun i => some (.int (i : Nat))) (fun i => xs[i]?)) → (∀ H', Kp a H H' → G H') → R it H) :
    iEnum K (tCons te tNil) σ H R ∨ iEnumT K (tCons te tNil) σ H R := by
  rcases hS with h | h
  · exact .inl (he _ ⟨a, xs, rfl, SqL.of h, key _ _ walk_enum fun H' k => SqL.of (k _ h)⟩)
  · exact .inr (he _ ⟨a, xs, rfl, SqT.of h, key _ _ walk_enumT fun H' k => SqT.of (k _ h)⟩)
theorem seq_any {K : PySem.W.Frag} {σ : L2.St} {H : Hp} {R : It → Hp → Prop} {te : TE} {a : Addr} {xs : List V} (he : ∀ Q : VK, Q (.ref a) H → te σ H Q) (hS : Sq H a xs)
    (key : ∀ (it : It) (G : Hp → Prop), Walk it xs.length G (YAt xs) → (∀ H', Kp a H H' → G H') → R it H) :
    iList K te σ H R ∨ iTup K te σ H R := by
  rcases hS with h | h
  · exact .inl (he _ ⟨a, rfl, ⟨_, SqL.of h⟩, key _ _ walk_list fun H' k => SqL.of (k _ h)⟩)
  · exact .inr (he _ ⟨a, rfl, ⟨_, SqT.of h⟩, key _ _ walk_tup fun H' k => SqT.of (k _ h)⟩)
theorem none_of {H H' : Hp} {y : Addr} (s : Same H H') (h : H' y = none) : H y = none := by
  cases e : H y with
  | none => rfl
  | some o =>
    have z := s _ _ e
    rw [h] at z
    cases z
def rTupS : List V → Hp → VK → Prop := fun vs H Q => ∃ (a : Addr) (xs : List V), vs = [.ref a] ∧ Sq H a xs ∧ ∀ (H2 : Hp) (t : Addr), Same H H2 → H2 t = some (.tup xs) → Q (.ref t) H2
theorem call_tupS {X : Cx} : CallR X (.type "tuple") rTupS := fun pins s σ H vs us Q I r h => by
  obtain ⟨a, xs, rfl, hS, k⟩ := h
  refine call_tuple_of pins s σ H _ us Q I r ⟨a, xs, rfl, ?_⟩
  exact hS.elim (fun h => .inl ⟨SqL.of h, fun l nl => k _ l (same_upd nl) upd_same⟩) fun h => .inr ⟨SqT.of h, k H a (Same.refl _) h⟩
/-! ### entries -/
def stepE (c : Nat) (v : V) : Option Nat := match v with
  | .non => some c
  | .int i => if i < 0 then none else if (c : Int) < i then none else if i = c then some (c + 1) else some c
  | _ => none
def cnt : Nat → List V → Option Nat
  | c, [] => some c
  | c, v :: vs => match stepE c v with
    | some c' => cnt c' vs
    | none => none
/-- flat values -/
inductive Fl : V → Prop where
  | non : Fl .non
  | bl (b : Bool) : Fl (.bl b)
  | int (i : Int) : Fl (.int i)
  | str (x : Str) (hx : x.length ≤ 1000) (hs : (PyData.str x).canLay0 = true) : Fl (.str x)
def tyF : V → String
  | .non => "NoneType"
  | .bl _ => "bool"
  | .int _ => "int"
  | _ => "str"
theorem Fl.odd {H : Hp} {v : V} (f : Fl v) : Odd H v (tyF v) := by
  cases f with
  | non => exact .non
  | bl b => exact .bl b
  | int i => exact .int i
  | str x h1 h2 => exact .str x h1 h2
theorem Fl.flat {v : V} (f : Fl v) : flatV v = true := by cases f <;> rfl
/-- what is handed as entries -/
inductive Nm (H : Hp) : V → List V → Option Nat → Prop where
  | seq {a : Addr} {xs : List V} (h : Sq H a xs) (hl : xs.length ≤ 40) (fl : ∀ x ∈ xs, Fl x) : Nm H (.ref a) xs (cnt 0 xs)
  | bad {v : V} {t : String} (o : Odd H v t) (ns : seqT t = false) : Nm H v [] none
theorem Nm.same {H H' : Hp} {v : V} {xs : List V} {o : Option Nat} (n : Nm H v xs o) (s : Same H H') : Nm H' v xs o := by
  cases n with
  | seq h hl fl => exact .seq (h.same s) hl fl
  | bad o ns => exact .bad (o.same s) ns
theorem cnt_cons (c : Nat) (v : V) (vs : List V) : cnt c (v :: vs) = (match stepE c v with | some c' => cnt c' vs | none => none) := rfl
theorem stepE_le {c c' : Nat} {v : V} (h : stepE c v = some c') : c ≤ c' := by
  unfold stepE at h
  split at h
  · injection h with h; omega
  · split at h
    · cases h
    · split at h
      · cases h
      · split at h <;> injection h with h <;> omega
  · cases h
theorem cnt_le : ∀ {vs : List V} {c c' : Nat}, cnt c vs = some c' → c ≤ c'
  | [], c, c', h => by
    injection h with h
    omega
  | v :: vs, c, c', h => by
    rw [cnt_cons] at h
    cases e : stepE c v with
    | none => rw [e] at h; cases h
    | some d =>
      rw [e] at h
      exact Nat.le_trans (stepE_le e) (cnt_le h)
/-- the whole numbers among the entries -/
def intsOf : List V → List Int
  | [] => []
  | .int i :: vs => i :: intsOf vs
  | _ :: vs => intsOf vs
theorem cnt_ints : ∀ {vs : List V} {c c' : Nat}, cnt c vs = some c' → (∀ y ∈ intsOf vs, y < c') ∧ (c < c' → ((c' : Int) - 1) ∈ intsOf vs)
  | [], c, c', h => by
    injection h with h
    exact ⟨fun y hy => (by cases hy), fun z => by omega⟩
  | v :: vs, c, c', h => by
    rw [cnt_cons] at h
    cases e : stepE c v with
    | none => rw [e] at h; cases h
    | some d =>
      rw [e] at h
      obtain ⟨h1, h2⟩ := cnt_ints h
      have hd := cnt_le h
      cases v with
      | int i =>
        have e' : (if i < 0 then none else if (c : Int) < i then none else if i = c then some (c + 1) else some c) = some d := e
        show (∀ y ∈ i :: intsOf vs, y < (c' : Int)) ∧ (c < c' → ((c' : Int) - 1) ∈ i :: intsOf vs)
        by_cases n0 : i < 0
        · rw [if_pos n0] at e'; cases e'
        rw [if_neg n0] at e'
        by_cases n1 : (c : Int) < i
        · rw [if_pos n1] at e'; cases e'
        rw [if_neg n1] at e'
        by_cases n2 : i = c
        · rw [if_pos n2] at e'
          injection e' with e'
          refine ⟨fun y hy => ?_, fun z => ?_⟩
          · rcases List.mem_cons.mp hy with rfl | hy
            · omega
            · exact h1 y hy
          · by_cases n3 : d < c'
            · exact List.mem_cons_of_mem _ (h2 n3)
            · have : (c' : Int) - 1 = i := by omega
              rw [this]
              exact List.mem_cons_self
        · rw [if_neg n2] at e'
          injection e' with e'
          refine ⟨fun y hy => ?_, fun z => List.mem_cons_of_mem _ (h2 (by omega))⟩
          rcases List.mem_cons.mp hy with rfl | hy
          · omega
          · exact h1 y hy
      | non =>
        have e' : some c = some d := e
        injection e' with e'
        subst e'
        exact ⟨h1, h2⟩
      | _ => cases e
theorem stepE_odd {c d : Nat} {v : V} (h : stepE c v = some d) : v = .non ∨ ∃ i, v = .int i := by
  cases v with
  | non => exact .inl rfl
  | int i => exact .inr ⟨i, rfl⟩
  | _ => cases h
end K35

/-! what is wrong with entries -/
namespace K35
open PySem PySem.Spec PyProof.Rows L2
structure Df (P : Program) (w : World) (K : PySem.W.Frag) (mg : Str → Option Value) (base : Heap) (x : Str) (k : Nat) (ps : List Str) (sp : Sp) (f : Addr) (fd : FuncData) : Prop where
  gl : mg x = some (.ref f)
  ok : FnOk P w K mg base CX0 k f fd ps sp
  bi : Binds K fd ps []
  kp : PySem.W.keepIn K (.ref f) = true
def spEF : Sp := fun vs H Q _ => ∃ (v : V) (xs : List V) (o : Option Nat), vs = [v] ∧ Nm H v xs o ∧
  (o = none → ∀ (H' : Hp) (t : Addr) (i : Int) (z : Str), Same H H' → H' t = some (.tup [.int i, .str z]) → Q (.ref t) H') ∧ (∀ c, o = some c → ∀ H', Same H H' → Q .non H')
section
variable {P : Program} {w : World} {K : PySem.W.Frag} {mg : Str → Option Value} {base : Heap}
theorem scEF : FnScope ["entries", "classes", "index", "entry"] ["entries"] (defScope sPEntriesFault) := ⟨rfl, rfl, rfl, by decide +kernel, rfl, by decide +kernel, by decide +kernel⟩
theorem drop_cons {xs : List V} {i : Nat} {v : V} (h : xs[i]? = some v) : xs.drop i = v :: xs.drop (i + 1) := by
  obtain ⟨hi, e⟩ := List.getElem?_eq_some_iff.mp h
  rw [List.drop_eq_getElem_cons hi, e]
theorem ok_ef {f fS : Addr} {fd fdS : FuncData} (F : FnP K "_entries_fault" sPEntriesFault f fd) (z_len : mg "len" = none) (z_enumerate : mg "enumerate" = none) (z_isinstance : mg "isinstance" = none) (z_int : mg "int" = none) (z_bool : mg "bool" = none)
    (g_MOST_PLACES : ∃ t, mg "MOST_PLACES" = some (.int 40 t)) (dS : Df P w K mg base "is_sequence" 1 ["thing"] spSeq fS fdS) : FnOk P w K mg base CX0 2 f fd ["entries"] spEF := by
  obtain ⟨tk, g_MOST_PLACES⟩ := g_MOST_PLACES
  refine F.ok scEF (fun vs H Q E h => ?_) (fun cdv A outer s H vs Q E hr1 h => ?_)
  · obtain ⟨v, xs, o, rfl, _⟩ := h
    rfl
  · obtain ⟨v, xs, o, rfl, nm, q0, q1⟩ := h
    refine ⟨_, PSs.nox (pss_cons (ps_if (PW.pt (pw_or (pt_not (pt_val (pe_call dS.ok hr1 (by rfl) dS.gl dS.kp dS.bi .nil pass0 (pa_cons (pv 0) pa_nil)))) (pw_or1 (pt_cmpR op_gt (pe_callB call_len_seq (by rfl) z_len boot_len (pa_cons (pv 0) pa_nil)) (pe_glob (by rfl) g_MOST_PLACES (v := .int 40) ⟨_, rfl⟩) (nomark _)))))
      (pss_one (ps_ret (pe_tup (pa_cons pe_int (pa_cons pe_str pa_nil)))))
      pss_nil)
    (pss_cons (ps_set (i := 1) scEF.nd rfl (.inl rfl) pe_int)
    (pss_cons (ps_for PassesOwn.never rfl (pi_or (pi_enum (by rfl) z_enumerate (pa_cons (pv 0) pa_nil)) (pi_enumT (by rfl) z_enumerate (pa_cons (pv 0) pa_nil) rfl)) (pg_tup (by rfl) (pgs_cons (pg_name (i := 2) scEF.nd rfl (.inl rfl)) (pgs_cons (pg_name (i := 3) scEF.nd rfl (.inl rfl)) pgs_nil)))
      (pss_cons (ps_if (pt_cmpR op_isN (pv 3) pe_non (nomark _))
        (pss_one ps_continue)
        pss_nil)
      (pss_cons (ps_if (PW.pt (pw_or (pt_not (pt_val (pe_callB call_isi (by rfl) z_isinstance (by decide +kernel) (pa_cons (pv 3) (pa_cons (pe_bltn (by rfl) z_int (by decide +kernel) (v := .ty "int") rfl) pa_nil))))) (pw_or (pt_val (pe_callB call_isi (by rfl) z_isinstance (by decide +kernel) (pa_cons (pv 3) (pa_cons (pe_bltn (by rfl) z_bool (by decide +kernel) (v := .ty "bool") rfl) pa_nil)))) (pw_or1 (pt_cmpR op_lt (pv 3) pe_int (nomark _))))))
        (pss_one (ps_ret (pe_tup (pa_cons (pv 2) (pa_cons pe_str pa_nil)))))
        pss_nil)
      (pss_cons (ps_if (pt_cmpR op_gt (pv 3) (pv 1) (nomark _))
        (pss_one (ps_ret (pe_tup (pa_cons (pv 2) (pa_cons pe_str pa_nil)))))
        pss_nil)
      (pss_one (ps_if (pt_cmpR op_eq (pv 3) (pv 1) (nomark _))
        (pss_one (ps_aug (i := 1) scEF.nd rfl (.inl rfl) pe_int ip_add))
        pss_nil))))))
    (pss_one (ps_ret pe_non))))), ?_⟩
    cases nm with
    | bad o ns =>
      refine ⟨_, rfl, _, _, rfl, o, fun u nu => ?_⟩
      rw [ns]
      exact ⟨_, rfl, iteT ⟨(by show 2 ≤ sizeLine; decide), fun z nz => q0 rfl _ z _ _ ((same_upd nu).trans (same_upd nz)) upd_same⟩⟩
    | @seq a xs h hl fl =>
      obtain ⟨t, o, hs⟩ := h.odd
      refine ⟨_, rfl, _, _, rfl, o, fun u nu => ?_⟩
      rw [hs]
      refine ⟨_, rfl, iteF ?_⟩
      have su := same_upd (o := .tup [.ty "list", .ty "tuple"]) nu
      have h1 := h.same su
      generalize upd H u (.tup [.ty "list", .ty "tuple"]) = H0 at su h1 ⊢
      refine ⟨_, rfl, _, _, rfl, h1.or, _, _, rfl, rfl, _, rfl, ite2 (fun z => absurd (of_decide_eq_true z) (by omega)) (fun _ => ?_)⟩
      refine enum_any (fun Q q => ⟨_, rfl, q⟩) h1 fun it G wk keep => for_it wk (fun i σ H' => ∃ (c : Nat) (x2 x3 : Option V), σ = [some (.ref a), some (.int (c : Int)), x2, x3] ∧ cnt c (xs.drop i) = cnt 0 xs ∧ Same H0 H')
        ⟨0, none, none, rfl, by rw [List.drop_zero], Same.refl _⟩ (fun i σ H' _ ⟨_, _, _, _, _, s⟩ => keep _ (Same.kp s)) ?_ ?_
      · rintro i x σ H1 H2 hi ⟨c, x2, x3, rfl, hc, sm⟩ ⟨T, u', v, rfl, nT, rfl, eu, ev⟩
        obtain rfl : u' = .int (i : Int) := (Option.some.inj eu).symm
        have fv := fl v (List.mem_of_getElem? ev)
        rw [drop_cons ev, cnt_cons] at hc
        have sT := sm.trans (same_upd (o := .tup [.int (i : Int), v]) nT)
        have sH := su.trans sT
        refine ⟨T, _, rfl, .inl (.inl upd_same), rfl, _, _, rfl, _, _, rfl, rfl, ?_⟩
        have ret : ∀ z : Str, cnt 0 xs = none → ∀ p, upd H1 T (.tup [.int (i : Int), v]) p = none → Q (.ref p) (upd (upd H1 T (.tup [.int (i : Int), v])) p (.tup [.int (i : Int), .str z])) := fun z e p np => q0 e _ p _ z (sH.trans (same_upd np)) upd_same
        cases fv with
        | non => exact ⟨_, rfl, rfl, _, rfl, iteT ⟨c, _, _, rfl, hc, sT⟩⟩
        | bl b =>
          refine ⟨_, rfl, rfl, _, rfl, iteF ?_⟩
          refine ⟨_, rfl, _, _, _, _, true, rfl, .ty _, .base (.bl b), kit_ty (by decide +kernel), _, rfl, iteF ⟨_, rfl, _, _, _, _, true, rfl, .ty _, .base (.bl b), kit_ty (by decide +kernel), _, rfl, iteT ?_⟩⟩
          exact ⟨_, rfl, (by show 2 ≤ sizeLine; decide), fun p np => ret _ hc.symm p np⟩
        | str z h1 h2 =>
          refine ⟨_, rfl, rfl, _, rfl, iteF ?_⟩
          refine ⟨_, rfl, _, _, _, _, false, rfl, .ty _, .base (.str z), kit_ty (by decide +kernel), _, rfl, iteT ?_⟩
          exact ⟨_, rfl, (by show 2 ≤ sizeLine; decide), fun p np => ret _ hc.symm p np⟩
        | int j =>
          refine ⟨_, rfl, rfl, _, rfl, iteF ?_⟩
          refine ⟨_, rfl, _, _, _, _, true, rfl, .ty _, .base (.int j), kit_ty (by decide +kernel), _, rfl, iteF ⟨_, rfl, _, _, _, _, false, rfl, .ty _, .base (.int j), kit_ty (by decide +kernel), _, rfl, iteF ?_⟩⟩
          have hc' : (match (if j < 0 then none else if (c : Int) < j then none else if j = c then some (c + 1) else some c : Option Nat) with | some c' => cnt c' (xs.drop (i + 1)) | none => none) = cnt 0 xs := hc
          refine ⟨_, rfl, _, _, rfl, rfl, _, rfl, ite2 (fun g => ?_) (fun g => ?_)⟩
          · rw [if_pos (of_decide_eq_true g)] at hc'
            exact ⟨_, rfl, (by show 2 ≤ sizeLine; decide), fun p np => ret _ hc'.symm p np⟩
          rw [if_neg (fun z => g (decide_eq_true z))] at hc'
          refine ⟨_, rfl, _, rfl, _, _, rfl, rfl, _, rfl, ite2 (fun g => ?_) (fun g => ?_)⟩
          · rw [if_pos (of_decide_eq_true g)] at hc'
            exact ⟨_, rfl, (by show 2 ≤ sizeLine; decide), fun p np => ret _ hc'.symm p np⟩
          rw [if_neg (fun z => g (decide_eq_true z))] at hc'
          refine ⟨_, rfl, _, rfl, rfl, _, rfl, ite2 (fun g => ?_) (fun g => ?_)⟩
          · have ej : j = (c : Int) := V.int.inj (of_decide_eq_true g)
            rw [if_pos ej] at hc'
            refine ⟨_, rfl, _, _, rfl, rfl, ⟨c + 1, _, _, rfl, hc', sT⟩⟩
          · rw [if_neg (fun z => g (decide_eq_true (by rw [z])))] at hc'
            exact ⟨c, _, _, rfl, hc', sT⟩
      · rintro σ H1 ⟨c, x2, x3, rfl, hc, sm⟩
        rw [List.drop_of_length_le (Nat.le_refl _)] at hc
        exact q1 c hc.symm H1 (su.trans sm)
end
end K35

/-! the errors' __init__ -/
namespace K35
open PySem PySem.Spec PyProof.Rows L2 L2H
abbrev sPatErr : Stmt := inClass (top 3) 0
abbrev sStErr : Stmt := inClass (top 5) 0
abbrev NoF (K : PySem.W.Frag) (C : Addr) (f : Str) : Prop := PySem.W.findIn K (.ref C) f = some none
abbrev patF (i : Int) (x : Str) : List (Str × V) := [("what", .str x), ("index", .int i)]
abbrev stF (x : Str) : List (Str × V) := [("what", .str x)]
theorem keep_new {H : Hp} {a d : Addr} {o u : HO} (nd : H d = none) : ∀ b x, b ≠ a → H b = some x → (upd (upd H d u) a o) b = some x := fun b x n e => by
  rw [upd_ne n, upd_ne (ne_of_none e nd)]
  exact e
theorem keep_dict {H H1 : Hp} {a d : Addr} {o : HO} (nd : H d = none) (k : ∀ b x, b ≠ a → H b = some x → H1 b = some x) : ∀ b x, b ≠ a → H b = some x → (upd H1 d o) b = some x := fun b x n e => by
  rw [upd_ne (ne_of_none e nd)]
  exact k b x n e
def spPatErr (C : Addr) : Sp := fun vs H Q _ => ∃ (a : Addr) (i : Int) (x : Str), vs = [.ref a, .int i, .str x] ∧ H a = some (exo a C none) ∧
  ∀ (H' : Hp) (d : Addr), H d = none → H' a = some (exo a C (some d)) → H' d = some (exd d (patF i x)) → (∀ b o, b ≠ a → H b = some o → H' b = some o) → Q .non H'
def spStErr (C : Addr) : Sp := fun vs H Q _ => ∃ (a : Addr) (x : Str), vs = [.ref a, .str x] ∧ H a = some (exo a C none) ∧
  ∀ (H' : Hp) (d : Addr), H d = none → H' a = some (exo a C (some d)) → H' d = some (exd d (stF x)) → (∀ b o, b ≠ a → H b = some o → H' b = some o) → Q .non H'
section
variable {P : Program} {w : World} {K : PySem.W.Frag} {mg : Str → Option Value} {base : Heap}
theorem ok_patErr {f C : Addr} {fd : FuncData} (F : FunD K "__init__" "BadPattern.__init__" (defArgs sPatErr) (defBody sPatErr) (defScope sPatErr) [] [] f fd) (T : OexC K C) (n0 : NoF K C "index") (n1 : NoF K C "what") :
    FnOk P w K mg base CX0 1 f fd ["self", "index", "what"] (spPatErr C) := by
  have sc : FnScope ["self", "index", "what"] ["self", "index", "what"] (defScope sPatErr) := ⟨rfl, rfl, rfl, by decide +kernel, rfl, by decide +kernel, by decide +kernel⟩
  refine F.ok sc (fun vs H Q E h => ?_) (fun cdv A outer s H vs Q E hr h => ?_)
  · obtain ⟨a, i, x, rfl, _⟩ := h
    rfl
  · obtain ⟨a, i, x, rfl, ea, q⟩ := h
    refine ⟨_, PSs.nox (pss_cons (ps_ost (pv 0) (pv 1)) (pss_one (ps_ost (pv 0) (pv 2)))), ?_⟩
    refine ⟨_, rfl, _, rfl, a, C, rfl, T, n0, .inl ⟨ea, fun d nd ne => ?_⟩⟩
    refine ⟨_, rfl, _, rfl, a, C, rfl, T, n1, .inr ⟨d, _, upd_same, Eq.trans (upd_ne ne) upd_same, (by show 1 ≤ 900; decide), ?_⟩⟩
    exact q _ d nd (Eq.trans (upd_ne (Ne.symm ne)) upd_same) upd_same (keep_dict nd (keep_new nd))
theorem ok_stErr {f C : Addr} {fd : FuncData} (F : FunD K "__init__" "BadState.__init__" (defArgs sStErr) (defBody sStErr) (defScope sStErr) [] [] f fd) (T : OexC K C) (n1 : NoF K C "what") :
    FnOk P w K mg base CX0 1 f fd ["self", "what"] (spStErr C) := by
  have sc : FnScope ["self", "what"] ["self", "what"] (defScope sStErr) := ⟨rfl, rfl, rfl, by decide +kernel, rfl, by decide +kernel, by decide +kernel⟩
  refine F.ok sc (fun vs H Q E h => ?_) (fun cdv A outer s H vs Q E hr h => ?_)
  · obtain ⟨a, x, rfl, _⟩ := h
    rfl
  · obtain ⟨a, x, rfl, ea, q⟩ := h
    refine ⟨_, PSs.nox (pss_one (ps_ost (pv 0) (pv 1))), ?_⟩
    refine ⟨_, rfl, _, rfl, a, C, rfl, T, n1, .inl ⟨ea, fun d nd ne => ?_⟩⟩
    exact q _ d nd upd_same (Eq.trans (upd_ne ne) upd_same) (keep_new nd)
theorem ok_stErrH {f C : Addr} {fd : FuncData} (F : FunD K "__init__" "BadState.__init__" (defArgs sStErr) (defBody sStErr) (defScope sStErr) [] [] f fd) (T : OexC K C) (n1 : NoF K C "what") :
    FnH P w K mg base CX0 1 f fd ["self", "what"] (spStErr C) := by
  have sc : FnScope ["self", "what"] ["self", "what"] (defScope sStErr) := ⟨rfl, rfl, rfl, by decide +kernel, rfl, by decide +kernel, by decide +kernel⟩
  refine okH F sc (fun vs H Q E h => ?_) (fun cdv A outer s H vs Q E p hot hr h => ?_)
  · obtain ⟨a, x, rfl, _⟩ := h
    rfl
  · obtain ⟨a, x, rfl, ea, q⟩ := h
    refine ⟨_, PSs.nox (pss_one (ps_ost (pv 0) (pv 1))), ?_⟩
    refine ⟨_, rfl, _, rfl, a, C, rfl, T, n1, .inl ⟨ea, fun d nd ne => ?_⟩⟩
    exact q _ d nd upd_same (Eq.trans (upd_ne ne) upd_same) (keep_new nd)
end
end K35

/-! a pattern is made, or refused -/
namespace K35
open PySem PySem.Spec PyProof.Rows L2
abbrev sPInit : Stmt := inClass (top 15) 0
theorem intsOf_app : ∀ (xs ys : List V), intsOf (xs ++ ys) = intsOf xs ++ intsOf ys
  | [], ys => rfl
  | v :: vs, ys => by
    have ih := intsOf_app vs ys
    cases v with
    | int i => exact congrArg (List.cons i) ih
    | _ => exact ih
theorem cnt_kinds : ∀ {vs : List V} {c c' : Nat}, cnt c vs = some c' → ∀ v ∈ vs, v = .non ∨ ∃ i : Int, v = .int i ∧ 0 ≤ i
  | [], c, c', h => fun v hv => by cases hv
  | v :: vs, c, c', h => by
    rw [cnt_cons] at h
    cases e : stepE c v with
    | none => rw [e] at h; cases h
    | some d =>
      rw [e] at h
      intro u hu
      rcases List.mem_cons.mp hu with rfl | hu
      · cases u with
        | non => exact .inl rfl
        | int i =>
          refine .inr ⟨i, rfl, ?_⟩
          have e' : (if i < 0 then none else if (c : Int) < i then none else if i = c then some (c + 1) else some c : Option Nat) = some d := e
          by_cases n0 : i < 0
          · rw [if_pos n0] at e'; cases e'
          · omega
        | _ => cases e
      · exact cnt_kinds h u hu
theorem len_intsOf : ∀ vs : List V, (intsOf vs).length ≤ vs.length
  | [] => Nat.le_refl _
  | v :: vs => by
    have ih := len_intsOf vs
    cases v with
    | int i => exact Nat.succ_le_succ ih
    | _ => exact Nat.le_succ_of_le ih
theorem mem_intsOf : ∀ {vs : List V} {i : Int}, i ∈ intsOf vs → V.int i ∈ vs
  | [], i, h => by cases h
  | v :: vs, i, h => by
    cases v with
    | int j =>
      rcases List.mem_cons.mp h with rfl | h
      · exact List.mem_cons_self
      · exact List.mem_cons_of_mem _ (mem_intsOf h)
    | _ => exact List.mem_cons_of_mem _ (mem_intsOf (show i ∈ intsOf vs from h))
theorem cnt_max {vs : List V} {c : Nat} (h : cnt 0 vs = some c) {m : Int} (hm : m ∈ intsOf vs) (hle : ∀ y ∈ intsOf vs, y ≤ m) : 1 + m = c := by
  obtain ⟨h1, h2⟩ := cnt_ints h
  have z1 := h1 m hm
  have z0 : 0 ≤ m := by
    rcases cnt_kinds h _ (mem_intsOf hm) with e | ⟨i, e, hi⟩
    · cases e
    · injection e with e
      omega
  have z2 := hle _ (h2 (by omega))
  omega
theorem cnt_none {vs : List V} {c : Nat} (h : cnt 0 vs = some c) (hn : intsOf vs = []) : c = 0 := by
  obtain ⟨h1, h2⟩ := cnt_ints h
  by_cases z : 0 < c
  · have y := h2 z
    rw [hn] at y
    cases y
  · omega
/-- the class of patterns -/
structure PatC (K : PySem.W.Frag) (CP : Addr) : Prop where
  cl : Cls K CP
  nE : NoAttr K CP "entries"
  nC : NoAttr K CP "_classes"
/-- BadPattern(..), BadState(..) -/
structure ErrC (P : Program) (w : World) (K : PySem.W.Frag) (mg : Str → Option Value) (base : Heap) (x : Str) (ps : List Str) (sp : Addr → Sp) (C fI : Addr) (fd : FuncData) : Prop where
  cl : OexC K C
  ini : PySem.W.findIn K (.ref C) "__init__" = some (some (.ref fI))
  ty : PySem.W.typeIn K (.ref fI) = some (.type "function")
  gl : mg x = some (.ref C)
  ok : FnOk P w K mg base CX0 1 fI fd ps (sp C)
  bi : Binds K fd ps []
abbrev patO (t : Addr) (c : Nat) : List (Str × V) := [("entries", .ref t), ("_classes", .int c)]
def spPat (CP CE : Addr) : Sp := fun vs H Q E => ∃ (x dx : Addr) (v : V) (xs : List V) (o : Option Nat), vs = [.ref x, v] ∧ H x = some (.ins CP dx []) ∧ Nm H v xs o ∧
  (∀ c, o = some c → ∀ (H' : Hp) (t : Addr), H' x = some (.ins CP dx (patO t c)) → H' t = some (.tup xs) → (∀ z u, H z = some u → z ≠ x → H' z = some u) → Q .non H') ∧
  (o = none → ∀ (H' : Hp) (d : Addr) (i : Int) (z : Str), H d = none → H' d = some (.xd (patF i z)) → Same H H' → E (.ref CE) (some d) H')
section
variable {P : Program} {w : World} {K : PySem.W.Frag} {mg : Str → Option Value} {base : Heap}
abbrev nmPI : List Str := ["self", "entries", "fault", "entry"]
theorem scPI : FnScope nmPI ["self", "entries"] (defScope sPInit) := ⟨rfl, rfl, rfl, by decide +kernel, rfl, by decide +kernel, by decide +kernel⟩
theorem ok_pat {f fE fX CP CE : Addr} {fd fdE fdX : FuncData} (F : FunD K "__init__" "Pattern.__init__" (defArgs sPInit) (defBody sPInit) (defScope sPInit) [] [] f fd) (T : PatC K CP) (z_tuple : mg "tuple" = none) (z_max : mg "max" = none)
    (dE : Df P w K mg base "_entries_fault" 2 ["entries"] spEF fE fdE) (X : ErrC P w K mg base "BadPattern" ["self", "index", "what"] spPatErr CE fX fdX) : FnOk P w K mg base (L2N.CX P w) 3 f fd ["self", "entries"] (spPat CP CE) := by
  refine F.ok scPI (fun vs H Q E h => ?_) (fun cdv A outer s H vs Q E hr h => ?_)
  · obtain ⟨x, dx, v, xs, o, rfl, _⟩ := h
    rfl
  · obtain ⟨x, dx, v, xs, o, rfl, hx, nm, q1, q0⟩ := h
    have hu := hu_of hr
    refine ⟨_, pss_cons (ps_set (i := 2) scPI.nd rfl (.inl rfl) (pe_call dE.ok hr (by rfl) dE.gl dE.kp dE.bi .nil pass0 (pa_cons (pv 1) pa_nil)))
      (pss_cons (ps_if (pt_cmpR op_notN (pv 2) pe_non (nomark _))
          (pss_one (L2N.ps_raise rfl (L2N.takes_of rfl rfl rfl rfl) (pmk_oexN X.cl X.ini X.ty X.ok hr X.bi pass0 (by rfl) X.gl (pa_cons (pe_ix ix_tup (pv 2) pe_int (fun _ _ => rfl)) (pa_cons (pe_ix ix_tup (pv 2) pe_int (fun _ _ => rfl)) pa_nil))))) pss_nil)
      (PSs.nox (pss_cons (ps_fld (pv 0) (pe_callTy call_tupS (by rfl) z_tuple (by decide +kernel) (pa_cons (pv 1) pa_nil)) rfl)
      (pss_one (ps_fld (pv 0) (pe_op op_add pe_int (pe_callBK (crk_max rfl (Nat.lt_of_le_of_lt (Nat.add_le_add_left (by decide : 3 ≤ 64) _) hr.units)) (by rfl) z_max (by decide +kernel)
        (pa_cons (pe_lc (own := [("entry", 3)]) (g := gName 3) rfl scPI.nd (pi_or (pi_list (pv 1)) (pi_tup (pv 1))) (blkOk_by (N := nmPI) (sc := defScope sPInit) (by decide +kernel))
          (fun _ _ _ _ _ => pg_name (i := 3) scPI.nd rfl (Or.inl rfl)) (fun _ _ _ _ _ => pts_one (pt_cmpR op_notN (pv 3) pe_non (nomark _))) (fun _ _ _ _ _ => pv 3)) pa_nil) (pk_cons (pe_un un_neg pe_int) pk_nil))) rfl))))), ?_⟩
    refine ⟨_, rfl, v, xs, o, rfl, nm, fun eo H1 t i z s1 ht => ?_, fun c eo H1 s1 => ?_⟩
    · refine ⟨_, rfl, rfl, _, rfl, iteT ?_⟩
      refine ⟨_, rfl, _, _, _, _, rfl, rfl, SqT.of ht, rfl, _, rfl, _, _, _, _, rfl, rfl, SqT.of ht, rfl, (by show 2 ≤ 1000; decide), fun av nav => ⟨av, i, z, rfl, upd_same, fun H3 dd nd3 ha3 hd3 kp => ⟨rfl, dd, _, ha3, hd3, ?_, ?_⟩⟩⟩
      · exact none_of (same_upd nav) nd3
      · refine q0 eo _ dd i z (none_of s1 (none_of (same_upd nav) nd3)) upd_same fun y' o' e' => ?_
        have e2 := s1 _ _ e'
        rw [upd_ne (ne_of_none e2 (none_of (same_upd nav) nd3)), del_ne (ne_of_none e2 nav)]
        exact kp _ _ (ne_of_none e2 nav) (same_upd nav _ _ e2)
    · refine ⟨_, rfl, rfl, _, rfl, iteF ?_⟩
      cases nm with
      | bad o ns => cases eo
      | @seq a xs h hl fl =>
        have h1 := h.same s1
        have hx1 := s1 _ _ hx
        have ax : a ≠ x := h.elim (fun e => ne_of e hx (by intro z; cases z)) fun e => ne_of e hx (by intro z; cases z)
        refine ⟨_, rfl, a, xs, rfl, h1, fun H2 t s2 ht => ?_⟩
        have hx2 := s2 _ _ hx1
        have tx : t ≠ x := ne_of ht hx2 (by intro z; cases z)
        refine ⟨_, rfl, x, CP, dx, _, rfl, hx2, T.cl, T.nE, by decide, ?_⟩
        have hx3 : upd H2 x (.ins CP dx (putF "entries" (.ref t) [])) x = some (.ins CP dx (putF "entries" (.ref t) [])) := upd_same
        have ht3 : upd H2 x (.ins CP dx (putF "entries" (.ref t) [])) t = some (.tup xs) := (upd_ne tx).trans ht
        have k3 : ∀ z u, H z = some u → z ≠ x → upd H2 x (.ins CP dx (putF "entries" (.ref t) [])) z = some u := fun z u e ne => (upd_ne ne).trans (s2 _ _ (s1 _ _ e))
        have h3 : Sq (upd H2 x (.ins CP dx (putF "entries" (.ref t) []))) a xs := (h1.same s2).elim (fun e => .inl ((upd_ne ax).trans e)) fun e => .inr ((upd_ne ax).trans e)
        generalize upd H2 x (.ins CP dx (putF "entries" (.ref t) [])) = H3 at hx3 ht3 k3 h3
        refine seq_any (fun Q q => ⟨_, rfl, q⟩) h3 fun it G wk keep D nD => lc_it wk (fun i H' => Same H3 H' ∧ H' D = some (.lst ((intsOf (xs.take i)).map V.int))) ⟨same_upd nD, upd_same⟩ (fun i H' _ ⟨s, _⟩ => keep _ (Same.kp s)) ?_ ?_
        · rintro i y H4 H5 hi ⟨s4, eD⟩ ⟨rfl, ev⟩
          have et : xs.take (i + 1) = xs.take i ++ [y] := by rw [List.take_add_one, ev]; rfl
          have hlen : ((intsOf (xs.take i)).map V.int).length < sizeLine := by
            rw [List.length_map]
            refine Nat.lt_of_le_of_lt (Nat.le_trans (len_intsOf _) ?_) (show 40 < sizeLine by decide)
            rw [List.length_take]
            exact Nat.le_trans (Nat.min_le_right _ _) hl
          rcases cnt_kinds eo y (List.mem_of_getElem? ev) with rfl | ⟨j, rfl, _⟩
          · refine ⟨rfl, _, rfl, rfl, _, rfl, iteF ⟨s4, ?_⟩⟩
            rw [et, intsOf_app]
            show H5 D = some (.lst ((intsOf (xs.take i) ++ []).map V.int))
            rw [List.append_nil]
            exact eD
          · refine ⟨rfl, _, rfl, rfl, _, rfl, iteT ⟨_, rfl, _, eD, hlen, fun b o e => ?_, ?_⟩⟩
            · rw [upd_ne (ne_of_none e nD)]
              exact s4 _ _ e
            · rw [upd_same, et, intsOf_app, List.map_append]
              rfl
        · rintro H4 ⟨s4, eD⟩
          rw [List.take_of_length_le (Nat.le_refl _)] at eD
          refine ⟨_, rfl, D, intsOf xs, -1, rfl, rfl, SqL.of eD, fun en => ?_, fun m hm hle => ?_⟩
          · have ec := cnt_none eo en
            subst ec
            refine ⟨_, _, rfl, rfl, _, rfl, x, CP, dx, _, rfl, s4 _ _ hx3, T.cl, T.nC, (show 1 < 1000 by decide), ?_⟩
            exact q1 0 eo _ t upd_same ((upd_ne tx).trans (s4 _ _ ht3)) fun z u e ne => (upd_ne ne).trans (s4 _ _ (k3 z u e ne))
          · have ec := cnt_max eo hm hle
            refine ⟨_, _, rfl, rfl, _, rfl, x, CP, dx, _, rfl, s4 _ _ hx3, T.cl, T.nC, (show 1 < 1000 by decide), ?_⟩
            exact q1 c eo _ t (by rw [upd_same]; show some (HO.ins CP dx [("entries", V.ref t), ("_classes", V.int (1 + m))]) = _; rw [ec]) ((upd_ne tx).trans (s4 _ _ ht3)) fun z u e ne => (upd_ne ne).trans (s4 _ _ (k3 z u e ne))
end
end K35

/-! a pattern asked for, its error turned into another -/
namespace K35
open PySem PySem.Spec PyProof.Rows L2 L2H
/-- C(..) in a try: its __init__ may raise -/
def tMakeS (C : Addr) (sp : Sp) (E : L2.St → XK) (t : TA) : TE := fun σ H Q => t σ H fun vs H1 => ∀ x dx, H1 x = none → H1 dx = none → dx ≠ x →
  sp (.ref x :: vs) (upd (upd H1 dx (.own x)) x (.ins C dx [])) (fun v H2 => v = .non ∧ Q (.ref x) H2) (E σ)
section
variable {X : Cx} {CX : CXT} {k : Nat} {f C : Addr} {fd : FuncData} {ps : List Str} {sp : Sp} {E : L2.St → XK} {x : Str} {p pos : Pos} {e : Expr} {es : List Expr} {t : TA}
theorem run_makeS {pins : List (Addr × Obj)} {σ : L2.St} {H : Hp} {s : Shared} {Q : VK} {us : List Value} {vs : List V} (M : Mk X.K C f) (F : FnOk X.prog X.w X.K X.mg X.base CX k f fd ps sp) (hr : Room (k + 1) X.A) (hb : Binds X.K fd ps [])
    (hx : PassesAt CX X σ (E σ)) (I : Inv X pins σ H s) (r : Vals vs us)
    (h : ∀ x dx, H x = none → H dx = none → dx ≠ x → sp (.ref x :: vs) (upd (upd H dx (.own x)) x (.ins C dx [])) (fun v H2 => v = .non ∧ Q (.ref x) H2) (E σ)) :
    wpAny (model X.prog X.w) X.A (call (.ref C) us) (EP X pins σ Q) X.xe s := by
  have hq := h (s.heap.objs.size + 1) s.heap.objs.size (I.hok.fresh (Nat.le_succ _)) (I.hok.fresh (Nat.le_refl _)) (Nat.ne_of_lt (Nat.lt_succ_self _))
  have I2 := Inv.made (C := C) I
  have r2 : Vals (V.ref (s.heap.objs.size + 1) :: vs) (Value.ref (s.heap.objs.size + 1) :: us) := .cons rfl r
  have hl : (Value.ref (s.heap.objs.size + 1) :: us ++ []).length = ps.length := by
    have e := r2.length
    rw [F.len _ _ _ _ hq] at e
    rw [List.append_nil]
    exact e.symm
  have hbb := hb _ (Value.ref (s.heap.objs.size + 1) :: us) I2.kIn hl
  rw [List.append_nil] at hbb
  refine wpAny_call (make_map (f := f) I.kIn M.makes M.init (beq_iff_eq.mp M.fn) (codeAny_mono (F.run _ X.stack _ _ ⟨Value.ref (s.heap.objs.size + 1) :: us, []⟩ (Value.ref (s.heap.objs.size + 1) :: us) _ _ (E σ) (hr.make C us [])
    (I2.env0.make C us []) hbb r2 hq) fun r s' hq' => ?_))
  cases r with
  | error e => exact hx pins _ _ e s' I2 hq'
  | ok fl =>
    cases fl with
    | ret u =>
      obtain ⟨v, H', I3, rv, ev, q3⟩ := I2.after hq'
      subst ev
      exact ⟨rv, ⟨V.ref (s.heap.objs.size + 1), H', I3, rfl, q3⟩⟩
    | next => exact False.elim hq'
    | brk => exact False.elim hq'
    | cont => exact False.elim hq'
theorem pe_makeS (M : Mk X.K C f) (F : FnOk X.prog X.w X.K X.mg X.base CX k f fd ps sp) (hr : Room (k + 1) X.A) (hg : Gl X x) (hm : X.mg x = some (.ref C)) (hb : Binds X.K fd ps []) (hx : ∀ σ, PassesAt CX X σ (E σ))
    (ha : PA X (e :: es) t) (hdb : (x == ("__debug__" : Str)) = false := by decide) (he : starEach (e :: es) X.env = (false, eval e X.env) :: starEach es X.env := by rfl) (hpl : (backTo pos (starEach es X.env)).any (·.1) = false := by rfl) :
    PE X (.Call (.Name x p) (e :: es) [] pos) (tMakeS C sp E t) := by
  refine ⟨fun pins s σ H Q I h => ?_⟩
  refine wpAny_Call_Name_kw (ld_glob I hg hm ?_ hdb)
  refine PySem.W.callWith_K (h₀ := X.base) I.ok.mod.kin M.kp (thn (ha.run pos pins s σ H _ I h) fun us s1 ⟨vs, H1, I1, r, q⟩ => ⟨I1.kIn, ?_⟩) he hpl
  exact run_makeS M F hr hb (hx σ) I1 r q
end
/-- an error that is made while another one is handled -/
structure ErrH (P : Program) (w : World) (K : PySem.W.Frag) (mg : Str → Option Value) (base : Heap) (x : Str) (ps : List Str) (sp : Addr → Sp) (C fI : Addr) (fd : FuncData) : Prop extends ErrC P w K mg base x ps sp C fI fd where
  okH : FnH P w K mg base CX0 1 fI fd ps (sp C)
structure PatMk (P : Program) (w : World) (K : PySem.W.Frag) (mg : Str → Option Value) (base : Heap) (CP CE fI : Addr) (fd : FuncData) : Prop where
  mks : Mk K CP fI
  gl : mg "Pattern" = some (.ref CP)
  ok : FnOk P w K mg base (L2N.CX P w) 3 fI fd ["self", "entries"] (spPat CP CE)
  bi : Binds K fd ["self", "entries"] []
  gE : mg "BadPattern" = some (.ref CE)
  ex : PySem.W.exmOne K (.ref CE) (.ref CE) = some true
def spPO (CP CS : Addr) : Sp := fun vs H Q E => ∃ (v : V) (xs : List V) (o : Option Nat), vs = [v] ∧ Nm H v xs o ∧
  (∀ c, o = some c → ∀ (H' : Hp) (x dx t : Addr), Same H H' → H' x = some (.ins CP dx (patO t c)) → H' t = some (.tup xs) → Q (.ref x) H') ∧
  (o = none → ∀ (H' : Hp) (d : Addr), H d = none → H' d = some (.xd (stF "names")) → Same H H' → E (.ref CS) (some d) H')
theorem same_ins {H : Hp} {x dx C : Addr} {fs : List (Str × V)} (nx : H x = none) (nd : H dx = none) (ne : dx ≠ x) : Same H (upd (upd H dx (.own x)) x (.ins C dx fs)) := fun b o e => by
  rw [upd_ne (ne_of_none e nx), upd_ne (ne_of_none e nd)]
  exact e
section
variable {P : Program} {w : World} {K : PySem.W.Frag} {mg : Str → Option Value} {base : Heap}
theorem scPO : FnScope ["names"] ["names"] (defScope sPPatternOf) := ⟨rfl, rfl, rfl, by decide +kernel, rfl, by decide +kernel, by decide +kernel⟩
theorem ok_po {f fP fS CP CE CS : Addr} {fd fdP fdS : FuncData} (F : FnP K "_pattern_of" sPPatternOf f fd) (M : PatMk P w K mg base CP CE fP fdP) (Y : ErrH P w K mg base "BadState" ["self", "what"] spStErr CS fS fdS) :
    FnOk P w K mg base (L2.CX P w) 5 f fd ["names"] (spPO CP CS) := by
  refine F.ok scPO (fun vs H Q E h => ?_) (fun cdv A outer s H vs Q E hr h => ?_)
  · obtain ⟨v, xs, o, rfl, _⟩ := h
    rfl
  · obtain ⟨v, xs, o, rfl, nm, q1, q0⟩ := h
    refine ⟨_, pss_one (ps_try_onlyX (tb := fun W => tRet (tMakeS CP (spPat CP CE) (WE W) (tCons (tVar 0) tNil))) rfl rfl ⟨rfl, by decide, .inl M.gE⟩ (passesAt_of rfl) (takes_of rfl rfl rfl rfl)
      (fun W pn xe tk _ _ => pss_one (ps_ret (pe_makeS M.mks M.ok hr (by rfl) M.gl M.bi (fun σ => L2N.passAt tk σ) (pa_cons (pv 0) pa_nil))))
      (fun a oe cls d pn hz hf tkS hot => pss_one (ps_raiseHN hot tkS (pmk5_oexH Y.cl Y.ini Y.ty Y.okH (roomH_mark (hr.mono (by decide)) _) hot Y.bi pass0 (by rfl) Y.gl (pa_cons pe_str pa_nil))))), ?_⟩
    refine ⟨_, rfl, fun x dx nx nd ne => ?_⟩
    have s0 := same_ins (C := CP) (fs := []) nx nd ne
    refine ⟨x, dx, v, xs, o, rfl, upd_same, nm.same s0, fun c eo H2 t hx ht kp => ⟨rfl, ?_⟩, fun eo H2 d i z nd2 hd s2 => ?_⟩
    · exact q1 c eo H2 x dx t (fun b o' e => kp _ _ (s0 _ _ e) (ne_of_none e nx)) hx ht
    · refine ⟨true, M.ex, fun _ a0 na0 => ?_, fun z => by cases z⟩
      refine ⟨(by show 1 ≤ 1000; decide), fun av nav => ⟨av, "names", rfl, upd_same, fun H3 dd nd3 ha3 hd3 kp => ⟨rfl, dd, _, ha3, hd3, ?_, ?_⟩⟩⟩
      · exact none_of (same_upd nav) nd3
      · refine q0 eo _ dd (none_of s0 (none_of s2 (none_of (same_upd nav) nd3))) upd_same fun y' o' e' => ?_
        have e2 := s2 _ _ (s0 _ _ e')
        rw [upd_ne (ne_of_none e2 (none_of (same_upd nav) nd3)), del_ne (ne_of_none e2 nav)]
        exact kp _ _ (ne_of_none e2 nav) (same_upd nav _ _ e2)
end
end K35

/-! what is wrong with lives -/
namespace K35
open PySem PySem.Spec PyProof.Rows L2 L2H
def lvOk (v : V) : Bool := match v with
  | .non => true
  | .str z => inV (.str z) [.str "alive", .str "dead"]
  | _ => false
inductive Lv (H : Hp) : V → List V → Bool → Prop where
  | seq {a : Addr} {xs : List V} (h : Sq H a xs) (hl : xs.length ≤ 1000) (fl : ∀ x ∈ xs, Fl x) : Lv H (.ref a) xs (xs.all lvOk)
  | bad {v : V} {t : String} (o : Odd H v t) (ns : seqT t = false) : Lv H v [] false
theorem Lv.same {H H' : Hp} {v : V} {xs : List V} {b : Bool} (n : Lv H v xs b) (s : Same H H') : Lv H' v xs b := by
  cases n with
  | seq h hl fl => exact .seq (h.same s) hl fl
  | bad o ns => exact .bad (o.same s) ns
def spLv (CS : Addr) : Sp := fun vs H Q E => ∃ (v : V) (xs : List V) (b : Bool), vs = [v] ∧ Lv H v xs b ∧ (b = true → ∀ H', Same H H' → Q .non H') ∧
  (b = false → ∀ (H' : Hp) (d : Addr), H d = none → H' d = some (.xd (stF "lives")) → Same H H' → E (.ref CS) (some d) H')
section
variable {P : Program} {w : World} {K : PySem.W.Frag} {mg : Str → Option Value} {base : Heap}
/-- the wish of a raise of BadState, told at any heap above -/
theorem raise_st {CS : Addr} {z : Str} {H H1 : Hp} {E : Value → Option Addr → Hp → Prop} (s1 : Same H H1) (q0 : ∀ (H' : Hp) (d : Addr), H d = none → H' d = some (.xd (stF z)) → Same H H' → E (.ref CS) (some d) H') :
    ([V.str z] : List V).length ≤ 1000 ∧ ∀ a, H1 a = none → spStErr CS (.ref a :: ([V.str z] ++ [])) (upd H1 a (exo a CS none))
      (fun v H2 => v = .non ∧ ∃ (d : Addr) (fs : List (Str × V)), H2 a = some (exo a CS (some d)) ∧ H2 d = some (exd d fs) ∧ H1 d = none ∧ E (.ref CS) (some d) (upd (del H2 a) d (.xd fs))) (fun _ _ _ => False) := by
  refine ⟨(by show 1 ≤ 1000; decide), fun av nav => ⟨av, z, rfl, upd_same, fun H3 dd nd3 ha3 hd3 kp => ⟨rfl, dd, _, ha3, hd3, ?_, ?_⟩⟩⟩
  · exact none_of (same_upd nav) nd3
  · refine q0 _ dd (none_of s1 (none_of (same_upd nav) nd3)) upd_same fun y' o' e' => ?_
    have e2 := s1 _ _ e'
    rw [upd_ne (ne_of_none e2 (none_of (same_upd nav) nd3)), del_ne (ne_of_none e2 nav)]
    exact kp _ _ (ne_of_none e2 nav) (same_upd nav _ _ e2)
theorem scCL : FnScope ["lives", "life"] ["lives"] (defScope sPCheckLives) := ⟨rfl, rfl, rfl, by decide +kernel, rfl, by decide +kernel, by decide +kernel⟩
theorem ok_cl {f fD fS CS : Addr} {fd fdD fdS : FuncData} (F : FnP K "_check_lives" sPCheckLives f fd) (z_isinstance : mg "isinstance" = none) (z_str : mg "str" = none) (dS : Df P w K mg base "is_sequence" 1 ["thing"] spSeq fD fdD)
    (Y : ErrH P w K mg base "BadState" ["self", "what"] spStErr CS fS fdS) : FnOk P w K mg base (L2.CX P w) 3 f fd ["lives"] (spLv CS) := by
  refine F.ok scCL (fun vs H Q E h => ?_) (fun cdv A outer s H vs Q E hr2 h => ?_)
  · obtain ⟨v, xs, b, rfl, _⟩ := h
    rfl
  · obtain ⟨v, xs, b, rfl, lv, q1, q0⟩ := h
    have hr1 := hr2.mono (show 1 ≤ 2 by decide)
    refine ⟨_, (pss_cons (ps_if (pt_not (pt_val (pe_call dS.ok hr1 (by rfl) dS.gl dS.kp dS.bi .nil pass0 (pa_cons (pv 0) pa_nil))))
      (pss_one (ps_raise rfl (takes_of rfl rfl rfl rfl) (pmk_oex Y.cl Y.ini Y.ty Y.ok hr2 Y.bi .nil pass0 (by rfl) Y.gl (pa_cons pe_str pa_nil))))
      pss_nil)
    (pss_one (ps_for PassesOwn.leaving rfl (pi_or (pi_list (pv 0)) (pi_tup (pv 0))) (pg_name (i := 1) scCL.nd rfl (.inl rfl))
      (pss_one (ps_if (PW.pt (pw_and (pt_cmpR op_notN (pv 1) pe_non (nomark _)) (pw_and1 (pt_not (PW.pt (pw_and (pt_val (pe_callB call_isi (by rfl) z_isinstance (by decide +kernel) (pa_cons (pv 1) (pa_cons (pe_bltn (by rfl) z_str (by decide +kernel) (v := .ty "str") rfl) pa_nil)))) (pw_and1 (pt_cmpR op_in_seq (pv 1) (pe_tup (pa_cons pe_str (pa_cons pe_str pa_nil))) (by rfl)))))))))
        (pss_one (ps_raise rfl (takes_of rfl rfl rfl rfl) (pmk_oex Y.cl Y.ini Y.ty Y.ok hr2 Y.bi .nil pass0 (by rfl) Y.gl (pa_cons pe_str pa_nil))))
        pss_nil))))), ?_⟩
    cases lv with
    | bad o ns =>
      refine ⟨_, rfl, _, _, rfl, o, fun u nu => ?_⟩
      rw [ns]
      exact ⟨_, rfl, iteT (raise_st (same_upd nu) (q0 rfl))⟩
    | @seq a xs h hl fl =>
      obtain ⟨t, o, hs⟩ := h.odd
      refine ⟨_, rfl, _, _, rfl, o, fun u nu => ?_⟩
      rw [hs]
      refine ⟨_, rfl, iteF ?_⟩
      have su := same_upd (o := .tup [.ty "list", .ty "tuple"]) nu
      have h1 := h.same su
      generalize upd H u (.tup [.ty "list", .ty "tuple"]) = H0 at su h1 ⊢
      refine seq_any (fun Q q => ⟨_, rfl, q⟩) h1 fun it G wk keep => for_it wk (fun i σ H' => ∃ (x1 : Option V), σ = [some (.ref a), x1] ∧ (xs.drop i).all lvOk = xs.all lvOk ∧ Same H0 H')
        ⟨none, rfl, rfl, Same.refl _⟩ (fun i σ H' _ ⟨_, _, _, s⟩ => keep _ (Same.kp s)) ?_ ?_
      · rintro i x σ H1 H2 hi ⟨x1, rfl, hc, sm⟩ ⟨rfl, ev⟩
        have fv := fl x (List.mem_of_getElem? ev)
        rw [drop_cons ev, List.all_cons] at hc
        have sH := su.trans sm
        cases fv with
        | non => exact ⟨_, rfl, rfl, _, rfl, iteF ⟨_, rfl, by rw [← hc]; rfl, sm⟩⟩
        | bl b =>
          refine ⟨_, rfl, rfl, _, rfl, iteT ⟨_, rfl, _, _, _, _, false, rfl, .ty _, .base (.bl b), kit_ty (by decide +kernel), _, rfl, iteF (iteT ?_)⟩⟩
          exact raise_st sH (q0 (by rw [← hc]; rfl))
        | int b =>
          refine ⟨_, rfl, rfl, _, rfl, iteT ⟨_, rfl, _, _, _, _, false, rfl, .ty _, .base (.int b), kit_ty (by decide +kernel), _, rfl, iteF (iteT ?_)⟩⟩
          exact raise_st sH (q0 (by rw [← hc]; rfl))
        | str z hz1 hz2 =>
          refine ⟨_, rfl, rfl, _, rfl, iteT ⟨_, rfl, _, _, _, _, true, rfl, .ty _, .base (.str z), kit_ty (by decide +kernel), _, rfl, iteT ?_⟩⟩
          refine ⟨_, rfl, (by show 2 ≤ sizeLine; decide), fun p np => ⟨p, _, rfl, .inr (SqT.of upd_same), rfl, rfl, _, rfl, ?_⟩⟩
          have sp := sm.trans (same_upd (o := .tup [.str "alive", .str "dead"]) np)
          have hc' : (inV (.str z) [.str "alive", .str "dead"] && (xs.drop (i + 1)).all lvOk) = xs.all lvOk := hc
          cases e : inV (.str z) [.str "alive", .str "dead"] with
          | true =>
            rw [e, Bool.true_and] at hc'
            exact iteF ⟨_, rfl, hc', sp⟩
          | false =>
            rw [e, Bool.false_and] at hc'
            exact iteT (raise_st (su.trans sp) (q0 hc'.symm))
      · rintro σ H1 ⟨x1, rfl, hc, sm⟩
        rw [List.drop_of_length_le (Nat.le_refl _)] at hc
        exact q1 hc.symm H1 (su.trans sm)
end
end K35

/-! what is wrong with pairs of a class and a mark -/
namespace K35
open PySem PySem.Spec PyProof.Rows L2 L2H
def intV (v : V) : Int := match v with
  | .int i => i
  | _ => 0
def bOk (c : Nat) : Int → List (Option (List V)) → Bool
  | _, [] => true
  | _, none :: _ => false
  | l, some ys :: r => match ys with
    | [x, y] => (wholeV x l c && wholeV y 0 2) && bOk c (intV x + 1) r
    | _ => false
inductive PI1 (H : Hp) : V → Option (List V) → Prop where
  | flat {v : V} (h : Fl v) : PI1 H v none
  | seq {a : Addr} {ys : List V} (h : Sq H a ys) (hl : ys.length ≤ 1000) (fl : ∀ y ∈ ys, Fl y) : PI1 H (.ref a) (some ys)
theorem PI1.same {H H' : Hp} {v : V} {m : Option (List V)} (p : PI1 H v m) (s : Same H H') : PI1 H' v m := by
  cases p with
  | flat h => exact .flat h
  | seq h hl fl => exact .seq (h.same s) hl fl
def PIs (H : Hp) (xs : List V) (ms : List (Option (List V))) : Prop := xs.length = ms.length ∧ ∀ (i : Nat) (v : V), xs[i]? = some v → ∃ m, ms[i]? = some m ∧ PI1 H v m
theorem PIs.same {H H' : Hp} {xs : List V} {ms : List (Option (List V))} (p : PIs H xs ms) (s : Same H H') : PIs H' xs ms := ⟨p.1, fun i v e => let ⟨m, h1, h2⟩ := p.2 i v e; ⟨m, h1, h2.same s⟩⟩
inductive Bo (H : Hp) : V → Nat → List (Option (List V)) → Bool → Prop where
  | seq {a : Addr} {xs : List V} {c : Nat} {ms : List (Option (List V))} (h : Sq H a xs) (hl : xs.length ≤ 1000) (hm : PIs H xs ms) : Bo H (.ref a) c ms (bOk c 0 ms)
  | bad {v : V} {t : String} {c : Nat} (o : Odd H v t) (ns : seqT t = false) : Bo H v c [] false
theorem Bo.same {H H' : Hp} {v : V} {c : Nat} {ms : List (Option (List V))} {b : Bool} (n : Bo H v c ms b) (s : Same H H') : Bo H' v c ms b := by
  cases n with
  | seq h hl hm => exact .seq (h.same s) hl (hm.same s)
  | bad o ns => exact .bad (o.same s) ns
theorem Fl.noseq {v : V} (f : Fl v) : seqT (tyF v) = false := by
  cases f with
  | non => decide
  | bl b => exact (by decide : seqT "bool" = false)
  | int i => exact (by decide : seqT "int" = false)
  | str x _ _ => exact (by decide : seqT "str" = false)
def spBo (CS : Addr) : Sp := fun vs H Q E => ∃ (v : V) (c : Nat) (ms : List (Option (List V))) (b : Bool), vs = [v, .int c] ∧ Bo H v c ms b ∧ (b = true → ∀ H', Same H H' → Q .non H') ∧
  (b = false → ∀ (H' : Hp) (d : Addr), H d = none → H' d = some (.xd (stF "borne")) → Same H H' → E (.ref CS) (some d) H')
/-- xs[i], xs a list or a tuple -/
def rIxQ : R2 := fun x y H Q => ∃ (a : Addr) (xs : List V) (i : Nat) (v : V), x = .ref a ∧ y = .int (i : Int) ∧ Sq H a xs ∧ xs[i]? = some v ∧ Q v H
theorem ix_sq {X : Cx} : IxR X rIxQ := fun value slice pins s σ H x y v u Q I rx ry h hs => by
  obtain ⟨a, xs, i, z, ex, ey, hS, hg, q⟩ := h
  exact hS.elim (fun e => ix_list value slice pins s σ H x y v u Q I rx ry ⟨a, xs, i, z, ex, ey, SqL.of e, atI_nat hg, q⟩ hs) fun e => ix_tup value slice pins s σ H x y v u Q I rx ry ⟨a, xs, i, z, ex, ey, SqT.of e, atI_nat hg, q⟩ hs
theorem iteSN {c A B : Prop} [Decidable c] (hc : ¬ c) (h : A) : if (!decide c) = true then A else B := by
  rw [decide_eq_false hc]
  exact iteT h
theorem whole_int {v : V} {lo hi : Int} (h : wholeV v lo hi = true) : ∃ i, v = .int i := by
  cases v with
  | int i => exact ⟨i, rfl⟩
  | _ => cases h
section
variable {P : Program} {w : World} {K : PySem.W.Frag} {mg : Str → Option Value} {base : Heap}
abbrev nmCB : List Str := ["borne", "classes", "least", "pair"]
theorem scCB : FnScope nmCB ["borne", "classes"] (defScope sPCheckBorne) := ⟨rfl, rfl, rfl, by decide +kernel, rfl, by decide +kernel, by decide +kernel⟩
theorem ok_cb {f fD fW fS CS : Addr} {fd fdD fdW fdS : FuncData} (F : FnP K "_check_borne" sPCheckBorne f fd) (z_len : mg "len" = none) (g_NEVER_BORNE : ∃ t, mg "NEVER_BORNE" = some (.int 0 t)) (g_NOW_BORNE : ∃ t, mg "NOW_BORNE" = some (.int 2 t))
    (dS : Df P w K mg base "is_sequence" 1 ["thing"] spSeq fD fdD) (dW : Df P w K mg base "is_whole" 1 ["thing", "low", "high"] spWhole fW fdW)
    (Y : ErrH P w K mg base "BadState" ["self", "what"] spStErr CS fS fdS) : FnOk P w K mg base (L2.CX P w) 3 f fd ["borne", "classes"] (spBo CS) := by
  obtain ⟨t1, g_NEVER_BORNE⟩ := g_NEVER_BORNE
  obtain ⟨t2, g_NOW_BORNE⟩ := g_NOW_BORNE
  refine F.ok scCB (fun vs H Q E h => ?_) (fun cdv A outer s H vs Q E hr2 h => ?_)
  · obtain ⟨v, c, ms, b, rfl, _⟩ := h
    rfl
  · obtain ⟨v, c, ms, b, rfl, bo, q1, q0⟩ := h
    have hr1 := hr2.mono (show 1 ≤ 2 by decide)
    refine ⟨_, (pss_cons (ps_if (pt_not (pt_val (pe_call dS.ok hr1 (by rfl) dS.gl dS.kp dS.bi .nil pass0 (pa_cons (pv 0) pa_nil))))
      (pss_one (ps_raise rfl (takes_of rfl rfl rfl rfl) (pmk_oex Y.cl Y.ini Y.ty Y.ok hr2 Y.bi .nil pass0 (by rfl) Y.gl (pa_cons pe_str pa_nil))))
      pss_nil)
    (pss_cons (ps_set (i := 2) scCB.nd rfl (.inl rfl) pe_int)
    (pss_one (ps_for PassesOwn.leaving rfl (pi_or (pi_list (pv 0)) (pi_tup (pv 0))) (pg_name (i := 3) scCB.nd rfl (.inl rfl))
      (pss_cons (ps_if (PW.pt (pw_or (pt_not (pt_val (pe_call dS.ok hr1 (by rfl) dS.gl dS.kp dS.bi .nil pass0 (pa_cons (pv 3) pa_nil)))) (pw_or1 (pt_cmpR op_ne (pe_callB call_len_seq (by rfl) z_len boot_len (pa_cons (pv 3) pa_nil)) pe_int (nomark _)))))
        (pss_one (ps_raise rfl (takes_of rfl rfl rfl rfl) (pmk_oex Y.cl Y.ini Y.ty Y.ok hr2 Y.bi .nil pass0 (by rfl) Y.gl (pa_cons pe_str pa_nil))))
        pss_nil)
      (pss_cons (ps_if (PW.pt (pw_or (pt_not (pt_val (pe_call dW.ok hr1 (by rfl) dW.gl dW.kp dW.bi .nil pass0 (pa_cons (pe_ix ix_sq (pv 3) pe_int (fun _ _ => rfl)) (pa_cons (pv 2) (pa_cons (pv 1) pa_nil)))))) (pw_or1 (pt_not (pt_val (pe_call dW.ok hr1 (by rfl) dW.gl dW.kp dW.bi .nil pass0 (pa_cons (pe_ix ix_sq (pv 3) pe_int (fun _ _ => rfl)) (pa_cons (pe_glob (by rfl) g_NEVER_BORNE (v := .int 0) ⟨_, rfl⟩) (pa_cons (pe_glob (by rfl) g_NOW_BORNE (v := .int 2) ⟨_, rfl⟩) pa_nil)))))))))
        (pss_one (ps_raise rfl (takes_of rfl rfl rfl rfl) (pmk_oex Y.cl Y.ini Y.ty Y.ok hr2 Y.bi .nil pass0 (by rfl) Y.gl (pa_cons pe_str pa_nil))))
        pss_nil)
      (pss_one (ps_set (i := 2) scCB.nd rfl (.inl rfl) (pe_op op_add (pe_ix ix_sq (pv 3) pe_int (fun _ _ => rfl)) pe_int))))))))), ?_⟩
    cases bo with
    | bad o ns =>
      refine ⟨_, rfl, _, _, rfl, o, fun u nu => ?_⟩
      rw [ns]
      exact ⟨_, rfl, iteT (raise_st (same_upd nu) (q0 rfl))⟩
    | @seq a xs _ _ h hl hm =>
      obtain ⟨t, o, hs⟩ := h.odd
      refine ⟨_, rfl, _, _, rfl, o, fun u nu => ?_⟩
      rw [hs]
      refine ⟨_, rfl, iteF ?_⟩
      have su := same_upd (o := .tup [.ty "list", .ty "tuple"]) nu
      have h1 := h.same su
      generalize upd H u (.tup [.ty "list", .ty "tuple"]) = H0 at su h1 ⊢
      refine seq_any (fun Q q => ⟨_, rfl, q⟩) h1 fun it G wk keep => for_it wk (fun i σ H' => ∃ (l : Int) (x3 : Option V), σ = [some (.ref a), some (.int (c : Int)), some (.int l), x3] ∧ bOk c l (ms.drop i) = bOk c 0 ms ∧ Same H0 H')
        ⟨0, none, rfl, rfl, Same.refl _⟩ (fun i σ H' _ ⟨_, _, _, _, s⟩ => keep _ (Same.kp s)) ?_ ?_
      · rintro i x σ H1 H2 hi ⟨l, x3, rfl, hc, sm⟩ ⟨rfl, ev⟩
        have sH := su.trans sm
        obtain ⟨m, em, pm⟩ := hm.2 i x ev
        obtain ⟨hi', em'⟩ := List.getElem?_eq_some_iff.mp em
        rw [List.drop_eq_getElem_cons hi', em'] at hc
        have pm2 := pm.same sH
        cases pm2 with
        | flat hf =>
          refine ⟨_, rfl, _, _, rfl, hf.odd, fun u nu => ?_⟩
          rw [hf.noseq]
          exact ⟨_, rfl, iteT (iteT (raise_st (sH.trans (same_upd nu)) (q0 (by rw [← hc]; rfl))))⟩
        | @seq b ys hy hly fl =>
          obtain ⟨t2, o2, hs2⟩ := hy.odd
          refine ⟨_, rfl, _, _, rfl, o2, fun u nu => ?_⟩
          rw [hs2]
          have sp := sm.trans (same_upd (o := .tup [.ty "list", .ty "tuple"]) nu)
          have hy2 := hy.same (same_upd (o := .tup [.ty "list", .ty "tuple"]) nu)
          generalize upd H2 u (.tup [.ty "list", .ty "tuple"]) = H3 at sp hy2 ⊢
          refine ⟨_, rfl, iteF ?_⟩
          refine ⟨_, rfl, _, _, rfl, hy2.or, rfl, _, rfl, ?_⟩
          have bad : (ys.length : Int) ≠ 2 → bOk c 0 ms = false := fun z => by
            rw [← hc]
            match ys, z with
            | [], _ => rfl
            | [_], _ => rfl
            | [_, _], z => exact absurd rfl z
            | _ :: _ :: _ :: _, _ => rfl
          by_cases two : (ys.length : Int) = 2
          case neg => exact iteSN (fun z => two (V.int.inj z)) (raise_st (su.trans sp) (q0 (bad two)))
          match ys, two, fl, hy2, hc with
          | [x, y], _, fl, hy2, hc =>
            have hc' : ((wholeV x l c && wholeV y 0 2) && bOk c (intV x + 1) (ms.drop (i + 1))) = bOk c 0 ms := hc
            have fx := fl x List.mem_cons_self
            have fy := fl y (List.mem_cons_of_mem _ List.mem_cons_self)
            refine iteNS rfl ?_
            refine ⟨_, rfl, b, [x, y], 0, x, rfl, rfl, hy2, rfl, _, rfl, _, rfl, x, _, l, c, rfl, fx.odd, ?_⟩
            cases e1 : wholeV x l c with
            | false =>
              rw [e1, Bool.false_and, Bool.false_and] at hc'
              exact ⟨_, rfl, iteT (raise_st (su.trans sp) (q0 hc'.symm))⟩
            | true =>
              rw [e1, Bool.true_and] at hc'
              refine ⟨_, rfl, iteF ?_⟩
              refine ⟨_, rfl, b, [x, y], 1, y, rfl, rfl, hy2, rfl, y, _, 0, 2, rfl, fy.odd, ?_⟩
              cases e2 : wholeV y 0 2 with
              | false =>
                rw [e2, Bool.false_and] at hc'
                exact ⟨_, rfl, iteT (raise_st (su.trans sp) (q0 hc'.symm))⟩
              | true =>
                rw [e2, Bool.true_and] at hc'
                refine ⟨_, rfl, iteF ?_⟩
                obtain ⟨k, rfl⟩ := whole_int e1
                exact ⟨_, rfl, b, _, 0, _, rfl, rfl, hy2, rfl, _, _, rfl, rfl, _, _, rfl, hc', sp⟩
      · rintro σ H1 ⟨l, x3, rfl, hc, sm⟩
        rw [show xs.length = ms.length from hm.1, List.drop_of_length_le (Nat.le_refl _)] at hc
        exact q1 hc.symm H1 (su.trans sm)
end
end K35

/-! the state of a person is made, or refused -/
namespace K35
open PySem PySem.Spec PyProof.Rows L2 L2H
abbrev sPSInit : Stmt := inClass (top 27) 0
/-- a def that may raise -/
structure DfX (P : Program) (w : World) (K : PySem.W.Frag) (mg : Str → Option Value) (base : Heap) (x : Str) (k : Nat) (ps : List Str) (sp : Sp) (f : Addr) (fd : FuncData) : Prop where
  gl : mg x = some (.ref f)
  ok : FnOk P w K mg base (L2.CX P w) k f fd ps sp
  bi : Binds K fd ps []
  kp : PySem.W.keepIn K (.ref f) = true
def spMark : Sp := fun vs H Q _ => ∃ (v : V), vs = [v] ∧ Fl v ∧ Q (.bl (wholeV v 0 1000)) H
/-- the first word against a person's state -/
def pw (kv : V) (o : Option Nat) (b : Bool) (mv : V) : Option Str :=
  if kindV kv = true then (match o with
    | none => some "names"
    | some _ => if b = true then (if wholeV mv 0 1000 = true then none else some "marks") else some "lives") else some "kind"
theorem Lv.sq {H : Hp} {v : V} {ls : List V} {b : Bool} (n : Lv H v ls b) (e : b = true) : ∃ a, v = .ref a ∧ Sq H a ls := by
  cases n with
  | seq h hl fl => exact ⟨_, rfl, h⟩
  | bad o ns => cases e
/-- an object's fields are stored one by one: all else stays -/
structure Fs (H0 Hc : Hp) (x C dx : Addr) (fs : List (Str × V)) : Prop where
  hx : Hc x = some (.ins C dx fs)
  kp : ∀ z u, H0 z = some u → z ≠ x → Hc z = some u
theorem Fs.put {H0 Hc : Hp} {x C dx : Addr} {fs fs' : List (Str × V)} (F : Fs H0 Hc x C dx fs) : Fs H0 (upd Hc x (.ins C dx fs')) x C dx fs' := ⟨upd_same, fun z u e ne => (upd_ne ne).trans (F.kp z u e ne)⟩
theorem Fs.same {H0 Hc H' : Hp} {x C dx : Addr} {fs : List (Str × V)} (F : Fs H0 Hc x C dx fs) (s : Same Hc H') : Fs H0 H' x C dx fs := ⟨s _ _ F.hx, fun z u e ne => s _ _ (F.kp z u e ne)⟩
theorem Fs.sq {H0 Hc : Hp} {x C dx a : Addr} {fs gs : List (Str × V)} {xs : List V} (F : Fs H0 Hc x C dx fs) (h : Sq H0 a xs) (hx : H0 x = some (.ins C dx gs)) : Sq Hc a xs :=
  h.elim (fun e => .inl (F.kp _ _ e (ne_of e hx (by intro z; cases z)))) fun e => .inr (F.kp _ _ e (ne_of e hx (by intro z; cases z)))
structure PsC (K : PySem.W.Frag) (CQ : Addr) : Prop where
  cl : Cls K CQ
  nK : NoAttr K CQ "kind"
  nN : NoAttr K CQ "names"
  nL : NoAttr K CQ "lives"
  nM : NoAttr K CQ "mark"
abbrev psO (kv : V) (tn tl : Addr) (mv : V) : List (Str × V) := [("kind", kv), ("names", .ref tn), ("lives", .ref tl), ("mark", mv)]
def spPS (CQ CS : Addr) : Sp := fun vs H Q E => ∃ (x dx : Addr) (kv nv lv mv : V) (xs ls : List V) (o : Option Nat) (b : Bool), vs = [.ref x, kv, nv, lv, mv] ∧ H x = some (.ins CQ dx []) ∧ Fl kv ∧ Nm H nv xs o ∧ Lv H lv ls b ∧ Fl mv ∧
  (pw kv o b mv = none → ∀ (H' : Hp) (tn tl : Addr), H' x = some (.ins CQ dx (psO kv tn tl mv)) → H' tn = some (.tup xs) → H' tl = some (.tup ls) → (∀ z u, H z = some u → z ≠ x → H' z = some u) → Q .non H') ∧
  (∀ z, pw kv o b mv = some z → ∀ (H' : Hp) (d : Addr), H d = none → H' d = some (.xd (stF z)) → Same H H' → E (.ref CS) (some d) H')
section
variable {P : Program} {w : World} {K : PySem.W.Frag} {mg : Str → Option Value} {base : Heap}
theorem ok_mark {f fW : Addr} {fd fdW : FuncData} (F : FnP K "is_mark" sPIsMark f fd) (g_MOST_MARK : ∃ t, mg "MOST_MARK" = some (.int 1000 t)) (dW : Df P w K mg base "is_whole" 1 ["thing", "low", "high"] spWhole fW fdW) : FnOk P w K mg base CX0 2 f fd ["thing"] spMark := by
  obtain ⟨t1, g_MOST_MARK⟩ := g_MOST_MARK
  have scM : FnScope ["thing"] ["thing"] (defScope sPIsMark) := ⟨rfl, rfl, rfl, by decide +kernel, rfl, by decide +kernel, by decide +kernel⟩
  refine F.ok scM (fun vs H Q E h => ?_) (fun cdv A outer s H vs Q E hr1 h => ?_)
  · obtain ⟨v, rfl, _⟩ := h
    rfl
  · obtain ⟨v, rfl, fv, q⟩ := h
    refine ⟨_, PSs.nox (pss_one (ps_ret (pe_call dW.ok hr1 (by rfl) dW.gl dW.kp dW.bi .nil pass0 (pa_cons (pv 0) (pa_cons pe_int (pa_cons (pe_glob (by rfl) g_MOST_MARK (v := .int 1000) ⟨_, rfl⟩) pa_nil)))))), ?_⟩
    exact ⟨_, rfl, v, _, 0, 1000, rfl, fv.odd, q⟩
abbrev nmPS : List Str := ["self", "kind", "names", "lives", "mark", "pattern"]
theorem scPS : FnScope nmPS ["self", "kind", "names", "lives", "mark"] (defScope sPSInit) := ⟨rfl, rfl, rfl, by decide +kernel, rfl, by decide +kernel, by decide +kernel⟩
theorem ok_ps {f fK fO fL fM fS CQ CP CS : Addr} {fd fdK fdO fdL fdM fdS : FuncData} {dvs : List V} (F : FunD K "__init__" "PersonState.__init__" (defArgs sPSInit) (defBody sPSInit) (defScope sPSInit) dvs [] f fd) (T : PsC K CQ) (TP : PatC K CP) (z_tuple : mg "tuple" = none)
    (dK : Df P w K mg base "is_kind" 1 ["thing"] spKind fK fdK) (dO : DfX P w K mg base "_pattern_of" 5 ["names"] (spPO CP CS) fO fdO) (dL : DfX P w K mg base "_check_lives" 3 ["lives"] (spLv CS) fL fdL) (dM : Df P w K mg base "is_mark" 2 ["thing"] spMark fM fdM)
    (Y : ErrH P w K mg base "BadState" ["self", "what"] spStErr CS fS fdS) : FnOk P w K mg base (L2.CX P w) 6 f fd ["self", "kind", "names", "lives", "mark"] (spPS CQ CS) := by
  refine F.ok scPS (fun vs H Q E h => ?_) (fun cdv A outer s H vs Q E hr5 h => ?_)
  · obtain ⟨x, dx, kv, nv, lv, mv, xs, ls, o, b, rfl, _⟩ := h
    rfl
  · obtain ⟨x, dx, kv, nv, lv, mv, xs, ls, o, b, rfl, hx, fk, nm, lvv, fm, q1, q0⟩ := h
    have hr1 := hr5.mono (show 1 ≤ 5 by decide)
    have hr2 := hr5.mono (show 2 ≤ 5 by decide)
    have hr3 := hr5.mono (show 3 ≤ 5 by decide)
    refine ⟨_, (pss_cons (ps_if (pt_not (pt_val (pe_call dK.ok hr1 (by rfl) dK.gl dK.kp dK.bi .nil pass0 (pa_cons (pv 1) pa_nil))))
      (pss_one (ps_raise rfl (takes_of rfl rfl rfl rfl) (pmk_oex Y.cl Y.ini Y.ty Y.ok hr2 Y.bi .nil pass0 (by rfl) Y.gl (pa_cons pe_str pa_nil))))
      pss_nil)
    (pss_cons (ps_set (i := 5) scPS.nd rfl (.inl rfl) (pe_callS dO.ok hr5 (by rfl) dO.gl dO.kp dO.bi (fun σ => passAt (takes_of rfl rfl rfl rfl) σ) (pa_cons (pv 2) pa_nil)))
    (pss_cons (ps_expr (pe_callS dL.ok hr3 (by rfl) dL.gl dL.kp dL.bi (fun σ => passAt (takes_of rfl rfl rfl rfl) σ) (pa_cons (pv 3) pa_nil)))
    (pss_cons (ps_if (pt_not (pt_val (pe_call dM.ok hr2 (by rfl) dM.gl dM.kp dM.bi .nil pass0 (pa_cons (pv 4) pa_nil))))
      (pss_one (ps_raise rfl (takes_of rfl rfl rfl rfl) (pmk_oex Y.cl Y.ini Y.ty Y.ok hr2 Y.bi .nil pass0 (by rfl) Y.gl (pa_cons pe_str pa_nil))))
      pss_nil)
    (pss_cons (ps_fld (pv 0) (pv 1) rfl)
    (pss_cons (ps_fld (pv 0) (pe_fld (pv 5) rfl) rfl)
    (pss_cons (ps_fld (pv 0) (pe_callTy call_tupS (by rfl) z_tuple (by decide +kernel) (pa_cons (pv 3) pa_nil)) rfl)
    (pss_one (ps_fld (pv 0) (pv 4) rfl))))))))), ?_⟩
    unfold pw at q1 q0
    refine ⟨_, rfl, kv, _, rfl, fk.odd, ?_⟩
    cases ek : kindV kv with
    | false =>
      rw [ek] at q0
      exact ⟨_, rfl, iteT (raise_st (Same.refl _) (q0 _ rfl))⟩
    | true =>
    rw [ek, if_pos rfl] at q1 q0
    refine ⟨_, rfl, iteF ?_⟩
    refine ⟨_, rfl, nv, xs, o, rfl, nm, fun c eo H1 px pdx tn s1 hp ht => ?_, fun eo H1 d nd hd s1 => ?_⟩
    rotate_left
    · subst eo
      exact q0 _ rfl H1 d nd hd s1
    subst eo
    refine ⟨_, rfl, lv, ls, b, rfl, lvv.same s1, fun eb H2 s2 => ?_, fun eb H2 d nd hd s2 => ?_⟩
    rotate_left
    · subst eb
      exact q0 _ rfl H2 d (none_of s1 nd) hd (s1.trans s2)
    subst eb
    refine ⟨_, rfl, mv, rfl, fm, ?_⟩
    cases em : wholeV mv 0 1000 with
    | false =>
      rw [em] at q0
      exact ⟨_, rfl, iteT (raise_st (s1.trans s2) (q0 _ rfl))⟩
    | true =>
    rw [em] at q1
    have s12 := s1.trans s2
    have hx2 := s12 _ _ hx
    refine ⟨_, rfl, iteF ?_⟩
    have hp2 := s2 _ _ hp
    have ht2 := s2 _ _ ht
    obtain ⟨a, rfl, ha⟩ := (lvv.same s12).sq rfl
    have px_x : px ≠ x := ne_of hp2 hx2 (by intro z; cases z)
    have tn_x : tn ≠ x := ne_of ht2 hx2 (by intro z; cases z)
    have F0 : Fs H2 H2 x CQ dx [] := ⟨hx2, fun z u e _ => e⟩
    refine ⟨_, rfl, _, rfl, x, CQ, dx, _, rfl, hx2, T.cl, T.nK, by decide, ?_⟩
    have F1 := F0.put (fs' := putF "kind" kv [])
    refine ⟨_, rfl, px, CP, pdx, _, _, rfl, F1.kp _ _ hp2 px_x, TP.cl, TP.nE, rfl, _, rfl, x, CQ, dx, _, rfl, F1.hx, T.cl, T.nN, (show 1 < 1000 by decide), ?_⟩
    have F2 := F1.put (fs' := putF "names" (.ref tn) (putF "kind" kv []))
    refine ⟨_, rfl, a, ls, rfl, F2.sq ha hx2, fun H3 tl s3 htl => ?_⟩
    have F3 := F2.same s3
    have tl_x : tl ≠ x := ne_of htl F3.hx (by intro z; cases z)
    refine ⟨_, rfl, x, CQ, dx, _, rfl, F3.hx, T.cl, T.nL, (show 2 < 1000 by decide), ?_⟩
    have F4 := F3.put (fs' := putF "lives" (.ref tl) (putF "names" (.ref tn) (putF "kind" kv [])))
    refine ⟨_, rfl, _, rfl, x, CQ, dx, _, rfl, F4.hx, T.cl, T.nM, (show 3 < 1000 by decide), ?_⟩
    have F5 := F4.put (fs' := psO kv tn tl mv)
    exact q1 rfl _ tn tl F5.hx (F5.kp _ _ ht2 tn_x) ((upd_ne tl_x).trans ((upd_ne tl_x).trans htl)) fun z u e ne => F5.kp _ _ (s12 _ _ e) ne
end
end K35

/-! data: what is equal -/
namespace K35
open PySem PySem.Spec PyProof.Rows L2
def dOf : V → PyData
  | .bl b => .bool b
  | .int i => .int i
  | .str x => .str x
  | _ => .none
def dsOf (xs : List V) : List PyData := xs.map dOf
theorem Fl.dp {K : PySem.W.Frag} {H : Hp} {v : V} (f : Fl v) : Dp K H v (dOf v) := by
  cases f with
  | non => exact .non
  | bl b => exact .bl b
  | int i => exact .int i
  | str x _ _ => exact .str x
theorem dp_flat {K : PySem.W.Frag} {H : Hp} : ∀ {xs : List V}, (∀ x ∈ xs, Fl x) → DpAll K H xs (dsOf xs)
  | [], _ => .nil
  | x :: xs, h => .cons (h x List.mem_cons_self).dp (dp_flat fun y hy => h y (List.mem_cons_of_mem _ hy))
theorem Fl.lay {v : V} (f : Fl v) : (dOf v).canLay0 = true := by
  cases f with
  | str x _ h => exact h
  | _ => rfl
theorem Fl.deep {v : V} (f : Fl v) : (dOf v).depth = 0 := by cases f <;> rfl
theorem lay_flat : ∀ {xs : List V}, (∀ x ∈ xs, Fl x) → PyData.canLayAll0 (dsOf xs) = true
  | [], _ => rfl
  | x :: xs, h => Bool.and_eq_true_iff.mpr ⟨(h x List.mem_cons_self).lay, lay_flat fun y hy => h y (List.mem_cons_of_mem _ hy)⟩
theorem deep_flat : ∀ {xs : List V}, (∀ x ∈ xs, Fl x) → PyData.depthAll (dsOf xs) = 0
  | [], _ => rfl
  | x :: xs, h => by
    show max (dOf x).depth (PyData.depthAll (dsOf xs)) = 0
    rw [(h x List.mem_cons_self).deep, deep_flat fun y hy => h y (List.mem_cons_of_mem _ hy)]
    rfl
theorem shaped_tup {xs : List V} (h : ∀ x ∈ xs, Fl x) : SeqAt.shaped (.tuple (dsOf xs)) = true := by
  refine Bool.and_eq_true_iff.mpr ⟨lay_flat h, decide_eq_true ?_⟩
  show PyData.depthAll (dsOf xs) + 1 ≤ 64
  rw [deep_flat h]
  decide
theorem shaped_lst {xs : List V} (h : ∀ x ∈ xs, Fl x) : SeqAt.shaped (.list (dsOf xs)) = true := by
  refine Bool.and_eq_true_iff.mpr ⟨lay_flat h, decide_eq_true ?_⟩
  show PyData.depthAll (dsOf xs) + 1 ≤ 64
  rw [deep_flat h]
  decide
mutual
/-- no bool, no dict in it -/
def plainD : PyData → Bool
  | .none => true
  | .int _ => true
  | .str _ => true
  | .list xs => plainAll xs
  | .tuple xs => plainAll xs
  | _ => false
def plainAll : List PyData → Bool
  | [] => true
  | x :: xs => plainD x && plainAll xs
end
mutual
theorem eqv_plain : ∀ (d e : PyData), plainD d = true → plainD e = true → (PyData.eqv d e = true ↔ d = e)
  | .none, e, _, h => by cases e <;> first | exact ⟨fun _ => rfl, fun _ => rfl⟩ | exact ⟨fun z => (by cases z), fun z => (by cases z)⟩
  | .int i, e, _, h => by
    cases e with
    | int j => exact ⟨fun z => congrArg PyData.int (beq_iff_eq.mp z), fun z => (by cases z; exact beq_self_eq_true i)⟩
    | bool b => cases h
    | _ => exact ⟨fun z => (by cases z), fun z => (by cases z)⟩
  | .str x, e, _, h => by
    cases e with
    | str y => exact ⟨fun z => congrArg PyData.str (beq_iff_eq.mp z), fun z => (by cases z; exact beq_self_eq_true x)⟩
    | _ => exact ⟨fun z => (by cases z), fun z => (by cases z)⟩
  | .list xs, e, hd, h => by
    cases e with
    | list ys => exact ⟨fun z => congrArg PyData.list ((eqvAll_plain xs ys hd h).mp z), fun z => (by cases z; exact (eqvAll_plain xs xs hd h).mpr rfl)⟩
    | _ => exact ⟨fun z => (by cases z), fun z => (by cases z)⟩
  | .tuple xs, e, hd, h => by
    cases e with
    | tuple ys => exact ⟨fun z => congrArg PyData.tuple ((eqvAll_plain xs ys hd h).mp z), fun z => (by cases z; exact (eqvAll_plain xs xs hd h).mpr rfl)⟩
    | _ => exact ⟨fun z => (by cases z), fun z => (by cases z)⟩
  | .bool _, _, h, _ => by cases h
  | .dict _, _, h, _ => by cases h
theorem eqvAll_plain : ∀ (xs ys : List PyData), plainAll xs = true → plainAll ys = true → (PyData.eqvAll xs ys = true ↔ xs = ys)
  | [], [], _, _ => ⟨fun _ => rfl, fun _ => rfl⟩
  | [], _ :: _, _, _ => ⟨fun z => (by cases z), fun z => (by cases z)⟩
  | _ :: _, [], _, _ => ⟨fun z => (by cases z), fun z => (by cases z)⟩
  | x :: xs, y :: ys, h1, h2 => by
    obtain ⟨a1, a2⟩ := Bool.and_eq_true_iff.mp (show (plainD x && plainAll xs) = true from h1)
    obtain ⟨b1, b2⟩ := Bool.and_eq_true_iff.mp (show (plainD y && plainAll ys) = true from h2)
    have e1 := eqv_plain x y a1 b1
    have e2 := eqvAll_plain xs ys a2 b2
    refine ⟨fun z => ?_, fun z => ?_⟩
    · obtain ⟨z1, z2⟩ := Bool.and_eq_true_iff.mp (show (PyData.eqv x y && PyData.eqvAll xs ys) = true from z)
      rw [e1.mp z1, e2.mp z2]
    · injection z with z1 z2
      exact Bool.and_eq_true_iff.mpr ⟨e1.mpr z1, e2.mpr z2⟩
end
theorem eqv_refl {d : PyData} (h : plainD d = true) : PyData.eqv d d = true := (eqv_plain d d h h).mpr rfl
theorem eqv_ne {d e : PyData} (h1 : plainD d = true) (h2 : plainD e = true) (ne : d ≠ e) : PyData.eqv d e = false := by
  cases z : PyData.eqv d e with
  | false => rfl
  | true => exact absurd ((eqv_plain d e h1 h2).mp z) ne
/-- non, whole numbers, texts -/
def plainV : V → Bool
  | .non => true
  | .int _ => true
  | .str _ => true
  | _ => false
theorem plain_ds : ∀ {xs : List V}, xs.all plainV = true → plainAll (dsOf xs) = true
  | [], _ => rfl
  | x :: xs, h => by
    obtain ⟨h1, h2⟩ := Bool.and_eq_true_iff.mp (show (plainV x && xs.all plainV) = true from h)
    refine Bool.and_eq_true_iff.mpr ⟨?_, plain_ds h2⟩
    cases x with
    | non => rfl
    | int i => rfl
    | str z => rfl
    | _ => cases h1
theorem dsOf_inj : ∀ {xs ys : List V}, xs.all plainV = true → ys.all plainV = true → dsOf xs = dsOf ys → xs = ys
  | [], [], _, _, _ => rfl
  | [], _ :: _, _, _, h => by cases h
  | _ :: _, [], _, _, h => by cases h
  | x :: xs, y :: ys, h1, h2, h => by
    obtain ⟨a1, a2⟩ := Bool.and_eq_true_iff.mp (show (plainV x && xs.all plainV) = true from h1)
    obtain ⟨b1, b2⟩ := Bool.and_eq_true_iff.mp (show (plainV y && ys.all plainV) = true from h2)
    injection (show dOf x :: dsOf xs = dOf y :: dsOf ys from h) with e1 e2
    rw [dsOf_inj a2 b2 e2]
    congr 1
    cases x <;> cases y <;> first | rfl | (cases a1; done) | (cases b1; done) | (cases e1; rfl) | (cases e1; done)
end K35

/-! equal states of persons -/
namespace K35
open PySem PySem.Spec PyProof.Rows L2
abbrev sPEq : Stmt := inClass (top 27) 1
/-- data that can be compared -/
structure Dat (K : PySem.W.Frag) (H : Hp) (v : V) (d : PyData) : Prop where
  dp : Dp K H v d
  sh : SeqAt.shaped d = true
def PAt (K : PySem.W.Frag) (CQ : Addr) (H : Hp) (a : Addr) (k : Str) (dn dl : PyData) (m : Int) : Prop :=
  ∃ dx tn tl, H a = some (.ins CQ dx (psO (.str k) tn tl (.int m))) ∧ Dat K H (.ref tn) dn ∧ Dat K H (.ref tl) dl
def spPEq (K : PySem.W.Frag) (CQ : Addr) : Sp := fun vs H Q _ => ∃ (a : Addr) (y : V) (k : Str) (dn dl : PyData) (m : Int), vs = [.ref a, y] ∧ PAt K CQ H a k dn dl m ∧
  ((∃ (b : Addr) (k2 : Str) (en el : PyData) (m2 : Int), y = .ref b ∧ PAt K CQ H b k2 en el m2 ∧ Q (.bl (decide (V.str k = V.str k2) && (PyData.eqv dn en && (PyData.eqv dl el && decide (V.int m = V.int m2))))) H) ∨
   (∃ (b : Addr) (us : List V), y = .ref b ∧ H b = some (.tup us) ∧ Q (.bl false) H))
section
variable {P : Program} {w : World} {K : PySem.W.Frag} {mg : Str → Option Value} {base : Heap}
theorem scPEq : FnScope ["self", "other"] ["self", "other"] (defScope sPEq) := ⟨rfl, rfl, rfl, by decide +kernel, rfl, by decide +kernel, by decide +kernel⟩
theorem ok_peq {f CQ : Addr} {fd : FuncData} (F : FunD K "__eq__" "PersonState.__eq__" (defArgs sPEq) (defBody sPEq) (defScope sPEq) [] [] f fd) (T : PsC K CQ) (z_type : mg "type" = none) : FnOk P w K mg base CX0 1 f fd ["self", "other"] (spPEq K CQ) := by
  refine F.ok scPEq (fun vs H Q E h => ?_) (fun cdv A outer s H vs Q E hr h => ?_)
  · obtain ⟨a, y, k, dn, dl, m, rfl, _⟩ := h
    rfl
  · obtain ⟨a, y, k, dn, dl, m, rfl, ⟨dx, tn, tl, ha, n1, l1⟩, h⟩ := h
    refine ⟨_, PSs.nox (pss_one (ps_ret (pe_and (pe_cmpR op_is2 (pe_callTy cr_type2 (by rfl) z_type (by decide +kernel) (pa_cons (pv 0) pa_nil)) (pe_callTy cr_type2 (by rfl) z_type (by decide +kernel) (pa_cons (pv 1) pa_nil)) (nomark _)) (pe_and (pe_cmpR op_eq (pe_fld (pv 0) rfl) (pe_fld (pv 1) rfl) (nomark _)) (pe_and (pe_cmpR (op_eqD hr.units) (pe_fld (pv 0) rfl) (pe_fld (pv 1) rfl) (nomark _)) (pe_and (pe_cmpR (op_eqD hr.units) (pe_fld (pv 0) rfl) (pe_fld (pv 1) rfl) (nomark _)) (pe_one (pe_cmpR op_eq (pe_fld (pv 0) rfl) (pe_fld (pv 1) rfl) (nomark _))))))))), ?_⟩
    rcases h with ⟨b, k2, en, el, m2, rfl, ⟨dy, tn2, tl2, hb, n2, l2⟩, q⟩ | ⟨b, us, rfl, hb, q⟩
    · refine ⟨_, rfl, _, rfl, .inl ⟨a, CQ, dx, _, rfl, ha, _, rfl, _, rfl, .inl ⟨b, CQ, dy, _, rfl, hb, CQ, rfl, .inl ⟨rfl, ?_⟩⟩⟩⟩
      refine ⟨_, rfl, iteT ?_⟩
      refine ⟨_, rfl, a, CQ, dx, _, _, rfl, ha, T.cl, T.nK, rfl, _, rfl, b, CQ, dy, _, _, rfl, hb, T.cl, T.nK, rfl, rfl, _, rfl, ?_⟩
      cases e1 : decide (V.str k = V.str k2) with
      | false =>
        rw [e1, Bool.false_and] at q
        exact iteF q
      | true =>
      rw [e1, Bool.true_and] at q
      refine iteT ⟨_, rfl, a, CQ, dx, _, _, rfl, ha, T.cl, T.nN, rfl, _, rfl, b, CQ, dy, _, _, rfl, hb, T.cl, T.nN, rfl, _, _, n1.dp, n2.dp, n1.sh, n2.sh, _, rfl, ?_⟩
      cases e2 : PyData.eqv dn en with
      | false =>
        rw [e2, Bool.false_and] at q
        exact iteF q
      | true =>
      rw [e2, Bool.true_and] at q
      refine iteT ⟨_, rfl, a, CQ, dx, _, _, rfl, ha, T.cl, T.nL, rfl, _, rfl, b, CQ, dy, _, _, rfl, hb, T.cl, T.nL, rfl, _, _, l1.dp, l2.dp, l1.sh, l2.sh, _, rfl, ?_⟩
      cases e3 : PyData.eqv dl el with
      | false =>
        rw [e3, Bool.false_and] at q
        exact iteF q
      | true =>
      rw [e3, Bool.true_and] at q
      exact iteT ⟨_, rfl, a, CQ, dx, _, _, rfl, ha, T.cl, T.nM, rfl, _, rfl, b, CQ, dy, _, _, rfl, hb, T.cl, T.nM, rfl, rfl, q⟩
    · refine ⟨_, rfl, _, rfl, .inl ⟨a, CQ, dx, _, rfl, ha, _, rfl, _, rfl, .inr ⟨b, us, rfl, hb, CQ, rfl, .inr (.inr ⟨_, rfl, ?_⟩)⟩⟩⟩
      exact ⟨_, rfl, iteF q⟩
end
end K35

/-! the state of a couple is made, or refused -/
namespace K35
open PySem PySem.Spec PyProof.Rows L2 L2H
abbrev sCSInit : Stmt := inClass (top 28) 0
abbrev sCount : Stmt := inClass (top 15) 2
/-- a list or a tuple, in the heap or in the written part -/
def SqK (K : PySem.W.Frag) (H : Hp) (a : Addr) (xs : List V) : Prop := Sq H a xs ∨ (∃ (o : Obj) (its : Array Value) (n : Nat), K.lookup a = some o ∧ o.cls = .type "tuple" ∧ o.data = .seq its n ∧ its.size ≤ sizeLine ∧ Vals xs its.toList)
theorem SqK.same {K : PySem.W.Frag} {H H' : Hp} {a : Addr} {xs : List V} (h : SqK K H a xs) (s : Same H H') : SqK K H' a xs := h.elim (fun h => .inl (h.same s)) .inr
theorem SqK.or {K : PySem.W.Frag} {H : Hp} {a : Addr} {xs : List V} (h : SqK K H a xs) : SqL K H a xs ∨ SqT K H a xs := h.elim Sq.or fun h => .inr (.inr h)
def rTupK (K : PySem.W.Frag) : List V → Hp → VK → Prop := fun vs H Q => ∃ (a : Addr) (xs : List V), vs = [.ref a] ∧ SqK K H a xs ∧ ∀ (H2 : Hp) (t : Addr), Same H H2 → SqT K H2 t xs → Q (.ref t) H2
theorem call_tupK {X : Cx} : CallR X (.type "tuple") (rTupK X.K) := fun pins s σ H vs us Q I r h => by
  obtain ⟨a, xs, rfl, hS, k⟩ := h
  refine call_tuple_of pins s σ H _ us Q I r ⟨a, xs, rfl, ?_⟩
  rcases hS with (h | h) | h
  · exact .inl ⟨SqL.of h, fun l nl => k _ l (same_upd nl) (SqT.of upd_same)⟩
  · exact .inr ⟨SqT.of h, k H a (Same.refl _) (SqT.of h)⟩
  · exact .inr ⟨.inr h, k H a (Same.refl _) (.inr h)⟩
def rIxK (K : PySem.W.Frag) : R2 := fun x y H Q => ∃ (a : Addr) (xs : List V) (i : Nat) (v : V), x = .ref a ∧ y = .int (i : Int) ∧ SqK K H a xs ∧ xs[i]? = some v ∧ Q v H
theorem ix_sqk {X : Cx} : IxR X (rIxK X.K) := fun value slice pins s σ H x y v u Q I rx ry h hs => by
  obtain ⟨a, xs, i, z, ex, ey, hS, hg, q⟩ := h
  exact hS.or.elim (fun e => ix_list value slice pins s σ H x y v u Q I rx ry ⟨a, xs, i, z, ex, ey, e, atI_nat hg, q⟩ hs) fun e => ix_tup value slice pins s σ H x y v u Q I rx ry ⟨a, xs, i, z, ex, ey, e, atI_nat hg, q⟩ hs
/-- is it a sequence, also of a tuple of the written part -/
def spSeq2 (K : PySem.W.Frag) : Sp := fun vs H Q E => spSeq vs H Q E ∨ ∃ (a : Addr) (xs : List V), vs = [.ref a] ∧ SqK K H a xs ∧ ∀ p, H p = none → Q (.bl true) (upd H p (.tup [.ty "list", .ty "tuple"]))
def mkOk (xs : List V) : Bool := match xs with
  | [x, y] => wholeV x 0 1000 && wholeV y 0 1000
  | _ => false
inductive Ms (K : PySem.W.Frag) (H : Hp) : V → List V → Bool → Prop where
  | seq {a : Addr} {xs : List V} (h : SqK K H a xs) (hl : xs.length ≤ 1000) (fl : ∀ x ∈ xs, Fl x) : Ms K H (.ref a) xs (mkOk xs)
  | bad {v : V} {t : String} (o : Odd H v t) (ns : seqT t = false) : Ms K H v [] false
theorem Ms.same {K : PySem.W.Frag} {H H' : Hp} {v : V} {xs : List V} {b : Bool} (n : Ms K H v xs b) (s : Same H H') : Ms K H' v xs b := by
  cases n with
  | seq h hl fl => exact .seq (h.same s) hl fl
  | bad o ns => exact .bad (o.same s) ns
/-- the first word against a couple's state -/
def cw (o : Option Nat) (b : Bool) (sv dv : V) (b2 b3 : Bool) : Option Str :=
  match o with
  | none => some "names"
  | some _ => if b = true then (if (wholeV sv 0 3 && wholeV dv 0 3) = true then (if b2 = true then (if b3 = true then none else some "marks") else some "borne") else some "numbers") else some "lives"
structure CsC (K : PySem.W.Frag) (CC : Addr) : Prop where
  cl : Cls K CC
  n1 : NoAttr K CC "names"
  n2 : NoAttr K CC "lives"
  n3 : NoAttr K CC "sons"
  n4 : NoAttr K CC "daughters"
  n5 : NoAttr K CC "borne"
  n6 : NoAttr K CC "marks"
  n7 : NoAttr K CC "classes"
  n8 : NoAttr K CC "is_new"
abbrev csO (tn tl : Addr) (sv dv : V) (tb tm : Addr) (c : Nat) (nw : Bool) : List (Str × V) :=
  [("names", .ref tn), ("lives", .ref tl), ("sons", sv), ("daughters", dv), ("borne", .ref tb), ("marks", .ref tm), ("classes", .int c), ("is_new", .bl nw)]
/-- a tuple of tuples -/
def TT (H : Hp) (tb : Addr) (ps : List (List V)) : Prop := ∃ ts : List Addr, H tb = some (.tup (ts.map V.ref)) ∧ ts.length = ps.length ∧ ∀ (j : Nat) (t : Addr), ts[j]? = some t → ∃ ys, ps[j]? = some ys ∧ H t = some (.tup ys)
def newOf (sv dv : V) (ps : List (List V)) : Bool := decide (sv = .int 0) && (decide (dv = .int 0) && ps.all fun ys => !decide (0 < intV (ys.getD 1 .non)))
def spCS (K : PySem.W.Frag) (CC CS : Addr) : Sp := fun vs H Q E => ∃ (x dx : Addr) (nv lv sv dv bv mv : V) (xs ls qs : List V) (o : Option Nat) (b b2 b3 : Bool) (ms : List (Option (List V))), vs = [.ref x, nv, lv, sv, dv, bv, mv] ∧ H x = some (.ins CC dx []) ∧
  Nm H nv xs o ∧ Lv H lv ls b ∧ Fl sv ∧ Fl dv ∧ Bo H bv (o.getD 0) ms b2 ∧ Ms K H mv qs b3 ∧
  (∀ c, o = some c → cw o b sv dv b2 b3 = none → ∀ (H' : Hp) (tn tl tb tm : Addr) (ps : List (List V)), ms = ps.map some → H' x = some (.ins CC dx (csO tn tl sv dv tb tm c (newOf sv dv ps))) → H' tn = some (.tup xs) → H' tl = some (.tup ls) → TT H' tb ps → SqT K H' tm qs →
    (∀ z u, H z = some u → z ≠ x → H' z = some u) → Q .non H') ∧
  (∀ z, cw o b sv dv b2 b3 = some z → ∀ (H' : Hp) (d : Addr), H d = none → H' d = some (.xd (stF z)) → Same H H' → E (.ref CS) (some d) H')
theorem bOk_some : ∀ {ms : List (Option (List V))} {c : Nat} {l : Int}, bOk c l ms = true → ∃ ps : List (List V), ms = ps.map some ∧ ∀ ys ∈ ps, ∃ i j : Int, ys = [.int i, .int j]
  | [], _, _, _ => ⟨[], rfl, fun _ h => by cases h⟩
  | none :: _, _, _, h => by cases h
  | some ys :: r, c, l, h => by
    match ys, h with
    | [x, y], h =>
      obtain ⟨h1, h2⟩ := Bool.and_eq_true_iff.mp (show ((wholeV x l c && wholeV y 0 2) && bOk c (intV x + 1) r) = true from h)
      obtain ⟨h3, h4⟩ := Bool.and_eq_true_iff.mp h1
      obtain ⟨i, rfl⟩ := whole_int h3
      obtain ⟨j, rfl⟩ := whole_int h4
      obtain ⟨ps, e, k⟩ := bOk_some h2
      refine ⟨[.int i, .int j] :: ps, by rw [e]; rfl, fun zs hz => ?_⟩
      rcases List.mem_cons.mp hz with rfl | hz
      · exact ⟨i, j, rfl⟩
      · exact k zs hz
    | [], h => cases h
    | [_], h => cases h
    | _ :: _ :: _ :: _, h => cases h
theorem Bo.ok {H : Hp} {v : V} {c : Nat} {ms : List (Option (List V))} {b : Bool} (n : Bo H v c ms b) (e : b = true) : ∃ (a : Addr) (xs : List V) (ps : List (List V)), v = .ref a ∧ Sq H a xs ∧ xs.length ≤ 1000 ∧ PIs H xs ms ∧ ms = ps.map some ∧ ∀ ys ∈ ps, ∃ i j : Int, ys = [.int i, .int j] := by
  cases n with
  | seq h hl hm =>
    obtain ⟨ps, e1, k⟩ := bOk_some e
    exact ⟨_, _, ps, rfl, h, hl, hm, e1, k⟩
  | bad o ns => cases e
theorem Ms.ok {K : PySem.W.Frag} {H : Hp} {v : V} {qs : List V} {b : Bool} (n : Ms K H v qs b) (e : b = true) : ∃ a, v = .ref a ∧ SqK K H a qs := by
  cases n with
  | seq h hl fl => exact ⟨_, rfl, h⟩
  | bad o ns => cases e
theorem PIs.at_ {H : Hp} {xs : List V} {ps : List (List V)} (p : PIs H xs (ps.map some)) {i : Nat} {v : V} (e : xs[i]? = some v) : ∃ a ys, v = .ref a ∧ ps[i]? = some ys ∧ Sq H a ys := by
  obtain ⟨m, h1, h2⟩ := p.2 i v e
  rw [List.getElem?_map] at h1
  cases ep : ps[i]? with
  | none => rw [ep] at h1; cases h1
  | some ys =>
    rw [ep] at h1
    have em : some ys = m := Option.some.inj h1
    subst em
    cases h2 with
    | seq h _ _ => exact ⟨_, ys, rfl, rfl, h⟩
theorem map_ref_at {ts : List Addr} {i : Nat} {v : V} (e : (ts.map V.ref)[i]? = some v) : ∃ t, ts[i]? = some t ∧ v = .ref t := by
  rw [List.getElem?_map] at e
  cases h : ts[i]? with
  | none => rw [h] at e; cases e
  | some t =>
    rw [h] at e
    exact ⟨t, rfl, (Option.some.inj e).symm⟩
/-- the number of classes -/
structure CountP (P : Program) (w : World) (K : PySem.W.Frag) (mg : Str → Option Value) (base : Heap) (CP p g : Addr) (fd : FuncData) : Prop where
  pr : PropOf K CP "class_count" p g
  ok : FnOk P w K mg base CX0 1 g fd ["self"] (getSp CP "_classes")
  bi : Binds K fd ["self"] []
section
variable {P : Program} {w : World} {K : PySem.W.Frag} {mg : Str → Option Value} {base : Heap}
theorem ok_seq2 {f : Addr} {fd : FuncData} (F : FnP K "is_sequence" sPIsSequence f fd) (zl : mg "list" = none) (zt : mg "tuple" = none) (zs : mg "isinstance" = none) : FnOk P w K mg base CX0 1 f fd ["thing"] (spSeq2 K) := by
  refine F.ok scSeq (fun vs H Q E h => ?_) (fun cdv A outer s H vs Q E hr h => ?_)
  · rcases h with ⟨v, t, rfl, _⟩ | ⟨a, xs, rfl, _⟩ <;> rfl
  · rcases h with ⟨v, t, rfl, o, q⟩ | ⟨a, xs, rfl, hS, q⟩
    · refine ⟨_, PSs.nox (pss_one (ps_ret (pe_callB call_isiT (by rfl) zs (by decide +kernel) (pa_cons (pv 0) (pa_cons (pe_tup (pa_cons (pe_bltn (by rfl) zl (by decide +kernel) (v := .ty "list") rfl) (pa_cons (pe_bltn (by rfl) zt (by decide +kernel) (v := .ty "tuple") rfl) pa_nil))) pa_nil))))), ?_⟩
      refine ⟨_, rfl, (by show 2 ≤ sizeLine; decide), fun p np => ⟨_, p, _, _, [.type "list", .type "tuple"], seqT t, rfl, upd_same, .cons (.ty _) (.cons (.ty _) .nil), (o.same (same_upd np)).ty, ?_, q p np⟩⟩
      cases o with
      | tup _ => exact kit_seq (b1 := false) (b2 := true) (by decide +kernel) (by decide +kernel) (by decide +kernel)
      | lst _ => exact kit_seq (b1 := true) (b2 := false) (by decide +kernel) (by decide +kernel) (by decide +kernel)
      | _ => exact kit_seq (b1 := false) (b2 := false) (by decide +kernel) (by decide +kernel) (by decide +kernel)
    · refine ⟨_, PSs.nox (pss_one (ps_ret (pe_callB call_isiT (by rfl) zs (by decide +kernel) (pa_cons (pv 0) (pa_cons (pe_tup (pa_cons (pe_bltn (by rfl) zl (by decide +kernel) (v := .ty "list") rfl) (pa_cons (pe_bltn (by rfl) zt (by decide +kernel) (v := .ty "tuple") rfl) pa_nil))) pa_nil))))), ?_⟩
      rcases hS with (h | h) | ⟨o, its, n, h, hc, _⟩
      · refine ⟨_, rfl, (by show 2 ≤ sizeLine; decide), fun p np => ⟨_, p, _, .type "list", [.type "list", .type "tuple"], true, rfl, upd_same, .cons (.ty _) (.cons (.ty _) .nil), .base (.lst (same_upd np _ _ h)), ?_, q p np⟩⟩
        exact kit_seq (b1 := true) (b2 := false) (by decide +kernel) (by decide +kernel) (by decide +kernel)
      · refine ⟨_, rfl, (by show 2 ≤ sizeLine; decide), fun p np => ⟨_, p, _, .type "tuple", [.type "list", .type "tuple"], true, rfl, upd_same, .cons (.ty _) (.cons (.ty _) .nil), .base (.tup (same_upd np _ _ h)), ?_, q p np⟩⟩
        exact kit_seq (b1 := false) (b2 := true) (by decide +kernel) (by decide +kernel) (by decide +kernel)
      · refine ⟨_, rfl, (by show 2 ≤ sizeLine; decide), fun p np => ⟨_, p, _, .type "tuple", [.type "list", .type "tuple"], true, rfl, upd_same, .cons (.ty _) (.cons (.ty _) .nil), .kTuple h hc, ?_, q p np⟩⟩
        exact kit_seq (b1 := false) (b2 := true) (by decide +kernel) (by decide +kernel) (by decide +kernel)
theorem ok_count {f CP : Addr} {fd : FuncData} (F : FunD K "class_count" "Pattern.class_count" (defArgs sCount) (defBody sCount) (defScope sCount) [] [] f fd) (T : PatC K CP) : FnOk P w K mg base CX0 1 f fd ["self"] (getSp CP "_classes") := by
  have sc : FnScope ["self"] ["self"] (defScope sCount) := ⟨rfl, rfl, rfl, by decide +kernel, rfl, by decide +kernel, by decide +kernel⟩
  refine F.ok sc (fun vs H Q E h => ?_) (fun cdv A outer s H vs Q E hr h => ?_)
  · obtain ⟨a, dx, fs, v, rfl, _⟩ := h
    rfl
  · obtain ⟨a, dx, fs, v, rfl, ea, l, q⟩ := h
    refine ⟨_, PSs.nox (pss_one (ps_ret (pe_fld (pv 0) rfl))), ?_⟩
    exact ⟨_, rfl, a, CP, dx, fs, v, rfl, ea, T.cl, T.nC, l, q⟩
abbrev nmCS : List Str := ["self", "names", "lives", "sons", "daughters", "borne", "marks", "pattern", "pair", "given", "_", "mark"]
theorem scCS : FnScope nmCS ["self", "names", "lives", "sons", "daughters", "borne", "marks"] (defScope sCSInit) := ⟨rfl, rfl, rfl, by decide +kernel, rfl, by decide +kernel, by decide +kernel⟩
theorem ok_cs {f fD fW fO fL fB fM fS fG CC CP CS pG : Addr} {fd fdD fdW fdO fdL fdB fdM fdS fdG : FuncData} {dvs : List V} (F : FunD K "__init__" "CoupleState.__init__" (defArgs sCSInit) (defBody sCSInit) (defScope sCSInit) dvs [] f fd) (T : CsC K CC) (TP : PatC K CP) (z_tuple : mg "tuple" = none) (z_len : mg "len" = none)
    (g_MOST_NUMBER : ∃ t, mg "MOST_NUMBER" = some (.int 3 t)) (g_NEVER_BORNE : ∃ t, mg "NEVER_BORNE" = some (.int 0 t)) (PR : CountP P w K mg base CP pG fG fdG)
    (dS : Df P w K mg base "is_sequence" 1 ["thing"] (spSeq2 K) fD fdD) (dW : Df P w K mg base "is_whole" 1 ["thing", "low", "high"] spWhole fW fdW) (dO : DfX P w K mg base "_pattern_of" 5 ["names"] (spPO CP CS) fO fdO) (dL : DfX P w K mg base "_check_lives" 3 ["lives"] (spLv CS) fL fdL)
    (dB : DfX P w K mg base "_check_borne" 3 ["borne", "classes"] (spBo CS) fB fdB) (dM : Df P w K mg base "is_mark" 2 ["thing"] spMark fM fdM)
    (Y : ErrH P w K mg base "BadState" ["self", "what"] spStErr CS fS fdS) : FnOk P w K mg base (L2.CX P w) 6 f fd ["self", "names", "lives", "sons", "daughters", "borne", "marks"] (spCS K CC CS) := by
  obtain ⟨t1, g_MOST_NUMBER⟩ := g_MOST_NUMBER
  obtain ⟨t2, g_NEVER_BORNE⟩ := g_NEVER_BORNE
  refine F.ok scCS (fun vs H Q E h => ?_) (fun cdv A outer s H vs Q E hr5 h => ?_)
  · obtain ⟨x, dx, nv, lv, sv, dv, bv, mv, xs, ls, qs, o, b, b2, b3, ms, rfl, _⟩ := h
    rfl
  · obtain ⟨x, dx, nv, lv, sv, dv, bv, mv, xs, ls, qs, o, b, b2, b3, ms, rfl, hx, nm, lvv, fs, fd, bo, mk, q1, q0⟩ := h
    have hr1 := hr5.mono (show 1 ≤ 5 by decide)
    have hr2 := hr5.mono (show 2 ≤ 5 by decide)
    have hr3 := hr5.mono (show 3 ≤ 5 by decide)
    refine ⟨_, (pss_cons (ps_set (i := 7) scCS.nd rfl (.inl rfl) (pe_callS dO.ok hr5 (by rfl) dO.gl dO.kp dO.bi (fun σ => passAt (takes_of rfl rfl rfl rfl) σ) (pa_cons (pv 1) pa_nil)))
    (pss_cons (ps_expr (pe_callS dL.ok hr3 (by rfl) dL.gl dL.kp dL.bi (fun σ => passAt (takes_of rfl rfl rfl rfl) σ) (pa_cons (pv 2) pa_nil)))
    (pss_cons (ps_if (PW.pt (pw_or (pt_not (pt_val (pe_call dW.ok hr1 (by rfl) dW.gl dW.kp dW.bi .nil pass0 (pa_cons (pv 3) (pa_cons pe_int (pa_cons (pe_glob (by rfl) g_MOST_NUMBER (v := .int 3) ⟨_, rfl⟩) pa_nil)))))) (pw_or1 (pt_not (pt_val (pe_call dW.ok hr1 (by rfl) dW.gl dW.kp dW.bi .nil pass0 (pa_cons (pv 4) (pa_cons pe_int (pa_cons (pe_glob (by rfl) g_MOST_NUMBER (v := .int 3) ⟨_, rfl⟩) pa_nil)))))))))
      (pss_one (ps_raise rfl (takes_of rfl rfl rfl rfl) (pmk_oex Y.cl Y.ini Y.ty Y.ok hr2 Y.bi .nil pass0 (by rfl) Y.gl (pa_cons pe_str pa_nil))))
      pss_nil)
    (pss_cons (ps_expr (pe_callS dB.ok hr3 (by rfl) dB.gl dB.kp dB.bi (fun σ => passAt (takes_of rfl rfl rfl rfl) σ) (pa_cons (pv 5) (pa_cons (pe_prop (pv 7) TP.cl PR.pr PR.ok hr2 PR.bi .nil pass0 rfl) pa_nil))))
    (pss_cons (ps_if (PW.pt (pw_or (pt_not (pt_val (pe_call dS.ok hr1 (by rfl) dS.gl dS.kp dS.bi .nil pass0 (pa_cons (pv 6) pa_nil)))) (pw_or (pt_cmpR op_ne (pe_callB call_len_seq (by rfl) z_len boot_len (pa_cons (pv 6) pa_nil)) pe_int (nomark _)) (pw_or (pt_not (pt_val (pe_call dM.ok hr2 (by rfl) dM.gl dM.kp dM.bi .nil pass0 (pa_cons (pe_ix ix_sqk (pv 6) pe_int (fun _ _ => rfl)) pa_nil)))) (pw_or1 (pt_not (pt_val (pe_call dM.ok hr2 (by rfl) dM.gl dM.kp dM.bi .nil pass0 (pa_cons (pe_ix ix_sqk (pv 6) pe_int (fun _ _ => rfl)) pa_nil)))))))))
      (pss_one (ps_raise rfl (takes_of rfl rfl rfl rfl) (pmk_oex Y.cl Y.ini Y.ty Y.ok hr2 Y.bi .nil pass0 (by rfl) Y.gl (pa_cons pe_str pa_nil))))
      pss_nil)
    (pss_cons (ps_fld (pv 0) (pe_fld (pv 7) rfl) rfl)
    (pss_cons (ps_fld (pv 0) (pe_callTy call_tupS (by rfl) z_tuple (by decide +kernel) (pa_cons (pv 2) pa_nil)) rfl)
    (pss_cons (ps_fld (pv 0) (pv 3) rfl)
    (pss_cons (ps_fld (pv 0) (pv 4) rfl)
    (pss_cons (ps_fld (pv 0) (pe_callTy call_tuple_of (by rfl) z_tuple (by decide +kernel) (pa_cons (pe_lc (own := [("pair", 8)]) (g := gName 8) (tt := tYes) rfl scCS.nd (pi_or (pi_list (pv 5)) (pi_tup (pv 5))) (blkOk_by (N := ["self", "names", "lives", "sons", "daughters", "borne", "marks", "pattern", "pair", "given", "_", "mark"]) (sc := defScope sCSInit) (by decide +kernel)) (fun _ _ _ _ _ => pg_name (i := 8) scCS.nd rfl (Or.inl rfl)) (fun _ _ _ _ _ => pts_nil) (fun _ _ _ _ _ => (pe_callTy call_tupS (by rfl) z_tuple (by decide +kernel) (pa_cons (pv 8) pa_nil)))) pa_nil)) rfl)
    (pss_cons (ps_fld (pv 0) (pe_callTy call_tupK (by rfl) z_tuple (by decide +kernel) (pa_cons (pv 6) pa_nil)) rfl)
    (pss_cons (ps_fld (pv 0) (pe_prop (pv 7) TP.cl PR.pr PR.ok hr2 PR.bi .nil pass0 rfl) rfl)
    (pss_cons (ps_setLc (i := 9) (own := [("_", 10), ("mark", 11)]) (g := gTup K 2 (gCons (gName 10) (gCons (gName 11) gNil))) rfl scCS.nd rfl rfl (sw_true rfl rfl rfl (by decide +kernel)) (pi_tup (pe_fld (pv 0) rfl)) (blkOk_by (N := ["self", "names", "lives", "sons", "daughters", "borne", "marks", "pattern", "pair", "given", "_", "mark"]) (sc := defScope sCSInit) (by decide +kernel)) (fun _ _ _ _ _ => pg_tup (by rfl) (pgs_cons (pg_name (i := 10) scCS.nd rfl (Or.inl rfl)) (pgs_cons (pg_name (i := 11) scCS.nd rfl (Or.inl rfl)) pgs_nil))) (fun _ _ _ _ _ => pts_one (pt_cmpR op_gt (pv 11) (pe_glob (by rfl) g_NEVER_BORNE (v := .int 0) ⟨_, rfl⟩) (nomark _))) (fun _ _ _ _ _ => (pv 11)))
    (pss_one (ps_fld (pv 0) (pe_and (pe_cmpR op_eq (pv 3) pe_int (nomark _)) (pe_and (pe_cmpR op_eq (pv 4) pe_int (nomark _)) (pe_one (pe_notT (pv 9))))) rfl))))))))))))))), ?_⟩
    unfold cw at q1 q0
    refine ⟨_, rfl, nv, xs, o, rfl, nm, fun c eo H1 px pdx tn s1 hp ht => ?_, fun eo H1 d nd hd s1 => ?_⟩
    rotate_left
    · subst eo
      exact q0 _ rfl H1 d nd hd s1
    subst eo
    refine ⟨_, rfl, lv, ls, b, rfl, lvv.same s1, fun eb H2 s2 => ?_, fun eb H2 d nd hd s2 => ?_⟩
    rotate_left
    · subst eb
      exact q0 _ rfl H2 d (none_of s1 nd) hd (s1.trans s2)
    subst eb
    have s12 := s1.trans s2
    refine ⟨_, rfl, sv, _, 0, 3, rfl, fs.odd, ?_⟩
    rw [if_pos rfl] at q1 q0
    cases e1 : wholeV sv 0 3 with
    | false =>
      rw [e1, Bool.false_and] at q0
      exact ⟨_, rfl, iteT (raise_st s12 (q0 _ rfl))⟩
    | true =>
    rw [e1, Bool.true_and] at q1 q0
    refine ⟨_, rfl, iteF ?_⟩
    refine ⟨_, rfl, dv, _, 0, 3, rfl, fd.odd, ?_⟩
    cases e2 : wholeV dv 0 3 with
    | false =>
      rw [e2] at q0
      exact ⟨_, rfl, iteT (raise_st s12 (q0 _ rfl))⟩
    | true =>
    rw [e2, if_pos rfl] at q1 q0
    have hp2 := s2 _ _ hp
    have ht2 := s2 _ _ ht
    refine ⟨_, rfl, iteF ?_⟩
    refine ⟨_, rfl, _, rfl, px, pdx, _, rfl, hp2, px, pdx, _, _, rfl, hp2, rfl, bv, c, ms, b2, rfl, bo.same s12, fun eb H3 s3 => ?_, fun eb H3 d nd hd s3 => ?_⟩
    rotate_left
    · subst eb
      exact q0 _ rfl H3 d (none_of s12 nd) hd (s12.trans s3)
    subst eb
    rw [if_pos rfl] at q1 q0
    have s13 := s12.trans s3
    have mk3 := mk.same s13
    cases mk3 with
    | bad o ns =>
      refine ⟨_, rfl, .inl ⟨_, _, rfl, o, fun u nu => ?_⟩⟩
      rw [ns]
      exact ⟨_, rfl, iteT (iteT (raise_st (s13.trans (same_upd nu)) (q0 _ rfl)))⟩
    | @seq am _ hmk hml fl =>
      refine ⟨_, rfl, .inr ⟨am, qs, rfl, hmk, fun u nu => ?_⟩⟩
      have su := same_upd (o := .tup [.ty "list", .ty "tuple"]) nu
      have s14 := s13.trans su
      have hmk4 := hmk.same su
      generalize upd H3 u (.tup [.ty "list", .ty "tuple"]) = H4 at su s14 hmk4 ⊢
      refine ⟨_, rfl, iteF ?_⟩
      refine ⟨_, rfl, _, _, rfl, hmk4.or, rfl, _, rfl, ?_⟩
      have bad : (qs.length : Int) ≠ 2 → mkOk qs = false := fun z => by
        match qs, z with
        | [], _ => rfl
        | [_], _ => rfl
        | [_, _], z => exact absurd rfl z
        | _ :: _ :: _ :: _, _ => rfl
      by_cases two : (qs.length : Int) = 2
      case neg =>
        rw [bad two] at q0
        exact iteSN (fun z => two (V.int.inj z)) (iteT (raise_st s14 (q0 _ rfl)))
      match qs, two, fl, hmk4, q0, q1 with
      | [q, r], _, fl, hmk4, q0, q1 =>
      have fq := fl q List.mem_cons_self
      have fr := fl r (List.mem_cons_of_mem _ List.mem_cons_self)
      have q0' : ∀ z, (if (wholeV q 0 1000 && wholeV r 0 1000) = true then none else some "marks" : Option Str) = some z → ∀ (H' : Hp) (d : Addr), H d = none → H' d = some (.xd (stF z)) → Same H H' → E (.ref CS) (some d) H' := q0
      refine iteNS rfl ?_
      refine ⟨_, rfl, am, _, 0, q, rfl, rfl, hmk4, rfl, q, rfl, fq, ?_⟩
      cases e3 : wholeV q 0 1000 with
      | false =>
        rw [e3] at q0'
        exact ⟨_, rfl, iteT (iteT (raise_st s14 (q0' _ rfl)))⟩
      | true =>
      rw [e3] at q0'
      refine ⟨_, rfl, iteF ?_⟩
      refine ⟨_, rfl, am, _, 1, r, rfl, rfl, hmk4, rfl, r, rfl, fr, ?_⟩
      cases e4 : wholeV r 0 1000 with
      | false =>
        rw [e4] at q0'
        exact ⟨_, rfl, iteT (raise_st s14 (q0' _ rfl))⟩
      | true =>
      have hm : mkOk [q, r] = true := Bool.and_eq_true_iff.mpr ⟨e3, e4⟩
      rw [hm, if_pos rfl] at q1
      clear q0 q0' bad
      refine ⟨_, rfl, iteF ?_⟩
      have hx4 := s14 _ _ hx
      have s34 := s3.trans su
      have hp4 := s34 _ _ hp2
      have ht4 := s34 _ _ ht2
      obtain ⟨al, rfl, hal⟩ := (lvv.same s14).sq rfl
      obtain ⟨ab, ys, ps, rfl, hab, hly, hpi, rfl, hps⟩ := (bo.same s14).ok rfl
      have px_x : px ≠ x := ne_of hp4 hx4 (by intro z; cases z)
      have tn_x : tn ≠ x := ne_of ht4 hx4 (by intro z; cases z)
      have kpx : ∀ {Hc : Hp} {fs : List (Str × V)}, Fs H4 Hc x CC dx fs → Hc px = some (.ins CP pdx (patO tn c)) := fun F => F.kp _ _ hp4 px_x
      have F0 : Fs H4 H4 x CC dx [] := ⟨hx4, fun z u e _ => e⟩
      -- names
      refine ⟨_, rfl, px, CP, pdx, _, _, rfl, hp4, TP.cl, TP.nE, rfl, _, rfl, x, CC, dx, _, rfl, F0.hx, T.cl, T.n1, by decide, ?_⟩
      have F1 := F0.put (fs' := putF "names" (.ref tn) [])
      -- lives
      refine ⟨_, rfl, al, ls, rfl, F1.sq hal hx4, fun H5 tl s5 htl => ?_⟩
      have F2 := F1.same s5
      have tl_x : tl ≠ x := ne_of htl F2.hx (by intro z; cases z)
      refine ⟨_, rfl, x, CC, dx, _, rfl, F2.hx, T.cl, T.n2, (show 1 < 1000 by decide), ?_⟩
      have F3 := F2.put (fs' := putF "lives" (.ref tl) (putF "names" (.ref tn) []))
      have htl3 := (upd_ne (o := .ins CC dx (putF "lives" (.ref tl) (putF "names" (.ref tn) []))) tl_x).trans htl
      -- sons, daughters
      refine ⟨_, rfl, _, rfl, x, CC, dx, _, rfl, F3.hx, T.cl, T.n3, (show 2 < 1000 by decide), ?_⟩
      have F4 := F3.put (fs' := putF "sons" sv (putF "lives" (.ref tl) (putF "names" (.ref tn) [])))
      have htl4 := (upd_ne (o := .ins CC dx (putF "sons" sv (putF "lives" (.ref tl) (putF "names" (.ref tn) [])))) tl_x).trans htl3
      refine ⟨_, rfl, _, rfl, x, CC, dx, _, rfl, F4.hx, T.cl, T.n4, (show 3 < 1000 by decide), ?_⟩
      have F5 := F4.put (fs' := putF "daughters" dv (putF "sons" sv (putF "lives" (.ref tl) (putF "names" (.ref tn) []))))
      have htl5 := (upd_ne (o := .ins CC dx (putF "daughters" dv (putF "sons" sv (putF "lives" (.ref tl) (putF "names" (.ref tn) []))))) tl_x).trans htl4
      clear htl htl3 htl4 F0 F1 F2 F3 F4
      generalize upd _ x (.ins CC dx (putF "daughters" dv (putF "sons" sv (putF "lives" (.ref tl) (putF "names" (.ref tn) []))))) = H6 at F5 htl5 ⊢
      -- borne
      have hab6 := F5.sq hab hx4
      have hpi6 : ∀ (i : Nat) (v : V), ys[i]? = some v → ∃ a zs, v = .ref a ∧ ps[i]? = some zs ∧ Sq H6 a zs := fun i v e => by
        obtain ⟨a, zs, h1, h2, h3⟩ := hpi.at_ e
        exact ⟨a, zs, h1, h2, F5.sq h3 hx4⟩
      refine seq_any (fun Q q => ⟨_, rfl, q⟩) hab6 fun it G wk keep D nD => lc_it wk (fun i H' => Same H6 H' ∧ ∃ ts : List Addr, ts.length = i ∧ H' D = some (.lst (ts.map V.ref)) ∧ ∀ (j : Nat) (t : Addr), ts[j]? = some t → ∃ zs, ps[j]? = some zs ∧ H' t = some (.tup zs)) ⟨same_upd nD, [], rfl, upd_same, fun j t h => by cases h⟩ (fun i H' _ h => keep _ (Same.kp h.1)) ?_ ?_
      · rintro i v H7 H8 hi ⟨s7, ts, hl, eD, ht⟩ ⟨rfl, ev⟩
        obtain ⟨a, zs, rfl, ez, hz⟩ := hpi6 i v ev
        refine ⟨rfl, _, rfl, a, zs, rfl, hz.same s7, fun H9 t s9 htt => ⟨_, s9 _ _ eD, ?_, fun b o e => ?_, ts ++ [t], by rw [List.length_append, hl]; rfl, by rw [upd_same, List.map_append]; rfl, fun j u hj => ?_⟩⟩
        · rw [List.length_map, hl]
          exact Nat.lt_of_lt_of_le hi (Nat.le_trans hly (by decide))
        · rw [upd_ne (ne_of_none e nD)]
          exact s9 _ _ (s7 _ _ e)
        · have eD9 := s9 _ _ eD
          by_cases hlt : j < ts.length
          · rw [List.getElem?_append_left hlt] at hj
            obtain ⟨zs', h1, h2⟩ := ht j u hj
            refine ⟨zs', h1, ?_⟩
            rw [upd_ne (ne_of (s9 _ _ h2) eD9 (by intro z; cases z))]
            exact s9 _ _ h2
          · have ej : j = ts.length := by
              have z := (List.getElem?_eq_some_iff.mp hj).1
              rw [List.length_append] at z
              have z2 : ([t] : List Addr).length = 1 := rfl
              omega
            subst ej
            rw [List.getElem?_append_right (Nat.le_refl _), Nat.sub_self] at hj
            have eu := Option.some.inj hj
            subst eu
            refine ⟨zs, by rw [hl]; exact ez, ?_⟩
            rw [upd_ne (ne_of htt eD9 (by intro z; cases z))]
            exact htt
      rintro H7 ⟨s7, ts, hl, eD, htt⟩
      have hlp : ts.length = ps.length := by
        have z := hpi.1
        rw [List.length_map] at z
        rw [hl, z]
      refine ⟨D, _, rfl, .inl ⟨SqL.of eD, fun tb ntb => ?_⟩⟩
      have s8 := s7.trans (same_upd (o := .tup (ts.map V.ref)) ntb)
      have F6 := F5.same s8
      have htl8 := s8 _ _ htl5
      have htb8 : upd H7 tb (.tup (ts.map V.ref)) tb = some (.tup (ts.map V.ref)) := upd_same
      have htt8 : ∀ (j : Nat) (t : Addr), ts[j]? = some t → ∃ zs, ps[j]? = some zs ∧ upd H7 tb (.tup (ts.map V.ref)) t = some (.tup zs) := fun j t e => by
        obtain ⟨zs, h1, h2⟩ := htt j t e
        exact ⟨zs, h1, same_upd ntb _ _ h2⟩
      clear F5 htl5 s7 eD htt hab6 hpi6 nD
      generalize upd H7 tb (.tup (ts.map V.ref)) = H8 at F6 htl8 htb8 htt8 s8 ⊢
      have tb_x : tb ≠ x := ne_of htb8 F6.hx (by intro z; cases z)
      refine ⟨_, rfl, x, CC, dx, _, rfl, F6.hx, T.cl, T.n5, (show 4 < 1000 by decide), ?_⟩
      have TT0 : ∀ {Hc : Hp}, (∀ z u, H8 z = some u → z ≠ x → Hc z = some u) → Hc tl = some (.tup ls) ∧ Hc tb = some (.tup (ts.map V.ref)) ∧ ∀ (j : Nat) (t : Addr), ts[j]? = some t → ∃ zs, ps[j]? = some zs ∧ Hc t = some (.tup zs) := fun {Hc} k => by
        refine ⟨k _ _ htl8 tl_x, k _ _ htb8 tb_x, fun j t e => ?_⟩
        obtain ⟨zs, h1, h2⟩ := htt8 j t e
        exact ⟨zs, h1, k _ _ h2 (ne_of h2 F6.hx (by intro z; cases z))⟩
      have G0 : Fs H8 H8 x CC dx _ := ⟨F6.hx, fun z u e _ => e⟩
      have F7 := F6.put (fs' := putF "borne" (.ref tb) (putF "daughters" dv (putF "sons" sv (putF "lives" (.ref tl) (putF "names" (.ref tn) [])))))
      have G7 := G0.put (fs' := putF "borne" (.ref tb) (putF "daughters" dv (putF "sons" sv (putF "lives" (.ref tl) (putF "names" (.ref tn) [])))))
      -- marks
      have hmk7 : SqK K (upd H8 x (.ins CC dx (putF "borne" (.ref tb) (putF "daughters" dv (putF "sons" sv (putF "lives" (.ref tl) (putF "names" (.ref tn) []))))))) am [q, r] := hmk4.elim (fun e => .inl (F7.sq e hx4)) .inr
      refine ⟨_, rfl, am, _, rfl, hmk7, fun H9 tm s9 htm => ?_⟩
      have F8 := F7.same s9
      have G8 := G7.same s9
      refine ⟨_, rfl, x, CC, dx, _, rfl, F8.hx, T.cl, T.n6, (show 5 < 1000 by decide), ?_⟩
      have F9 := F8.put (fs' := putF "marks" (.ref tm) (putF "borne" (.ref tb) (putF "daughters" dv (putF "sons" sv (putF "lives" (.ref tl) (putF "names" (.ref tn) []))))))
      have G9 := G8.put (fs' := putF "marks" (.ref tm) (putF "borne" (.ref tb) (putF "daughters" dv (putF "sons" sv (putF "lives" (.ref tl) (putF "names" (.ref tn) []))))))
      have htmk : ∀ {Hc : Hp}, (∀ z u, H9 z = some u → z ≠ x → Hc z = some u) → SqT K Hc tm [q, r] := fun {Hc} k => htm.elim (fun e => .inl (e.elim (fun e => .inl (k _ _ e (ne_of e F8.hx (by intro z; cases z)))) fun ⟨o, e⟩ => .inr ⟨o, k _ _ e (ne_of e F8.hx (by intro z; cases z))⟩)) .inr
      have M9 : Fs H9 _ x CC dx (putF "marks" (.ref tm) (putF "borne" (.ref tb) (putF "daughters" dv (putF "sons" sv (putF "lives" (.ref tl) (putF "names" (.ref tn) [])))))) := Fs.put (H0 := H9) ⟨F8.hx, fun z u e _ => e⟩
      -- classes
      refine ⟨_, rfl, px, pdx, _, rfl, kpx F9, px, pdx, _, _, rfl, kpx F9, rfl, ?_⟩
      refine ⟨_, rfl, x, CC, dx, _, rfl, F9.hx, T.cl, T.n7, (show 6 < 1000 by decide), ?_⟩
      have F10 := F9.put (fs' := putF "classes" (.int c) (putF "marks" (.ref tm) (putF "borne" (.ref tb) (putF "daughters" dv (putF "sons" sv (putF "lives" (.ref tl) (putF "names" (.ref tn) [])))))))
      have G10 := G9.put (fs' := putF "classes" (.int c) (putF "marks" (.ref tm) (putF "borne" (.ref tb) (putF "daughters" dv (putF "sons" sv (putF "lives" (.ref tl) (putF "names" (.ref tn) [])))))))
      have M10 := M9.put (fs' := putF "classes" (.int c) (putF "marks" (.ref tm) (putF "borne" (.ref tb) (putF "daughters" dv (putF "sons" sv (putF "lives" (.ref tl) (putF "names" (.ref tn) [])))))))
      clear F7 F8 F9 G7 G8 G9 M9 hmk7 G0
      generalize upd _ x (.ins CC dx (putF "classes" (.int c) _)) = H10 at F10 G10 M10 ⊢
      obtain ⟨_, htb10, htt10⟩ := TT0 G10.kp
      -- given
      refine ⟨_, rfl, x, CC, dx, _, _, rfl, F10.hx, T.cl, T.n5, rfl, tb, rfl, ⟨_, SqT.of htb10⟩, fun D nD => lc_it walk_tup (fun i H' => Same H10 H' ∧ ∃ acc : List V, acc.length ≤ i ∧ H' D = some (.lst acc) ∧ (acc.isEmpty = (ps.take i).all fun ys => !decide (0 < intV (ys.getD 1 .non)))) ⟨same_upd nD, [], Nat.le_refl _, upd_same, by rw [List.take_zero]; rfl⟩ (fun i H' _ h => SqT.of (h.1 _ _ htb10)) ?_ ?_⟩
      · rintro i v H11 H12 hi ⟨s11, acc, hacc, eD, eb⟩ ⟨rfl, ev⟩
        obtain ⟨t, et, rfl⟩ := map_ref_at ev
        obtain ⟨zs, ez, hz⟩ := htt10 i t et
        obtain ⟨a, b, rfl⟩ := hps zs (List.mem_of_getElem? ez)
        have ei : ps.take (i + 1) = ps.take i ++ [[.int a, .int b]] := by rw [List.take_add_one, ez]; rfl
        have eall : ((ps.take (i + 1)).all fun ys => !decide (0 < intV (ys.getD 1 .non))) = (acc.isEmpty && !decide (0 < b)) := by
          rw [ei, List.all_append, ← eb]
          show (acc.isEmpty && ((!decide (0 < b)) && true)) = _
          rw [Bool.and_true]
        refine ⟨t, _, rfl, SqT.of (s11 _ _ hz), rfl, _, _, rfl, _, _, rfl, rfl, rfl, ?_⟩
        refine ⟨_, rfl, _, _, rfl, rfl, _, rfl, ite2 (fun g => ?_) (fun g => ?_)⟩
        · refine ⟨_, rfl, acc, eD, ?_, fun b' o e => ?_, _, ?_, upd_same, ?_⟩
          · rw [List.length_map] at hi
            exact Nat.lt_of_le_of_lt hacc (Nat.lt_of_lt_of_le hi (by rw [hl]; exact Nat.le_trans hly (by decide)))
          · rw [upd_ne (ne_of_none e nD)]
            exact s11 _ _ e
          · rw [List.length_append]
            exact Nat.succ_le_succ hacc
          · rw [eall, show decide (0 < b) = true from g, Bool.not_true, Bool.and_false]
            cases acc <;> rfl
        · refine ⟨s11, acc, Nat.le_succ_of_le hacc, eD, ?_⟩
          rw [eall, show decide (0 < b) = false from Bool.eq_false_iff.mpr g, Bool.not_false, Bool.and_true]
      rintro H11 ⟨s11, acc, hacc, eD, eb⟩
      rw [List.length_map, hlp, List.take_of_length_le (Nat.le_refl _)] at eb
      have F12 := F10.same s11
      have G12 := G10.same s11
      have M12 := M10.same s11
      clear F10 G10 M10
      have fin : ∀ nw : Bool, nw = newOf sv dv ps → Q .non (upd H11 x (.ins CC dx (csO tn tl sv dv tb tm c nw))) := fun nw e => by
        subst e
        have F13 := F12.put (fs' := csO tn tl sv dv tb tm c (newOf sv dv ps))
        have G13 := G12.put (fs' := csO tn tl sv dv tb tm c (newOf sv dv ps))
        have M13 := M12.put (fs' := csO tn tl sv dv tb tm c (newOf sv dv ps))
        obtain ⟨h1, h2, h3⟩ := TT0 G13.kp
        exact q1 c rfl rfl _ tn tl tb tm ps rfl F13.hx (F13.kp _ _ ht4 tn_x) h1 ⟨ts, h2, hlp, h3⟩ (htmk M13.kp) fun z u e ne => F13.kp _ _ (s14 _ _ e) ne
      obtain ⟨si, rfl⟩ := whole_int e1
      obtain ⟨di, rfl⟩ := whole_int e2
      refine ⟨_, rfl, rfl, _, rfl, ?_⟩
      cases g1 : decide (V.int si = V.int 0) with
      | false =>
        refine iteF ⟨_, rfl, x, CC, dx, _, rfl, F12.hx, T.cl, T.n8, (show 7 < 1000 by decide), fin false ?_⟩
        unfold newOf
        rw [g1]
        rfl
      | true =>
      refine iteT ⟨_, rfl, rfl, _, rfl, ?_⟩
      cases g2 : decide (V.int di = V.int 0) with
      | false =>
        refine iteF ⟨_, rfl, x, CC, dx, _, rfl, F12.hx, T.cl, T.n8, (show 7 < 1000 by decide), fin false ?_⟩
        unfold newOf
        rw [g1, g2]
        rfl
      | true =>
      refine iteT ⟨_, rfl, _, .inl ⟨acc, SqL.of eD, rfl⟩, ?_⟩
      refine ⟨_, rfl, x, CC, dx, _, rfl, F12.hx, T.cl, T.n8, (show 7 < 1000 by decide), fin _ ?_⟩
      unfold newOf
      rw [g1, g2, ← eb]
      cases acc <;> rfl
end
end K35

/-! equal states of couples, the mark of a class -/
namespace K35
open PySem PySem.Spec PyProof.Rows L2
abbrev sMO : Stmt := inClass (top 28) 1
abbrev sCEq : Stmt := inClass (top 28) 2
def markOf (n : Int) : List (List V) → V
  | [] => .non
  | ys :: r => if intV (ys.getD 0 .non) = n then ys.getD 1 .non else markOf n r
def spMO (CC : Addr) : Sp := fun vs H Q _ => ∃ (x dx tb : Addr) (fs : List (Str × V)) (n : Int) (ps : List (List V)), vs = [.ref x, .int n] ∧ H x = some (.ins CC dx fs) ∧ fs.lookup ("borne" : Str) = some (.ref tb) ∧ TT H tb ps ∧ (∀ ys ∈ ps, ∃ i j : Int, ys = [.int i, .int j]) ∧ Q (markOf n ps) H
def CAt (K : PySem.W.Frag) (CC : Addr) (H : Hp) (a : Addr) (dn dl db dm : PyData) (s d : Int) : Prop :=
  ∃ dx tn tl tb tm c nw, H a = some (.ins CC dx (csO tn tl (.int s) (.int d) tb tm c nw)) ∧ Dat K H (.ref tn) dn ∧ Dat K H (.ref tl) dl ∧ Dat K H (.ref tb) db ∧ Dat K H (.ref tm) dm
def spCEq (K : PySem.W.Frag) (CC : Addr) : Sp := fun vs H Q _ => ∃ (a : Addr) (y : V) (dn dl db dm : PyData) (s d : Int), vs = [.ref a, y] ∧ CAt K CC H a dn dl db dm s d ∧
  ((∃ (b : Addr) (en el eb em : PyData) (s2 d2 : Int), y = .ref b ∧ CAt K CC H b en el eb em s2 d2 ∧
      Q (.bl (PyData.eqv dn en && (PyData.eqv dl el && (decide (V.int s = V.int s2) && (decide (V.int d = V.int d2) && (PyData.eqv db eb && PyData.eqv dm em)))))) H) ∨
   (∃ (b : Addr) (us : List V), y = .ref b ∧ H b = some (.tup us) ∧ Q (.bl false) H))
section
variable {P : Program} {w : World} {K : PySem.W.Frag} {mg : Str → Option Value} {base : Heap}
theorem scMO : FnScope ["self", "class_number", "number", "mark"] ["self", "class_number"] (defScope sMO) := ⟨rfl, rfl, rfl, by decide +kernel, rfl, by decide +kernel, by decide +kernel⟩
theorem ok_mo {f CC : Addr} {fd : FuncData} (F : FunD K "mark_of" "CoupleState.mark_of" (defArgs sMO) (defBody sMO) (defScope sMO) [] [] f fd) (T : CsC K CC) : FnOk P w K mg base CX0 1 f fd ["self", "class_number"] (spMO CC) := by
  refine F.ok scMO (fun vs H Q E h => ?_) (fun cdv A outer s H vs Q E hr h => ?_)
  · obtain ⟨x, dx, tb, fs, n, ps, rfl, _⟩ := h
    rfl
  · obtain ⟨x, dx, tb, fs, n, ps, rfl, hx, hl, ⟨ts, ht, hlen, htt⟩, hps, q⟩ := h
    refine ⟨_, PSs.nox (pss_cons (ps_for PassesOwn.never rfl (pi_tup (pe_fld (pv 0) rfl)) (pg_tup (by rfl) (pgs_cons (pg_name (i := 2) scMO.nd rfl (.inl rfl)) (pgs_cons (pg_name (i := 3) scMO.nd rfl (.inl rfl)) pgs_nil)))
      (pss_one (ps_if (pt_cmpR op_eq (pv 2) (pv 1) (nomark _))
        (pss_one (ps_ret (pv 3)))
        pss_nil)))
    (pss_one (ps_ret pe_non))), ?_⟩
    refine ⟨_, rfl, x, CC, dx, _, _, rfl, hx, T.cl, T.n5, hl, tb, rfl, ⟨_, SqT.of ht⟩, for_it walk_tup (fun i σ H' => ∃ (x2 x3 : Option V), σ = [some (.ref x), some (.int n), x2, x3] ∧ markOf n (ps.drop i) = markOf n ps ∧ H' = H) ⟨none, none, rfl, rfl, rfl⟩ (fun i σ H' _ ⟨_, _, _, _, e⟩ => by rw [e]; exact SqT.of ht) ?_ ?_⟩
    · rintro i v σ H1 H2 hi ⟨x2, x3, rfl, hm, rfl⟩ ⟨rfl, ev⟩
      obtain ⟨t, et, rfl⟩ := map_ref_at ev
      obtain ⟨zs, ez, hz⟩ := htt i t et
      obtain ⟨a, b, rfl⟩ := hps zs (List.mem_of_getElem? ez)
      obtain ⟨hi', ez'⟩ := List.getElem?_eq_some_iff.mp ez
      rw [List.drop_eq_getElem_cons hi', ez'] at hm
      have hm' : (if a = n then V.int b else markOf n (ps.drop (i + 1))) = markOf n ps := hm
      refine ⟨t, _, rfl, SqT.of hz, rfl, _, _, rfl, _, _, rfl, rfl, ?_⟩
      refine ⟨_, rfl, _, rfl, rfl, _, rfl, ite2 (fun g => ?_) (fun g => ?_)⟩
      · have e : a = n := V.int.inj (of_decide_eq_true g)
        rw [if_pos e] at hm'
        rw [← hm'] at q
        exact ⟨_, rfl, q⟩
      · rw [if_neg (fun z => g (decide_eq_true (by rw [z])))] at hm'
        exact ⟨_, _, rfl, hm', rfl⟩
    · rintro σ H1 ⟨x2, x3, rfl, hm, rfl⟩
      rw [List.length_map, hlen, List.drop_of_length_le (Nat.le_refl _)] at hm
      rw [← hm] at q
      exact q
theorem scCEq : FnScope ["self", "other"] ["self", "other"] (defScope sCEq) := ⟨rfl, rfl, rfl, by decide +kernel, rfl, by decide +kernel, by decide +kernel⟩
theorem ok_ceq {f CC : Addr} {fd : FuncData} (F : FunD K "__eq__" "CoupleState.__eq__" (defArgs sCEq) (defBody sCEq) (defScope sCEq) [] [] f fd) (T : CsC K CC) (z_type : mg "type" = none) : FnOk P w K mg base CX0 1 f fd ["self", "other"] (spCEq K CC) := by
  refine F.ok scCEq (fun vs H Q E h => ?_) (fun cdv A outer s H vs Q E hr h => ?_)
  · obtain ⟨a, y, dn, dl, db, dm, s, d, rfl, _⟩ := h
    rfl
  · obtain ⟨a, y, dn, dl, db, dm, s, d, rfl, ⟨dx, tn, tl, tb, tm, c, nw, ha, n1, l1, b1, m1⟩, h⟩ := h
    refine ⟨_, PSs.nox (pss_one (ps_ret (pe_and (pe_cmpR op_is2 (pe_callTy cr_type2 (by rfl) z_type (by decide +kernel) (pa_cons (pv 0) pa_nil)) (pe_callTy cr_type2 (by rfl) z_type (by decide +kernel) (pa_cons (pv 1) pa_nil)) (nomark _)) (pe_and (pe_cmpR (op_eqD hr.units) (pe_fld (pv 0) rfl) (pe_fld (pv 1) rfl) (nomark _)) (pe_and (pe_cmpR (op_eqD hr.units) (pe_fld (pv 0) rfl) (pe_fld (pv 1) rfl) (nomark _)) (pe_and (pe_cmpR op_eq (pe_fld (pv 0) rfl) (pe_fld (pv 1) rfl) (nomark _)) (pe_and (pe_cmpR op_eq (pe_fld (pv 0) rfl) (pe_fld (pv 1) rfl) (nomark _)) (pe_and (pe_cmpR (op_eqD hr.units) (pe_fld (pv 0) rfl) (pe_fld (pv 1) rfl) (nomark _)) (pe_one (pe_cmpR (op_eqD hr.units) (pe_fld (pv 0) rfl) (pe_fld (pv 1) rfl) (nomark _))))))))))), ?_⟩
    rcases h with ⟨b, en, el, eb, em, s2, d2, rfl, ⟨dy, tn2, tl2, tb2, tm2, c2, nw2, hb, n2, l2, b2, m2⟩, q⟩ | ⟨b, us, rfl, hb, q⟩
    · refine ⟨_, rfl, _, rfl, .inl ⟨a, CC, dx, _, rfl, ha, _, rfl, _, rfl, .inl ⟨b, CC, dy, _, rfl, hb, CC, rfl, .inl ⟨rfl, ?_⟩⟩⟩⟩
      refine ⟨_, rfl, iteT ?_⟩
      refine ⟨_, rfl, a, CC, dx, _, _, rfl, ha, T.cl, T.n1, rfl, _, rfl, b, CC, dy, _, _, rfl, hb, T.cl, T.n1, rfl, _, _, n1.dp, n2.dp, n1.sh, n2.sh, _, rfl, ?_⟩
      cases e1 : PyData.eqv dn en with
      | false =>
        rw [e1, Bool.false_and] at q
        exact iteF q
      | true =>
      rw [e1, Bool.true_and] at q
      refine iteT ⟨_, rfl, a, CC, dx, _, _, rfl, ha, T.cl, T.n2, rfl, _, rfl, b, CC, dy, _, _, rfl, hb, T.cl, T.n2, rfl, _, _, l1.dp, l2.dp, l1.sh, l2.sh, _, rfl, ?_⟩
      cases e2 : PyData.eqv dl el with
      | false =>
        rw [e2, Bool.false_and] at q
        exact iteF q
      | true =>
      rw [e2, Bool.true_and] at q
      refine iteT ⟨_, rfl, a, CC, dx, _, _, rfl, ha, T.cl, T.n3, rfl, _, rfl, b, CC, dy, _, _, rfl, hb, T.cl, T.n3, rfl, rfl, _, rfl, ?_⟩
      cases e3 : decide (V.int s = V.int s2) with
      | false =>
        rw [e3, Bool.false_and] at q
        exact iteF q
      | true =>
      rw [e3, Bool.true_and] at q
      refine iteT ⟨_, rfl, a, CC, dx, _, _, rfl, ha, T.cl, T.n4, rfl, _, rfl, b, CC, dy, _, _, rfl, hb, T.cl, T.n4, rfl, rfl, _, rfl, ?_⟩
      cases e4 : decide (V.int d = V.int d2) with
      | false =>
        rw [e4, Bool.false_and] at q
        exact iteF q
      | true =>
      rw [e4, Bool.true_and] at q
      refine iteT ⟨_, rfl, a, CC, dx, _, _, rfl, ha, T.cl, T.n5, rfl, _, rfl, b, CC, dy, _, _, rfl, hb, T.cl, T.n5, rfl, _, _, b1.dp, b2.dp, b1.sh, b2.sh, _, rfl, ?_⟩
      cases e5 : PyData.eqv db eb with
      | false =>
        rw [e5, Bool.false_and] at q
        exact iteF q
      | true =>
      rw [e5, Bool.true_and] at q
      exact iteT ⟨_, rfl, a, CC, dx, _, _, rfl, ha, T.cl, T.n6, rfl, _, rfl, b, CC, dy, _, _, rfl, hb, T.cl, T.n6, rfl, _, _, m1.dp, m2.dp, m1.sh, m2.sh, q⟩
    · refine ⟨_, rfl, _, rfl, .inl ⟨a, CC, dx, _, rfl, ha, _, rfl, _, rfl, .inr ⟨b, us, rfl, hb, CC, rfl, .inr (.inr ⟨_, rfl, ?_⟩)⟩⟩⟩
      exact ⟨_, rfl, iteF q⟩
end
end K35

/-! one of several is picked; classes are numbered -/
namespace K35
open PySem PySem.Spec PyProof.Rows L2
def Kept (p : Addr) (H H' : Hp) : Prop := ∀ b o, b ≠ p → H b = some o → H' b = some o
theorem Kept.upd {p : Addr} {H : Hp} {o : HO} : Kept p H (upd H p o) := fun b u n e => by
  rw [upd_ne n]
  exact e
theorem Kept.refl {p : Addr} {H : Hp} : Kept p H H := fun b u n e => e
theorem Kept.trans {p : Addr} {H H1 H2 : Hp} (a : Kept p H H1) (b : Kept p H1 H2) : Kept p H H2 := fun c o n e => b c o n (a c o n e)
theorem Kept.same {p : Addr} {H H1 : Hp} (a : Same H H1) : Kept p H H1 := fun c o _ e => a c o e
theorem Kept.seq {p : Addr} {H H1 : Hp} {K : PySem.W.Frag} {a : Addr} {xs : List V} (k : Kept p H H1) (n : a ≠ p) (h : SqL K H a xs) : SqL K H1 a xs := by
  rcases h with (h | ⟨o, h⟩) | h
  · exact .inl (.inl (k _ _ n h))
  · exact .inl (.inr ⟨o, k _ _ n h⟩)
  · exact .inr h
theorem hand_apart {H : Hp} {p l : Addr} {cells : List Int} {i r t : Int} (h : HandAt H p l cells i r t) : l ≠ p := fun z => by
  have h1 := h.1
  have h2 := h.2.1
  rw [z, h1] at h2
  have h3 := Option.some.inj h2
  injection h3 with h4
  have h5 := congrArg List.head? h4
  cases cells with
  | nil => cases h5
  | cons c cs => cases h5
theorem hand_upd {H : Hp} {p l : Addr} {cells : List Int} {i r t i' r' t' : Int} (h : HandAt H p l cells i r t) (o : HandOk cells i' r' t') : HandAt (upd H p (handO l i' r' t')) p l cells i' r' t' := by
  refine ⟨upd_same, ?_, o⟩
  rw [upd_ne (hand_apart h)]
  exact h.2.1
theorem hand_same {H H' : Hp} {p l : Addr} {cells : List Int} {i r t : Int} (h : HandAt H p l cells i r t) (s : Same H H') : HandAt H' p l cells i r t := ⟨s _ _ h.1, s _ _ h.2.1, h.2.2⟩
theorem callR_or {X : Cx} {f : Value} {r1 r2 : List V → Hp → VK → Prop} (h1 : CallR X f r1) (h2 : CallR X f r2) : CallR X f (fun xs H Q => r1 xs H Q ∨ r2 xs H Q) := fun pins s σ H xs us Q I rv h => h.elim (h1 pins s σ H xs us Q I rv) (h2 pins s σ H xs us Q I rv)
/-- a list's item, or a text's sign -/
def spPick (K : PySem.W.Frag) : Sp := fun vs H Q _ => ∃ (p l : Addr) (cells : List Int) (i r t : Int), HandAt H p l cells i r t ∧
  ((∃ (a : Addr) (xs : List V), vs = [.ref p, .ref a] ∧ SqL K H a xs ∧ a ≠ p ∧ 0 < xs.length ∧ xs.length ≤ 1000 ∧ ∀ (v : V) (i' r' t' : Int), v ∈ xs → HandOk cells i' r' t' → Q v (upd H p (handO l i' r' t'))) ∨
   (∃ z : Str, vs = [.ref p, .str z] ∧ 0 < z.length ∧ z.length ≤ 1000 ∧ ∀ (c : Nat) (i' r' t' : Int), c ∈ z.cps.toList → HandOk cells i' r' t' → Q (.str ⟨#[c]⟩) (upd H p (handO l i' r' t'))))
section
variable {P : Program} {w : World} {K : PySem.W.Frag} {mg : Str → Option Value} {base : Heap}
theorem scPick : FnScope ["_law_hand_here", "_law_things"] ["_law_hand_here", "_law_things"] (defScope sPick) := ⟨rfl, rfl, rfl, by decide +kernel, rfl, by decide +kernel, by decide +kernel⟩
theorem ok_pick {f fD : Addr} {fd fdD : FuncData} (F : FnP K "_law_pick" sPick f fd) (zl : mg "len" = none) (dD : Df P w K mg base "_law_draw" 2 ["_law_hand_here", "_law_many_here"] spDraw fD fdD) : FnOk P w K mg base CX0 3 f fd ["_law_hand_here", "_law_things"] (spPick K) := by
  refine F.ok scPick (fun vs H Q E h => ?_) (fun cdv A outer s H vs Q E hr h => ?_)
  · obtain ⟨p, l, cells, i, r, t, hh, (⟨a, xs, rfl, _⟩ | ⟨z, rfl, _⟩)⟩ := h <;> rfl
  · obtain ⟨p, l, cells, i, r, t, hh, h⟩ := h
    refine ⟨_, PSs.nox (pss_one (ps_ret (pe_ix ix_seq (pv 1) (pe_call dD.ok hr (by rfl) dD.gl dD.kp dD.bi .nil pass0 (pa_cons (pv 0) (pa_cons (pe_callB (callR_or call_len_seq call_len_str) (by rfl) zl boot_len (pa_cons (pv 1) pa_nil)) pa_nil))) (fun _ _ => rfl)))), ?_⟩
    rcases h with ⟨a, xs, rfl, hS, nap, h0, h1, q⟩ | ⟨z, rfl, h0, h1, q⟩
    · refine ⟨_, rfl, _, rfl, _, rfl, .inl ⟨_, _, rfl, .inl hS, p, l, cells, i, r, t, _, rfl, hh, by omega, ?_, fun d i' r' t' d0 d1 ok' => ?_⟩⟩
      · have e : ((xs.length : Int)).natAbs = xs.length := by omega
        rw [e]
        exact Nat.lt_of_le_of_lt h1 (Nat.lt_of_lt_of_le (m := 2 ^ 20) (by decide) (Nat.pow_le_pow_right (by decide) (by decide)))
      · have hd : d.toNat < xs.length := by omega
        have hget : atI xs d = some xs[d.toNat] := by
          have z := atI_nat (xs := xs) (j := d.toNat) (v := xs[d.toNat]) (List.getElem?_eq_getElem hd)
          rw [Int.toNat_of_nonneg d0] at z
          exact z
        exact .inl ⟨_, _, _, _, rfl, rfl, Kept.upd.seq nap hS, hget, q _ i' r' t' (List.getElem_mem hd) ok'⟩
    · refine ⟨_, rfl, _, rfl, _, rfl, .inr ⟨z, rfl, Nat.le_trans h1 (by decide), p, l, cells, i, r, t, _, rfl, hh, by omega, ?_, fun d i' r' t' d0 d1 ok' => ?_⟩⟩
      · have e : ((z.length : Int)).natAbs = z.length := by omega
        rw [e]
        exact Nat.lt_of_le_of_lt h1 (Nat.lt_of_lt_of_le (m := 2 ^ 20) (by decide) (Nat.pow_le_pow_right (by decide) (by decide)))
      · have hl : z.cps.toList.length = z.length := Array.length_toList
        have hd : d.toNat < z.cps.toList.length := by omega
        have hget : atI z.cps.toList d = some (z.cps.toList[d.toNat]) := by
          have y := atI_nat (xs := z.cps.toList) (j := d.toNat) (v := z.cps.toList[d.toNat]) (List.getElem?_eq_getElem hd)
          rw [Int.toNat_of_nonneg d0] at y
          exact y
        exact .inr (.inr ⟨z, d, _, rfl, rfl, Nat.le_trans h1 (by decide), hget, q _ i' r' t' (List.getElem_mem hd) ok'⟩)
end
end K35

/-! the law's own numbering of classes, their number -/
namespace K35
open PySem PySem.Spec PyProof.Rows L2
theorem cnt_snoc : ∀ (vs : List V) (c : Nat) (v : V), cnt c (vs ++ [v]) = (match cnt c vs with | some d => stepE d v | none => none)
  | [], c, v => by
    show (match stepE c v with | some c' => cnt c' [] | none => none) = stepE c v
    cases stepE c v <;> rfl
  | u :: vs, c, v => by
    show (match stepE c u with | some c' => cnt c' (vs ++ [v]) | none => none) = (match cnt c (u :: vs) with | some d => stepE d v | none => none)
    rw [cnt_cons]
    cases stepE c u with
    | none => rfl
    | some d => exact cnt_snoc vs d v
/-- nobody or a whole number -/
def isE (v : V) : Prop := v = .non ∨ ∃ i : Int, v = .int i
theorem isE.fl {v : V} (h : isE v) : Fl v := by
  rcases h with rfl | ⟨i, rfl⟩
  · exact .non
  · exact .int i
theorem isE_snoc {fs : List V} {v : V} (h : ∀ x ∈ fs, isE x) (hv : isE v) : ∀ x ∈ fs ++ [v], isE x := fun x hx => by
  rcases List.mem_append.mp hx with hx | hx
  · exact h x hx
  · rw [List.mem_singleton] at hx
    rw [hx]
    exact hv
theorem step_old {c m : Nat} (h : m < c) : stepE c (.int (m : Int)) = some c := by
  show (if ((m : Nat) : Int) < 0 then none else if (c : Int) < (m : Int) then none else if (m : Int) = c then some (c + 1) else some c) = some c
  rw [if_neg (by omega), if_neg (by omega), if_neg (by omega)]
theorem step_new {c : Nat} : stepE c (.int (c : Int)) = some (c + 1) := by
  show (if ((c : Nat) : Int) < 0 then none else if (c : Int) < (c : Int) then none else if (c : Int) = c then some (c + 1) else some c) = some (c + 1)
  rw [if_neg (by omega), if_neg (by omega), if_pos rfl]
def spCls (K : PySem.W.Frag) : Sp := fun vs H Q _ => ∃ (a : Addr) (xs : List V), vs = [.ref a] ∧ SqL K H a xs ∧ xs.length ≤ 40 ∧ (∀ x ∈ xs, isE x) ∧
  ∀ (H' : Hp) (t : Addr) (fs : List V) (c : Nat), Same H H' → H' t = some (.tup fs) → cnt 0 fs = some c → fs.length = xs.length → (∀ x ∈ fs, isE x) → Q (.ref t) H'
section
variable {P : Program} {w : World} {K : PySem.W.Frag} {mg : Str → Option Value} {base : Heap}
theorem scCls : FnScope ["_law_things", "_law_numbers", "_law_found", "_law_thing"] ["_law_things"] (defScope sClasses) := ⟨rfl, rfl, rfl, by decide +kernel, rfl, by decide +kernel, by decide +kernel⟩
theorem ok_cls {f : Addr} {fd : FuncData} (F : FnP K "_law_classes" sClasses f fd) (z_len : mg "len" = none) (z_tuple : mg "tuple" = none) : FnOk P w K mg base CX0 1 f fd ["_law_things"] (spCls K) := by
  refine F.ok scCls (fun vs H Q E h => ?_) (fun cdv A outer s H vs Q E hr h => ?_)
  · obtain ⟨a, xs, rfl, _⟩ := h
    rfl
  · obtain ⟨a, xs, rfl, hS, hl, hx, q⟩ := h
    have hu := hu_of hr
    refine ⟨_, PSs.nox (pss_cons (ps_set (i := 1) scCls.nd rfl (.inl rfl) pe_dnewK)
    (pss_cons (ps_set (i := 2) scCls.nd rfl (.inl rfl) (pe_lst pa_nil))
    (pss_cons (ps_for PassesOwn.never rfl (pi_list (pv 0)) (pg_name (i := 3) scCls.nd rfl (.inl rfl))
      (pss_cons (ps_if (PW.pt (pw_and (pt_cmpR op_notN (pv 3) pe_non (nomark _)) (pw_and1 (pt_cmp (pc_dnotin hu (pv 3) (pv 1))))))
        (pss_one (ps_dput hu (pv 1) (pv 3) (pe_callB call_lenD (by rfl) z_len boot_len (pa_cons (pv 1) pa_nil)) rfl))
        pss_nil)
      (pss_one (ps_expr (pe_bm PySem.F.plainAttrs_list PySem.F.slot_list_append PySem.F.type_list_append mt_append (pv 2) (pa_cons (pe_ifExp (pt_cmpR op_isN (pv 3) pe_non (nomark _)) pe_non (pe_dget hu (pv 1) (pv 3) (fun _ _ => rfl))) pa_nil))))))
    (pss_one (ps_ret (pe_callTy call_tuple_of (by rfl) z_tuple (by decide +kernel) (pa_cons (pv 2) pa_nil))))))), ?_⟩
    intro D nD
    have sD := same_upd (o := .dK []) nD
    refine ⟨Nat.zero_le _, fun L nL => ?_⟩
    have sL := same_upd (o := .lst []) nL
    have nDL : D ≠ L := ne_of_none (upd_same (H := H) (a := D) (o := .dK [])) nL
    have stL : ∀ {H1 : Hp} {o : HO}, Same H H1 → Same H (upd H1 L o) := fun {H1 o} s b u e => (upd_ne (ne_of_none e (none_of sD nL))).trans (s _ _ e)
    refine ⟨_, rfl, a, rfl, ⟨_, (sD.trans sL).seq hS⟩, for_it walk_list (fun i σ H' => ∃ (x3 : Option V) (kvs : List (Key × V)) (fs : List V), σ = [some (.ref a), some (.ref D), some (.ref L), x3] ∧ H' D = some (.dK kvs) ∧ H' L = some (.lst fs) ∧ fs.length = i ∧ cnt 0 fs = some kvs.length ∧ kvs.length ≤ i ∧
        (∀ k v, valV kvs k = some v → ∃ j : Nat, v = .int j ∧ j < kvs.length) ∧ (∀ x ∈ fs, isE x) ∧ Same H H')
      ⟨none, [], [], rfl, (upd_ne nDL).trans upd_same, upd_same, rfl, rfl, Nat.le_refl _, fun k v e => (by cases e), fun x h => (by cases h), sD.trans sL⟩ (fun i σ H' _ ⟨_, _, _, _, _, _, _, _, _, _, _, s⟩ => s.seq hS) ?_ ?_⟩
    · rintro i x σ H1 H2 hi ⟨x3, kvs, fs, rfl, hD, hL, hlf, hc, hk, hv, he, sm⟩ ⟨rfl, ev⟩
      have hi40 : i < 40 := Nat.lt_of_lt_of_le hi hl
      rcases hx x (List.mem_of_getElem? ev) with rfl | ⟨j, rfl⟩
      · refine ⟨_, rfl, rfl, _, rfl, iteF ?_⟩
        refine ⟨_, rfl, .inl ⟨rfl, _, SqL.of hL⟩, _, rfl, rfl, _, rfl, iteT ⟨L, _, _, rfl, rfl, hL, by rw [hlf]; exact Nat.lt_trans hi40 (by decide), ?_⟩⟩
        refine ⟨_, kvs, fs ++ [.non], rfl, (upd_ne (ne_of hD hL (by intro z; cases z))).trans hD, upd_same, by rw [List.length_append, hlf]; rfl, by rw [cnt_snoc, hc]; rfl, Nat.le_succ_of_le hk, hv, ?_, stL sm⟩
        exact isE_snoc he (.inl rfl)
      · refine ⟨_, rfl, rfl, _, rfl, iteT ?_⟩
        refine ⟨_, rfl, _, rfl, D, _, rfl, DGet.k (k := Sum.inl j) hD, _, rfl, ?_⟩
        cases e : valV kvs (Sum.inl j) with
        | some v =>
          obtain ⟨m, rfl, hm⟩ := hv _ _ e
          have g := DGet.k (k := (Sum.inl j : Key)) hD
          rw [e] at g
          refine iteF ⟨_, rfl, .inl ⟨rfl, _, SqL.of hL⟩, _, rfl, rfl, _, rfl, iteF ⟨_, rfl, _, rfl, D, _, rfl, g, L, _, _, rfl, rfl, hL, by rw [hlf]; exact Nat.lt_trans hi40 (by decide), ?_⟩⟩
          refine ⟨_, kvs, fs ++ [.int m], rfl, (upd_ne (ne_of hD hL (by intro z; cases z))).trans hD, upd_same, by rw [List.length_append, hlf]; rfl, ?_, Nat.le_succ_of_le hk, hv, isE_snoc he (.inr ⟨_, rfl⟩), stL sm⟩
          rw [cnt_snoc, hc]
          exact step_old hm
        | none =>
          refine iteT ⟨_, rfl, D, kvs, rfl, hD, _, rfl, _, rfl, D, _, rfl, DPut.k (k := Sum.inl j) hD (Nat.lt_of_le_of_lt hk (Nat.lt_trans hi40 (by decide))), ?_⟩
          rw [show putK kvs (Sum.inl j : Key) (V.int (kvs.length : Int)) = kvs ++ [(Sum.inl j, .int (kvs.length : Int))] from if_neg (by rw [valV_any, e]; exact Bool.false_ne_true)]
          have hD2 : upd H2 D (.dK (kvs ++ [(Sum.inl j, .int (kvs.length : Int))])) D = some (.dK (kvs ++ [(Sum.inl j, .int (kvs.length : Int))])) := upd_same
          have hL2 : upd H2 D (.dK (kvs ++ [(Sum.inl j, .int (kvs.length : Int))])) L = some (.lst fs) := (upd_ne (Ne.symm nDL)).trans hL
          have sm2 : Same H (upd H2 D (.dK (kvs ++ [(Sum.inl j, .int (kvs.length : Int))]))) := fun b o e => (upd_ne (ne_of_none e nD)).trans (sm _ _ e)
          generalize upd H2 D (.dK (kvs ++ [(Sum.inl j, .int (kvs.length : Int))])) = H3 at hD2 hL2 sm2 ⊢
          have g := DGet.k (k := (Sum.inl j : Key)) hD2
          rw [valV_snoc _ _ _ _ e, if_pos rfl] at g
          refine ⟨_, rfl, .inl ⟨rfl, _, SqL.of hL2⟩, _, rfl, rfl, _, rfl, iteF ⟨_, rfl, _, rfl, D, _, rfl, g, L, _, _, rfl, rfl, hL2, by rw [hlf]; exact Nat.lt_trans hi40 (by decide), ?_⟩⟩
          refine ⟨_, kvs ++ [(Sum.inl j, .int (kvs.length : Int))], fs ++ [.int kvs.length], rfl, (upd_ne (ne_of hD2 hL2 (by intro z; cases z))).trans hD2, upd_same, by rw [List.length_append, hlf]; rfl, ?_, ?_, fun k v ek => ?_, isE_snoc he (.inr ⟨_, rfl⟩), stL sm2⟩
          · rw [cnt_snoc, hc, List.length_append]
            exact step_new
          · rw [List.length_append]
            exact Nat.succ_le_succ hk
          · rw [valV_snoc _ _ _ _ e] at ek
            rw [List.length_append]
            by_cases z : k = Sum.inl j
            · rw [if_pos z] at ek
              exact ⟨kvs.length, (Option.some.inj ek).symm, Nat.lt_succ_self _⟩
            · rw [if_neg z] at ek
              obtain ⟨m, e1, e2⟩ := hv _ _ ek
              exact ⟨m, e1, Nat.lt_succ_of_lt e2⟩
    · rintro σ H1 ⟨x3, kvs, fs, rfl, hD, hL, hlf, hc, hk, hv, he, sm⟩
      refine ⟨_, rfl, L, _, rfl, .inl ⟨SqL.of hL, fun t nt => ?_⟩⟩
      exact q _ t fs kvs.length (sm.trans (same_upd nt)) upd_same hc hlf he
end
end K35

/-! how many classes there are -/
namespace K35
open PySem PySem.Spec PyProof.Rows L2
theorem cnt_app : ∀ (xs ys : List V) (c : Nat), cnt c (xs ++ ys) = (match cnt c xs with | some d => cnt d ys | none => none)
  | [], ys, c => rfl
  | x :: xs, ys, c => by
    show (match stepE c x with | some c' => cnt c' (xs ++ ys) | none => none) = (match cnt c (x :: xs) with | some d => cnt d ys | none => none)
    rw [cnt_cons]
    cases stepE c x with
    | none => rfl
    | some d => exact cnt_app xs ys d
theorem cnt_take {xs : List V} {c : Nat} (h : cnt 0 xs = some c) (i : Nat) : ∃ d, cnt 0 (xs.take i) = some d := by
  rw [← List.take_append_drop i xs, cnt_app] at h
  cases e : cnt 0 (xs.take i) with
  | none => rw [e] at h; cases h
  | some d => exact ⟨d, rfl⟩
theorem cnt_mem : ∀ {vs : List V} {c c' : Nat}, cnt c vs = some c' → ∀ k : Nat, c ≤ k → k < c' → V.int (k : Int) ∈ vs
  | [], c, c', h => fun k h1 h2 => by
    injection h with h
    omega
  | v :: vs, c, c', h => fun k h1 h2 => by
    rw [cnt_cons] at h
    cases e : stepE c v with
    | none => rw [e] at h; cases h
    | some d =>
      rw [e] at h
      rcases stepE_odd e with rfl | ⟨i, rfl⟩
      · injection (show some c = some d from e) with e2
        subst e2
        exact List.mem_cons_of_mem _ (cnt_mem h k h1 h2)
      · have e' : (if i < 0 then none else if (c : Int) < i then none else if i = c then some (c + 1) else some c : Option Nat) = some d := e
        by_cases n0 : i < 0
        · rw [if_pos n0] at e'; cases e'
        rw [if_neg n0] at e'
        by_cases n1 : (c : Int) < i
        · rw [if_pos n1] at e'; cases e'
        rw [if_neg n1] at e'
        by_cases n2 : i = c
        · rw [if_pos n2] at e'
          injection e' with e'
          by_cases hk : k = c
          · rw [hk, ← n2]
            exact List.mem_cons_self
          · exact List.mem_cons_of_mem _ (cnt_mem h k (by omega) h2)
        · rw [if_neg n2] at e'
          injection e' with e'
          subst e'
          exact List.mem_cons_of_mem _ (cnt_mem h k h1 h2)
theorem inV_int {k : Int} : ∀ {ys : List V}, (∀ y ∈ ys, isE y) → (inV (.int k) ys = true ↔ V.int k ∈ ys)
  | [], _ => ⟨fun h => (by cases h), fun h => (by cases h)⟩
  | y :: ys, h => by
    have ih := inV_int (k := k) fun z hz => h z (List.mem_cons_of_mem _ hz)
    have e : inV (.int k) (y :: ys) = (eqV y (.int k) || inV (.int k) ys) := rfl
    rw [e, Bool.or_eq_true, ih, List.mem_cons]
    rcases h y List.mem_cons_self with rfl | ⟨i, rfl⟩
    · exact ⟨fun z => z.elim (fun z => (by cases z)) .inr, fun z => z.elim (fun z => (by cases z)) .inr⟩
    · refine ⟨fun z => z.elim (fun z => .inl ?_) .inr, fun z => z.elim (fun z => .inl ?_) .inr⟩
      · rw [show i = k from beq_iff_eq.mp z]
      · injection z with z
        exact beq_iff_eq.mpr z.symm
theorem ints_mem : ∀ {vs : List V} {i : Int}, V.int i ∈ vs → i ∈ intsOf vs
  | [], i, h => by cases h
  | v :: vs, i, h => by
    rcases List.mem_cons.mp h with e | h
    · subst e
      exact List.mem_cons_self
    · have ih := ints_mem h
      cases v with
      | int j => exact List.mem_cons_of_mem _ ih
      | _ => exact ih
theorem cut_to {xs : List V} {i : Nat} (h : i ≤ xs.length) : cutV xs none (some (i : Int)) = xs.take i := by
  show (xs.drop 0).take (HT.sIx xs.length xs.length (some (i : Int)) - 0) = xs.take i
  rw [HT.sIx_nat, List.drop_zero, Nat.sub_zero, Nat.min_eq_left h]
def spMany (K : PySem.W.Frag) : Sp := fun vs H Q _ => ∃ (a : Addr) (xs : List V) (c : Nat), vs = [.ref a] ∧ SqL K H a xs ∧ xs.length ≤ 40 ∧ cnt 0 xs = some c ∧ ∀ H', Same H H' → Q (.int (c : Int)) H'
section
variable {P : Program} {w : World} {K : PySem.W.Frag} {mg : Str → Option Value} {base : Heap}
theorem scMany : FnScope ["_law_names", "_law_at"] ["_law_names"] (defScope sMany) := ⟨rfl, rfl, rfl, by decide +kernel, rfl, by decide +kernel, by decide +kernel⟩
theorem ok_many {f : Addr} {fd : FuncData} (F : FnP K "_law_many" sMany f fd) (z_len : mg "len" = none) (z_range : mg "range" = none) : FnOk P w K mg base CX0 1 f fd ["_law_names"] (spMany K) := by
  refine F.ok scMany (fun vs H Q E h => ?_) (fun cdv A outer s H vs Q E hr h => ?_)
  · obtain ⟨a, xs, c, rfl, _⟩ := h
    rfl
  · obtain ⟨a, xs, c, rfl, hS, hl, hc, q⟩ := h
    refine ⟨_, PSs.nox (pss_one (ps_ret (pe_callB call_len_seq (by rfl) z_len boot_len (pa_cons (pe_lc (own := [("_law_at", 1)]) (g := gName 1) (tt := tAnd (tTest (tOp _ (tOp (rIxL K) _ _) _)) (tTest (tOp (rIn K true) (tOp (rIxL K) _ _) (tSl (rSlL K) _ _ _)))) rfl scMany.nd (pi_range1 (by rfl) z_range (pa_cons (pe_callB call_len_seq (by rfl) z_len boot_len (pa_cons (pv 0) pa_nil)) pa_nil)) (blkOk_by (N := ["_law_names", "_law_at"]) (sc := defScope sMany) (by decide +kernel)) (fun _ _ _ _ _ => pg_name (i := 1) scMany.nd rfl (Or.inl rfl)) (fun _ _ _ _ _ => pts_one (PW.pt (pw_and (pt_cmpR op_notN (pe_ix ix_list (pv 0) (pv 1) (fun _ _ => rfl)) pe_non (nomark _)) (pw_and1 (pt_cmpR op_notIn_seq (pe_ix ix_list (pv 0) (pv 1) (fun _ _ => rfl)) (pe_slice sl_list (pv 0) po_none (po_some (pv 1))) (by rfl)))))) (fun _ _ _ _ _ => (pv 1))) pa_nil)))), ?_⟩
    refine ⟨_, rfl, a, xs, rfl, .inl hS, xs.length, rfl, by omega, by omega, fun D nD => lc_it walk_range (fun i H' => Same H H' ∧ ∃ (acc : List V) (ci : Nat), H' D = some (.lst acc) ∧ acc.length = ci ∧ ci ≤ i ∧ cnt 0 (xs.take i) = some ci) ⟨same_upd nD, [], 0, upd_same, rfl, Nat.le_refl _, by rw [List.take_zero]; rfl⟩ (fun _ _ _ _ => trivial) ?_ ?_⟩
    · rintro i y H1 H2 hi ⟨s1, acc, ci, eD, hacc, hle, hci⟩ ⟨rfl, rfl⟩
      have hi' : i < xs.length := hi
      have e0 : (0 : Int) + (i : Int) = (i : Int) := Int.zero_add _
      have eg : xs[i]? = some xs[i] := List.getElem?_eq_getElem hi'
      have hget : atI xs (0 + (i : Int)) = some xs[i] := by rw [e0]; exact atI_nat eg
      have eall : ∀ x ∈ xs, isE x := fun x hx => by
        rcases cnt_kinds hc x hx with h | ⟨j, h, _⟩
        · exact .inl h
        · exact .inr ⟨j, h⟩
      obtain ⟨d, hd⟩ := cnt_take hc (i + 1)
      have hd2 := hd
      rw [List.take_add_one, eg, show (some xs[i]).toList = [xs[i]] from rfl, cnt_snoc, hci] at hd2
      have hd3 : stepE ci xs[i] = some d := hd2
      have nx : d = ci → Same H H2 ∧ ∃ (acc : List V) (ci : Nat), H2 D = some (.lst acc) ∧ acc.length = ci ∧ ci ≤ i + 1 ∧ cnt 0 (xs.take (i + 1)) = some ci := fun e => by
        subst e
        exact ⟨s1, acc, d, eD, hacc, Nat.le_succ_of_le hle, hd⟩
      refine ⟨rfl, ?_⟩
      refine ⟨_, rfl, _, rfl, _, _, _, _, rfl, rfl, s1.seq hS, hget, rfl, _, rfl, ?_⟩
      rcases stepE_odd hd3 with ex | ⟨j, ex⟩
      · rw [ex] at hd3 ⊢
        exact iteF (iteF (nx (by injection hd3 with z; exact z.symm)))
      · rw [ex] at hd3 ⊢
        refine iteT ⟨_, rfl, _, rfl, _, _, _, _, rfl, rfl, s1.seq hS, by rw [hget, ex], _, rfl, _, rfl, _, rfl, a, xs, rfl, s1.seq hS, fun T nT => ?_⟩
        have sT := s1.trans (same_upd (o := .lst (cutV xs none (some (0 + (i : Int))))) nT)
        have eT := upd_same (H := H2) (a := T) (o := .lst (cutV xs none (some (0 + (i : Int)))))
        have eDT := same_upd (o := .lst (cutV xs none (some (0 + (i : Int))))) nT _ _ eD
        have hDn : ∀ b o, H b = some o → b ≠ D := fun b o e => ne_of_none e nD
        rw [e0, cut_to (Nat.le_of_lt hi')] at sT eT eDT ⊢
        generalize upd H2 T (.lst (xs.take i)) = H3 at sT eT eDT ⊢
        have etake : ∀ y ∈ xs.take i, isE y := fun y hy => eall y (List.mem_of_mem_take hy)
        refine ⟨T, _, rfl, .inl (SqL.of eT), rfl, ?_, _, rfl, ?_⟩
        · exact List.all_eq_true.mpr fun y hy => (etake y hy).fl.flat
        · have e' : (if j < 0 then none else if (ci : Int) < j then none else if j = ci then some (ci + 1) else some ci : Option Nat) = some d := hd3
          by_cases n0 : j < 0
          · rw [if_pos n0] at e'; cases e'
          rw [if_neg n0] at e'
          by_cases n1 : (ci : Int) < j
          · rw [if_pos n1] at e'; cases e'
          rw [if_neg n1] at e'
          by_cases n2 : j = ci
          · rw [if_pos n2] at e'
            have ed : ci + 1 = d := Option.some.inj e'
            have ein : inV (.int j) (xs.take i) = false := Bool.eq_false_iff.mpr fun z => by
              have z2 := (cnt_ints hci).1 j (ints_mem ((inV_int etake).mp z))
              omega
            have eif : (if true = true then !inV (.int j) (xs.take i) else inV (.int j) (xs.take i)) = true := by rw [if_pos rfl, ein]; rfl
            rw [eif]
            refine iteT ⟨_, rfl, acc, eDT, ?_, fun b o e => ?_, acc ++ [_], d, upd_same, ?_, ?_, hd⟩
            · rw [hacc]
              exact Nat.lt_of_le_of_lt hle (Nat.lt_of_lt_of_le hi' (Nat.le_trans hl (by decide)))
            · rw [upd_ne (hDn b o e)]
              exact sT _ _ e
            · rw [List.length_append, hacc]
              exact ed
            · rw [← ed]
              exact Nat.succ_le_succ hle
          · rw [if_neg n2] at e'
            have ed : ci = d := Option.some.inj e'
            have ein : inV (.int j) (xs.take i) = true := (inV_int etake).mpr (by
              have z := cnt_mem hci j.toNat (Nat.zero_le _) (by omega)
              rw [Int.toNat_of_nonneg (by omega)] at z
              exact z)
            have eif : (if true = true then !inV (.int j) (xs.take i) else inV (.int j) (xs.take i)) = false := by rw [if_pos rfl, ein]; rfl
            rw [eif]
            refine iteF ⟨sT, acc, d, eDT, ?_, ?_, hd⟩
            · rw [hacc, ed]
            · rw [← ed]
              exact Nat.le_succ_of_le hle
    · rintro H1 ⟨s1, acc, ci, eD, hacc, hle, hci⟩
      rw [List.take_of_length_le (by omega), hc] at hci
      injection hci with hci
      refine ⟨D, acc, rfl, .inl (SqL.of eD), ?_⟩
      rw [hacc, ← hci]
      exact q H1 s1
end
end K35

/-! entries, lives, pairs drawn; the first word; good or spoilt -/
namespace K35
open PySem PySem.Spec PyProof.Rows L2
theorem Kept.new {p : Addr} {H : Hp} {a : Addr} {o : HO} (n : H a = none) : Kept p H (L2.upd H a o) := Kept.same (same_upd n)
theorem hand_ne {H : Hp} {p l D : Addr} {cells : List Int} {i r t : Int} {o : HO} (h : HandAt H p l cells i r t) (Dp : D ≠ p) (Dl : D ≠ l) : HandAt (upd H D o) p l cells i r t :=
  ⟨(upd_ne (Ne.symm Dp)).trans h.1, (upd_ne (Ne.symm Dl)).trans h.2.1, h.2.2⟩
/-- what stood ahead, where a list is new -/
theorem Kept.put {p D : Addr} {H H1 H2 : Hp} {o : HO} (k1 : Kept p H H1) (nD : H1 D = none) (k2 : Kept p H H2) : Kept p H (L2.upd H2 D o) := fun b u n e => by
  rw [upd_ne (ne_of_none (k1 b u n e) nD)]
  exact k2 b u n e
def spEn : Sp := fun vs H Q _ => ∃ (p l : Addr) (cells : List Int) (i r t : Int), vs = [.ref p] ∧ HandAt H p l cells i r t ∧
  ∀ (H' : Hp) (a : Addr) (es : List V) (c : Nat) (i' r' t' : Int), Kept p H H' → HandAt H' p l cells i' r' t' → H' a = some (.lst es) → a ≠ p → cnt 0 es = some c → (∀ x ∈ es, isE x) → es.length ≤ 7 → Q (.ref a) H'
def spLvs : Sp := fun vs H Q _ => ∃ (p l : Addr) (cells : List Int) (i r t : Int), vs = [.ref p] ∧ HandAt H p l cells i r t ∧
  ∀ (H' : Hp) (a : Addr) (ls : List V) (i' r' t' : Int), Kept p H H' → HandAt H' p l cells i' r' t' → H' a = some (.lst ls) → a ≠ p → (∀ x ∈ ls, lvOk x = true ∧ Fl x ∧ plainV x = true) → ls.length ≤ 5 → Q (.ref a) H'
section
variable {P : Program} {w : World} {K : PySem.W.Frag} {mg : Str → Option Value} {base : Heap}
theorem scEn : FnScope ["_law_hand_here", "_law_many_here", "_law_k"] ["_law_hand_here"] (defScope sEntries) := ⟨rfl, rfl, rfl, by decide +kernel, rfl, by decide +kernel, by decide +kernel⟩
theorem ok_en {f fD fP fC : Addr} {fd fdD fdP fdC : FuncData} (F : FnP K "_law_entries" sEntries f fd) (z_range : mg "range" = none) (z_list : mg "list" = none) (dD : Df P w K mg base "_law_draw" 2 ["_law_hand_here", "_law_many_here"] spDraw fD fdD)
    (dP : Df P w K mg base "_law_pick" 3 ["_law_hand_here", "_law_things"] (spPick K) fP fdP) (dC : Df P w K mg base "_law_classes" 1 ["_law_things"] (spCls K) fC fdC) : FnOk P w K mg base CX0 4 f fd ["_law_hand_here"] spEn := by
  refine F.ok scEn (fun vs H Q E h => ?_) (fun cdv A outer s H vs Q E hr3 h => ?_)
  · obtain ⟨p, l, cells, i, r, t, rfl, _⟩ := h
    rfl
  · obtain ⟨p, l, cells, i, r, t, rfl, hh, q⟩ := h
    have hr1 := hr3.mono (show 1 ≤ 3 by decide)
    have hr2 := hr3.mono (show 2 ≤ 3 by decide)
    refine ⟨_, PSs.nox (pss_cons (ps_set (i := 1) scEn.nd rfl (.inl rfl) (pe_call dD.ok hr2 (by rfl) dD.gl dD.kp dD.bi .nil pass0 (pa_cons (pv 0) (pa_cons pe_int pa_nil))))
    (pss_one (ps_ret (pe_callTy call_list_of (by rfl) z_list (by decide +kernel) (pa_cons (pe_call dC.ok hr1 (by rfl) dC.gl dC.kp dC.bi .nil pass0 (pa_cons (pe_lc (own := [("_law_k", 2)]) (g := gName 2) (tt := tYes) rfl scEn.nd (pi_range1 (by rfl) z_range (pa_cons (pv 1) pa_nil)) (blkOk_by (N := ["_law_hand_here", "_law_many_here", "_law_k"]) (sc := defScope sEntries) (by decide +kernel)) (fun _ _ _ _ _ => pg_name (i := 2) scEn.nd rfl (Or.inl rfl)) (fun _ _ _ _ _ => pts_nil) (fun _ _ _ _ _ => (pe_call dP.ok hr3 (by rfl) dP.gl dP.kp dP.bi .nil pass0 (pa_cons (pv 0) (pa_cons (pe_lst (pa_cons pe_non (pa_cons pe_int (pa_cons pe_int (pa_cons pe_int (pa_cons pe_int (pa_cons pe_int (pa_cons pe_int pa_nil)))))))) pa_nil))))) pa_nil)) pa_nil))))), ?_⟩
    refine ⟨_, rfl, p, l, cells, i, r, t, _, rfl, hh, by decide, by decide +kernel, fun d i1 r1 t1 d0 d1 ok1 => ?_⟩
    have hh1 := hand_upd hh ok1
    have kk : Kept p H (upd H p (handO l i1 r1 t1)) := Kept.upd
    generalize upd H p (handO l i1 r1 t1) = H1 at hh1 kk ⊢
    refine ⟨_, rfl, d, rfl, by omega, by omega, fun D nD => ?_⟩
    have Dp : D ≠ p := Ne.symm (ne_of_none hh1.1 nD)
    have Dl : D ≠ l := Ne.symm (ne_of_none hh1.2.1 nD)
    refine lc_it walk_range (fun k H' => Kept p H H' ∧ ∃ (acc : List V) (i r t : Int), H' D = some (.lst acc) ∧ acc.length = k ∧ (∀ x ∈ acc, isE x) ∧ HandAt H' p l cells i r t) ⟨kk.trans (Kept.new nD), [], i1, r1, t1, upd_same, rfl, fun x h => (by cases h), hand_same hh1 (same_upd nD)⟩ (fun _ _ _ _ => trivial) ?_ ?_
    · rintro k y H2 H3 hk ⟨k2, acc, i2, r2, t2, eD, hacc, he, hh2⟩ ⟨rfl, rfl⟩
      refine ⟨rfl, ?_⟩
      refine ⟨_, rfl, (by show 7 ≤ sizeLine; decide), fun L nL => ?_⟩
      have sL := same_upd (o := .lst [.non, .int 0, .int 1, .int 2, .int 3, .int 4, .int 5]) nL
      have hhL := hand_same hh2 sL
      have eL := upd_same (H := H3) (a := L) (o := .lst [.non, .int 0, .int 1, .int 2, .int 3, .int 4, .int 5])
      have Lp : L ≠ p := Ne.symm (ne_of_none hh2.1 nL)
      have eD2 := sL _ _ eD
      have kL := k2.trans (Kept.same sL)
      generalize upd H3 L (.lst [.non, .int 0, .int 1, .int 2, .int 3, .int 4, .int 5]) = H4 at hhL eL eD2 kL ⊢
      refine ⟨p, l, cells, i2, r2, t2, hhL, .inl ⟨L, _, rfl, SqL.of eL, Lp, (by show 0 < 7; decide), (by show 7 ≤ 1000; decide), fun v i3 r3 t3 hv ok3 => ?_⟩⟩
      have iv : isE v := by
        simp only [List.mem_cons, List.not_mem_nil, or_false] at hv
        rcases hv with rfl | rfl | rfl | rfl | rfl | rfl | rfl
        · exact .inl rfl
        all_goals exact .inr ⟨_, rfl⟩
      have eD3 := (upd_ne (o := handO l i3 r3 t3) Dp).trans eD2
      refine ⟨acc, eD3, by rw [hacc]; exact Nat.lt_trans (show k < 7 by omega) (by decide), ?_⟩
      have hh3 := hand_upd hhL ok3
      exact ⟨Kept.put kk nD (kL.trans Kept.upd), acc ++ [v], i3, r3, t3, upd_same, by rw [List.length_append, hacc]; rfl, isE_snoc he iv, hand_ne hh3 Dp Dl⟩
    · rintro H2 ⟨k2, acc, i2, r2, t2, eD, hacc, he, hh2⟩
      refine ⟨D, acc, rfl, SqL.of eD, by omega, he, fun H3 T fs c s3 hT hc hl hf => ?_⟩
      refine ⟨T, fs, rfl, .inr (SqT.of hT), fun a na => ?_⟩
      refine q _ a fs c i2 r2 t2 ((k2.trans (Kept.same s3)).trans (Kept.new na)) (hand_same (hand_same hh2 s3) (same_upd na)) upd_same (Ne.symm (ne_of_none (s3 _ _ hh2.1) na)) hc hf (by omega)
theorem scLvs : FnScope ["_law_hand_here", "_law_k"] ["_law_hand_here"] (defScope sDrawnLives) := ⟨rfl, rfl, rfl, by decide +kernel, rfl, by decide +kernel, by decide +kernel⟩
theorem ok_lvs {f fD fP : Addr} {fd fdD fdP : FuncData} (F : FnP K "_law_drawn_lives" sDrawnLives f fd) (z_range : mg "range" = none) (dD : Df P w K mg base "_law_draw" 2 ["_law_hand_here", "_law_many_here"] spDraw fD fdD)
    (dP : Df P w K mg base "_law_pick" 3 ["_law_hand_here", "_law_things"] (spPick K) fP fdP) : FnOk P w K mg base CX0 4 f fd ["_law_hand_here"] spLvs := by
  refine F.ok scLvs (fun vs H Q E h => ?_) (fun cdv A outer s H vs Q E hr3 h => ?_)
  · obtain ⟨p, l, cells, i, r, t, rfl, _⟩ := h
    rfl
  · obtain ⟨p, l, cells, i, r, t, rfl, hh, q⟩ := h
    have hr2 := hr3.mono (show 2 ≤ 3 by decide)
    refine ⟨_, PSs.nox (pss_one (ps_ret (pe_lc (own := [("_law_k", 1)]) (g := gName 1) (tt := tYes) rfl scLvs.nd (pi_range1 (by rfl) z_range (pa_cons (pe_call dD.ok hr2 (by rfl) dD.gl dD.kp dD.bi .nil pass0 (pa_cons (pv 0) (pa_cons pe_int pa_nil))) pa_nil)) (blkOk_by (N := ["_law_hand_here", "_law_k"]) (sc := defScope sDrawnLives) (by decide +kernel)) (fun _ _ _ _ _ => pg_name (i := 1) scLvs.nd rfl (Or.inl rfl)) (fun _ _ _ _ _ => pts_nil) (fun _ _ _ _ _ => (pe_call dP.ok hr3 (by rfl) dP.gl dP.kp dP.bi .nil pass0 (pa_cons (pv 0) (pa_cons (pe_lst (pa_cons pe_str (pa_cons pe_str (pa_cons pe_non pa_nil)))) pa_nil))))))), ?_⟩
    refine ⟨_, rfl, p, l, cells, i, r, t, _, rfl, hh, by decide, by decide +kernel, fun d i1 r1 t1 d0 d1 ok1 => ?_⟩
    have hh1 := hand_upd hh ok1
    have kk : Kept p H (upd H p (handO l i1 r1 t1)) := Kept.upd
    generalize upd H p (handO l i1 r1 t1) = H1 at hh1 kk ⊢
    refine ⟨d, rfl, by omega, by omega, fun D nD => ?_⟩
    have Dp : D ≠ p := Ne.symm (ne_of_none hh1.1 nD)
    have Dl : D ≠ l := Ne.symm (ne_of_none hh1.2.1 nD)
    refine lc_it walk_range (fun k H' => Kept p H H' ∧ ∃ (acc : List V) (i r t : Int), H' D = some (.lst acc) ∧ acc.length = k ∧ (∀ x ∈ acc, lvOk x = true ∧ Fl x ∧ plainV x = true) ∧ HandAt H' p l cells i r t) ⟨kk.trans (Kept.new nD), [], i1, r1, t1, upd_same, rfl, fun x h => (by cases h), hand_same hh1 (same_upd nD)⟩ (fun _ _ _ _ => trivial) ?_ ?_
    · rintro k y H2 H3 hk ⟨k2, acc, i2, r2, t2, eD, hacc, he, hh2⟩ ⟨rfl, rfl⟩
      refine ⟨rfl, ?_⟩
      refine ⟨_, rfl, (by show 3 ≤ sizeLine; decide), fun L nL => ?_⟩
      have sL := same_upd (o := .lst [.str "alive", .str "dead", .non]) nL
      have hhL := hand_same hh2 sL
      have eL := upd_same (H := H3) (a := L) (o := .lst [.str "alive", .str "dead", .non])
      have Lp : L ≠ p := Ne.symm (ne_of_none hh2.1 nL)
      have eD2 := sL _ _ eD
      have kL := k2.trans (Kept.same sL)
      generalize upd H3 L (.lst [.str "alive", .str "dead", .non]) = H4 at hhL eL eD2 kL ⊢
      refine ⟨p, l, cells, i2, r2, t2, hhL, .inl ⟨L, _, rfl, SqL.of eL, Lp, (by show 0 < 3; decide), (by show 3 ≤ 1000; decide), fun v i3 r3 t3 hv ok3 => ?_⟩⟩
      have iv : lvOk v = true ∧ Fl v ∧ plainV v = true := by
        simp only [List.mem_cons, List.not_mem_nil, or_false] at hv
        rcases hv with rfl | rfl | rfl
        · exact ⟨by decide +kernel, .str _ (by decide +kernel) (by decide +kernel), rfl⟩
        · exact ⟨by decide +kernel, .str _ (by decide +kernel) (by decide +kernel), rfl⟩
        · exact ⟨rfl, .non, rfl⟩
      have eD3 := (upd_ne (o := handO l i3 r3 t3) Dp).trans eD2
      refine ⟨acc, eD3, by rw [hacc]; exact Nat.lt_trans (show k < 5 by omega) (by decide), ?_⟩
      have hh3 := hand_upd hhL ok3
      exact ⟨Kept.put kk nD (kL.trans Kept.upd), acc ++ [v], i3, r3, t3, upd_same, by rw [List.length_append, hacc]; rfl, fun x hx => (by
        rcases List.mem_append.mp hx with hx | hx
        · exact he x hx
        · rw [List.mem_singleton] at hx
          rw [hx]
          exact iv), hand_ne hh3 Dp Dl⟩
    · rintro H2 ⟨k2, acc, i2, r2, t2, eD, hacc, he, hh2⟩
      exact q _ D acc i2 r2 t2 k2 hh2 eD Dp he (by omega)
end
end K35

/-! pairs drawn; the first word; good or spoilt -/
namespace K35
open PySem PySem.Spec PyProof.Rows L2
/-- a list of lists -/
def LL (H : Hp) (a : Addr) (ps : List (List V)) : Prop := ∃ ts : List Addr, H a = some (.lst (ts.map V.ref)) ∧ ts.length = ps.length ∧ ∀ (j : Nat) (t : Addr), ts[j]? = some t → ∃ ys, ps[j]? = some ys ∧ H t = some (.lst ys)
theorem lst_ne {H H' : Hp} {p l a : Addr} {i r t : Int} {ys : List V} (hp : H p = some (handO l i r t)) (ha : H a = some (.lst ys)) (h : ys.length ≠ 4) : a ≠ p := fun z => by
  rw [z, hp] at ha
  have h2 := Option.some.inj ha
  injection h2 with h3
  rw [← h3] at h
  exact h rfl
theorem LL.same {H H' : Hp} {a : Addr} {ps : List (List V)} (h : LL H a ps) (s : Same H H') : LL H' a ps := by
  obtain ⟨ts, h1, h2, h3⟩ := h
  exact ⟨ts, s _ _ h1, h2, fun j t e => let ⟨ys, e1, e2⟩ := h3 j t e; ⟨ys, e1, s _ _ e2⟩⟩
def spMks : Sp := fun vs H Q _ => ∃ (p l : Addr) (cells : List Int) (i r t : Int) (c : Nat), vs = [.ref p, .int (c : Int)] ∧ c ≤ 40 ∧ HandAt H p l cells i r t ∧
  ∀ (H' : Hp) (a : Addr) (ps : List (List V)) (i' r' t' : Int), Kept p H H' → HandAt H' p l cells i' r' t' → LL H' a ps → H a = none → (∀ H'', Kept p H' H'' → LL H'' a ps) → (∀ ys ∈ ps, ∃ i j : Int, ys = [.int i, .int j]) → ps.length ≤ 41 → bOk c 0 (ps.map some) = true → Q (.ref a) H'
section
variable {P : Program} {w : World} {K : PySem.W.Frag} {mg : Str → Option Value} {base : Heap}
theorem scMks : FnScope ["_law_hand_here", "_law_many_here", "_law_pairs", "_law_number"] ["_law_hand_here", "_law_many_here"] (defScope sDrawnMarks) := ⟨rfl, rfl, rfl, by decide +kernel, rfl, by decide +kernel, by decide +kernel⟩
theorem ok_mks {f fD : Addr} {fd fdD : FuncData} (F : FnP K "_law_drawn_marks" sDrawnMarks f fd) (z_range : mg "range" = none) (dD : Df P w K mg base "_law_draw" 2 ["_law_hand_here", "_law_many_here"] spDraw fD fdD) :
    FnOk P w K mg base CX0 3 f fd ["_law_hand_here", "_law_many_here"] spMks := by
  refine F.ok scMks (fun vs H Q E h => ?_) (fun cdv A outer s H vs Q E hr2 h => ?_)
  · obtain ⟨p, l, cells, i, r, t, c, rfl, _⟩ := h
    rfl
  · obtain ⟨p, l, cells, i, r, t, c, rfl, hc, hh, q⟩ := h
    refine ⟨_, PSs.nox (pss_cons (ps_set (i := 2) scMks.nd rfl (.inl rfl) (pe_lst pa_nil))
    (pss_cons (ps_for PassesOwn.never rfl (pi_range1 (by rfl) z_range (pa_cons (pe_op op_add (pv 1) pe_int) pa_nil)) (pg_name (i := 3) scMks.nd rfl (.inl rfl))
      (pss_one (ps_if (pt_cmpR op_eq (pe_call dD.ok hr2 (by rfl) dD.gl dD.kp dD.bi .nil pass0 (pa_cons (pv 0) (pa_cons pe_int pa_nil))) pe_int (nomark _))
        (pss_one (ps_expr (pe_bm PySem.F.plainAttrs_list PySem.F.slot_list_append PySem.F.type_list_append mt_append (pv 2) (pa_cons (pe_lst (pa_cons (pv 3) (pa_cons (pe_call dD.ok hr2 (by rfl) dD.gl dD.kp dD.bi .nil pass0 (pa_cons (pv 0) (pa_cons pe_int pa_nil))) pa_nil))) pa_nil))))
        pss_nil)))
    (pss_one (ps_ret (pv 2))))), ?_⟩
    refine ⟨Nat.zero_le _, fun D nD => ?_⟩
    have Dp : D ≠ p := Ne.symm (ne_of_none hh.1 nD)
    have Dl : D ≠ l := Ne.symm (ne_of_none hh.2.1 nD)
    have nm : ((c : Int) + 1).toNat = c + 1 := by omega
    refine ⟨_, rfl, _, _, rfl, rfl, (c : Int) + 1, rfl, by omega, by omega, ?_⟩
    rw [nm]
    refine for_it walk_range (fun k σ H' => ∃ (x3 : Option V) (ts : List Addr) (ps : List (List V)) (i r t : Int), σ = [some (.ref p), some (.int (c : Int)), some (.ref D), x3] ∧ H' D = some (.lst (ts.map V.ref)) ∧ ts.length = ps.length ∧ ps.length ≤ k ∧
        (∀ (j : Nat) (t : Addr), ts[j]? = some t → ∃ ys, ps[j]? = some ys ∧ H' t = some (.lst ys) ∧ t ≠ p ∧ t ≠ D) ∧ (∀ ys ∈ ps, ∃ i j : Int, ys = [.int i, .int j]) ∧ (∀ qs, (∀ l : Int, l ≤ k → bOk c l qs = true) → bOk c 0 (ps.map some ++ qs) = true) ∧ Kept p H H' ∧ HandAt H' p l cells i r t)
      ⟨none, [], [], i, r, t, rfl, upd_same, rfl, Nat.le_refl _, fun j t h => (by cases h), fun ys h => (by cases h), fun qs h => h 0 (Int.le_refl _), Kept.new nD, hand_same hh (same_upd nD)⟩ (fun _ _ _ _ _ => trivial) ?_ ?_
    · rintro k y σ H1 H2 hk ⟨x3, ts, ps, i1, r1, t1, rfl, eD, hlen, hle, htt, hps, hb, kk, hh1⟩ ⟨rfl, rfl⟩
      refine ⟨_, rfl, p, l, cells, i1, r1, t1, _, rfl, hh1, by decide, by decide +kernel, fun d i2 r2 t2 d0 d1 ok2 => ?_⟩
      have hh2 := hand_upd hh1 ok2
      have k2 : Kept p H2 (upd H2 p (handO l i2 r2 t2)) := Kept.upd
      have eD2 := k2 _ _ Dp eD
      generalize upd H2 p (handO l i2 r2 t2) = H3 at hh2 k2 eD2 ⊢
      refine ⟨rfl, _, rfl, ite2 (fun g => ?_) (fun g => ?_)⟩
      · refine ⟨_, rfl, .inl ⟨rfl, _, SqL.of eD2⟩, _, rfl, _, rfl, p, l, cells, i2, r2, t2, _, rfl, hh2, by decide, by decide +kernel, fun d3 i3 r3 t3 d30 d31 ok3 => ⟨(by show 2 ≤ sizeLine; decide), fun T nT => ?_⟩⟩
        have hh3 := hand_upd hh2 ok3
        have k3 : Kept p H3 (upd H3 p (handO l i3 r3 t3)) := Kept.upd
        have eD3 := k3 _ _ Dp eD2
        generalize upd H3 p (handO l i3 r3 t3) = H4 at hh3 k3 eD3 nT ⊢
        have sT := same_upd (o := .lst [.int (0 + (k : Int)), .int d3]) nT
        have Tp : T ≠ p := Ne.symm (ne_of_none hh3.1 nT)
        have TD : T ≠ D := Ne.symm (ne_of_none eD3 nT)
        have hhT := hand_same hh3 sT
        have eDT := sT _ _ eD3
        have eT := upd_same (H := H4) (a := T) (o := .lst [.int (0 + (k : Int)), .int d3])
        have kT : Kept p H2 _ := (k2.trans k3).trans (Kept.same sT)
        generalize upd H4 T (.lst [.int (0 + (k : Int)), .int d3]) = H5 at hhT eDT eT kT ⊢
        refine ⟨D, _, _, rfl, rfl, eDT, ?_, ?_⟩
        · rw [List.length_map, hlen]
          exact Nat.lt_of_le_of_lt hle (Nat.lt_trans (show k < 42 by omega) (by decide))
        · refine ⟨_, ts ++ [T], ps ++ [[.int (0 + (k : Int)), .int d3]], i3, r3, t3, rfl, by rw [upd_same, List.map_append]; rfl, by rw [List.length_append, List.length_append, hlen]; rfl, by rw [List.length_append]; exact Nat.succ_le_succ hle, fun j t e => ?_, fun ys hy => ?_, fun qs h => ?_, Kept.put (Kept.refl) nD (kk.trans kT), hand_ne hhT Dp Dl⟩
          · by_cases hlt : j < ts.length
            · rw [List.getElem?_append_left hlt] at e
              obtain ⟨ys, h1, h2, h3, tD⟩ := htt j t e
              refine ⟨ys, ?_, (upd_ne tD).trans (kT _ _ h3 h2), h3, tD⟩
              rw [List.getElem?_append_left (by omega)]
              exact h1
            · have ej : j = ts.length := by
                have z := (List.getElem?_eq_some_iff.mp e).1
                rw [List.length_append] at z
                have z2 : ([T] : List Addr).length = 1 := rfl
                omega
              subst ej
              rw [List.getElem?_append_right (Nat.le_refl _), Nat.sub_self] at e
              have eu := Option.some.inj e
              subst eu
              refine ⟨_, ?_, (upd_ne TD).trans eT, Tp, TD⟩
              rw [hlen, List.getElem?_append_right (Nat.le_refl _), Nat.sub_self]
              rfl
          · rcases List.mem_append.mp hy with hy | hy
            · exact hps ys hy
            · rw [List.mem_singleton] at hy
              exact ⟨_, _, hy⟩
          · rw [List.map_append, List.append_assoc]
            refine hb _ fun m hm => ?_
            show ((wholeV (.int (0 + (k : Int))) m c && wholeV (.int d3) 0 2) && bOk c (0 + (k : Int) + 1) qs) = true
            rw [Int.zero_add]
            have w1 : wholeV (.int (k : Int)) m c = true := Bool.and_eq_true_iff.mpr ⟨decide_eq_true hm, decide_eq_true (by omega)⟩
            have w2 : wholeV (.int d3) 0 2 = true := Bool.and_eq_true_iff.mpr ⟨decide_eq_true d30, decide_eq_true (by omega)⟩
            rw [w1, w2, h _ (by omega)]
            rfl
      · refine ⟨_, ts, ps, i2, r2, t2, rfl, eD2, hlen, Nat.le_succ_of_le hle, fun j t e => ?_, hps, fun qs h => hb qs fun l hl => h l (by omega), kk.trans k2, hh2⟩
        obtain ⟨ys, h1, h2, h3, h4⟩ := htt j t e
        exact ⟨ys, h1, k2 _ _ h3 h2, h3, h4⟩
    · rintro σ H1 ⟨x3, ts, ps, i1, r1, t1, rfl, eD, hlen, hle, htt, hps, hb, kk, hh1⟩
      refine ⟨_, rfl, q H1 D ps i1 r1 t1 kk hh1 ⟨ts, eD, hlen, fun j t e => ?_⟩ nD (fun H2 k2 => ⟨ts, k2 _ _ Dp eD, hlen, fun j t e => ?_⟩) hps (by omega) ?_⟩
      · obtain ⟨ys, h1, h2, _⟩ := htt j t e
        exact ⟨ys, h1, h2⟩
      · obtain ⟨ys, h1, h2, h3⟩ := htt j t e
        exact ⟨ys, h1, k2 _ _ h3.1 h2⟩
      · have z := hb [] (fun l _ => rfl)
        rw [List.append_nil] at z
        exact z
end
end K35

/-! the first word that is one; a good thing or a spoilt one -/
namespace K35
open PySem PySem.Spec PyProof.Rows L2
def wV : Option Str → V
  | none => .non
  | some z => .str z
def firstW : List (Option Str) → Option Str
  | [] => none
  | none :: r => firstW r
  | some z :: _ => some z
def fw (ws : List (Option Str)) : List Str := ws.filterMap id
theorem firstW_eq : ∀ ws : List (Option Str), firstW ws = (fw ws).head?
  | [] => rfl
  | none :: r => firstW_eq r
  | some z :: r => rfl
theorem fw_some {ws : List (Option Str)} {k : Nat} {z : Str} (h : ws[k]? = some (some z)) : fw (ws.take (k + 1)) = fw (ws.take k) ++ [z] := by
  rw [List.take_succ, h]
  unfold fw
  rw [List.filterMap_append]
  rfl
theorem fw_none {ws : List (Option Str)} {k : Nat} (h : ws[k]? = some none) : fw (ws.take (k + 1)) = fw (ws.take k) := by
  rw [List.take_succ, h]
  unfold fw
  rw [List.filterMap_append]
  exact List.append_nil _
theorem fw_len (ws : List (Option Str)) (k : Nat) : (fw (ws.take k)).length ≤ k :=
  Nat.le_trans (List.length_filterMap_le id _) (by rw [List.length_take]; exact Nat.min_le_left _ _)
theorem fw_lay : ∀ {ws : List (Option Str)}, ws.all (fun o => match o with | none => true | some z => (PyData.str z).canLay0) = true → PyData.canLayAll0 ((fw ws).map PyData.str) = true
  | [], _ => rfl
  | none :: r, h => fw_lay (ws := r) h
  | some z :: r, h => by
    obtain ⟨h1, h2⟩ := Bool.and_eq_true_iff.mp (show ((PyData.str z).canLay0 && r.all _) = true from h)
    exact Bool.and_eq_true_iff.mpr ⟨h1, fw_lay h2⟩
theorem fw_deep : ∀ xs : List Str, PyData.depthAll (xs.map PyData.str) = 0
  | [] => rfl
  | x :: xs => by
    show max 0 (PyData.depthAll (xs.map PyData.str)) = 0
    rw [fw_deep xs]
    rfl
theorem dp_strs {K : PySem.W.Frag} {H : Hp} : ∀ xs : List Str, DpAll K H (xs.map V.str) (xs.map PyData.str)
  | [] => .nil
  | x :: xs => .cons (.str x) (dp_strs xs)
def spFirst : Sp := fun vs H Q _ => ∃ (a : Addr) (ws : List (Option Str)), vs = [.ref a] ∧ H a = some (.lst (ws.map wV)) ∧ ws.length ≤ 20 ∧ ws.all (fun o => match o with | none => true | some z => (PyData.str z).canLay0) = true ∧ ∀ H' : Hp, Same H H' → Q (wV (firstW ws)) H'
section
variable {P : Program} {w : World} {K : PySem.W.Frag} {mg : Str → Option Value} {base : Heap}
theorem scFirst : FnScope ["_law_words", "_law_found", "_law_word"] ["_law_words"] (defScope sFirst) := ⟨rfl, rfl, rfl, by decide +kernel, rfl, by decide +kernel, by decide +kernel⟩
theorem ok_first {f : Addr} {fd : FuncData} (F : FnP K "_law_first" sFirst f fd) : FnOk P w K mg base CX0 1 f fd ["_law_words"] spFirst := by
  refine F.ok scFirst (fun vs H Q E h => ?_) (fun cdv A outer s H vs Q E hr h => ?_)
  · obtain ⟨a, ws, rfl, _⟩ := h
    rfl
  · obtain ⟨a, ws, rfl, ha, hl, hc, q⟩ := h
    refine ⟨_, PSs.nox (pss_cons (ps_setLc (i := 1) (own := [("_law_word", 2)]) (g := gName 2) (tt := tTest (tOp _ _ _)) rfl scFirst.nd rfl rfl (sw_true rfl rfl rfl (by decide +kernel)) (pi_list (pv 0)) (blkOk_by (N := ["_law_words", "_law_found", "_law_word"]) (sc := defScope sFirst) (by decide +kernel)) (fun _ _ _ _ _ => pg_name (i := 2) scFirst.nd rfl (Or.inl rfl)) (fun _ _ _ _ _ => pts_one (pt_cmpR op_notN (pv 2) pe_non (nomark _))) (fun _ _ _ _ _ => (pv 2)))
    (pss_one (ps_ret (pe_ifExp (pt_cmpR (op_neD hr.units) (pv 1) (pe_lst pa_nil) (nomark _)) (pe_ix ix_list (pv 1) pe_int (fun _ _ => rfl)) pe_non)))), ?_⟩
    refine ⟨_, rfl, a, rfl, ⟨_, SqL.of ha⟩, fun D nD => ?_⟩
    have hDn : ∀ b o, H b = some o → b ≠ D := fun b o e => ne_of_none e nD
    refine lc_it walk_list (fun k H' => Same H H' ∧ H' D = some (.lst ((fw (ws.take k)).map V.str))) ⟨same_upd nD, upd_same⟩ (fun _ _ _ h => SqL.of (h.1 _ _ ha)) ?_ ?_
    · rintro k y H1 H2 hk ⟨s1, eD⟩ ⟨eH, hy⟩
      subst eH
      rw [List.getElem?_map] at hy
      have hk2 : k < ws.length := by rw [List.length_map] at hk; exact hk
      rw [List.getElem?_eq_getElem hk2] at hy
      have ew := List.getElem?_eq_getElem hk2
      generalize ws[k] = o at hy ew
      injection hy with hy
      refine ⟨rfl, ?_⟩
      cases o with
      | none =>
        subst hy
        refine ⟨_, rfl, rfl, _, rfl, iteF ⟨s1, ?_⟩⟩
        rw [fw_none ew]
        exact eD
      | some z =>
        subst hy
        refine ⟨_, rfl, rfl, _, rfl, iteT ⟨_, rfl, _, eD, ?_, (fun b o e => (upd_ne (hDn b o e)).trans (s1 _ _ e)), ?_⟩⟩
        · rw [List.length_map]
          exact Nat.lt_of_le_of_lt (fw_len _ _) (Nat.lt_of_lt_of_le hk2 (Nat.le_trans hl (by decide)))
        · rw [fw_some ew, List.map_append]
          exact upd_same
    · rintro H1 ⟨s1, eD⟩
      rw [List.length_map, List.take_of_length_le (Nat.le_refl _)] at eD
      refine ⟨_, rfl, (by decide), fun T nT => ?_⟩
      have sT := s1.trans (same_upd (o := .lst []) nT)
      have eT := upd_same (H := H1) (a := T) (o := .lst [])
      have eD2 := same_upd (o := .lst []) nT _ _ eD
      generalize upd H1 T (.lst []) = H2 at sT eT eD2 ⊢
      refine ⟨_, _, .lst (SqL.of eD2) (dp_strs _), .lst (SqL.of eT) .nil, ?_, by decide, _, rfl, ?_⟩
      · refine Bool.and_eq_true_iff.mpr ⟨fw_lay hc, decide_eq_true ?_⟩
        show PyData.depthAll ((fw ws).map PyData.str) + 1 ≤ 64
        rw [fw_deep]
        decide
      · rw [firstW_eq] at q
        generalize fw ws = fs at eD2 q ⊢
        cases fs with
        | nil => exact iteF (q _ sT)
        | cons z zs => exact iteT ⟨_, rfl, D, _, 0, _, rfl, rfl, SqL.of eD2, atI_nat (xs := (z :: zs).map V.str) (j := 0) rfl, q _ sT⟩
def spSpoilt (K : PySem.W.Frag) : Sp := fun vs H Q _ => ∃ (p l : Addr) (cells : List Int) (i r t : Int) (g : V) (a : Addr) (xs : List V) (z : Str), vs = [.ref p, g, .ref a, .str z] ∧ HandAt H p l cells i r t ∧ SqL K H a xs ∧ a ≠ p ∧ 0 < xs.length ∧ xs.length ≤ 1000 ∧
  ∀ (v : V) (o : Option Str), (v = g ∧ o = none ∨ v ∈ xs ∧ o = some z) → ∀ (H' : Hp) (T : Addr) (i' r' t' : Int), Kept p H H' → HandAt H' p l cells i' r' t' → H' T = some (.tup [v, wV o]) → Q (.ref T) H'
theorem scSpoilt : FnScope ["_law_hand_here", "_law_good", "_law_bad", "_law_word"] ["_law_hand_here", "_law_good", "_law_bad", "_law_word"] (defScope sSpoilt) := ⟨rfl, rfl, rfl, by decide +kernel, rfl, by decide +kernel, by decide +kernel⟩
theorem ok_spoilt {f fD fP : Addr} {fd fdD fdP : FuncData} (F : FnP K "_law_spoilt" sSpoilt f fd) (dD : Df P w K mg base "_law_draw" 2 ["_law_hand_here", "_law_many_here"] spDraw fD fdD)
    (dP : Df P w K mg base "_law_pick" 3 ["_law_hand_here", "_law_things"] (spPick K) fP fdP) : FnOk P w K mg base CX0 4 f fd ["_law_hand_here", "_law_good", "_law_bad", "_law_word"] (spSpoilt K) := by
  refine F.ok scSpoilt (fun vs H Q E h => ?_) (fun cdv A outer s H vs Q E hr3 h => ?_)
  · obtain ⟨p, l, cells, i, r, t, g, a, xs, z, rfl, _⟩ := h
    rfl
  · obtain ⟨p, l, cells, i, r, t, g, a, xs, z, rfl, hh, hS, nap, h0, h1, q⟩ := h
    have hr2 := hr3.mono (show 2 ≤ 3 by decide)
    refine ⟨_, PSs.nox (pss_cons (ps_if (pt_cmpR op_gt (pe_call dD.ok hr2 (by rfl) dD.gl dD.kp dD.bi .nil pass0 (pa_cons (pv 0) (pa_cons pe_int pa_nil))) pe_int (nomark _))
      (pss_one (ps_ret (pe_tup (pa_cons (pv 1) (pa_cons pe_non pa_nil)))))
      pss_nil)
    (pss_one (ps_ret (pe_tup (pa_cons (pe_call dP.ok hr3 (by rfl) dP.gl dP.kp dP.bi .nil pass0 (pa_cons (pv 0) (pa_cons (pv 2) pa_nil))) (pa_cons (pv 3) pa_nil)))))), ?_⟩
    refine ⟨_, rfl, p, l, cells, i, r, t, _, rfl, hh, by decide, by decide +kernel, fun d i1 r1 t1 d0 d1 ok1 => ?_⟩
    have hh1 := hand_upd hh ok1
    have k1 : Kept p H (upd H p (handO l i1 r1 t1)) := Kept.upd
    generalize upd H p (handO l i1 r1 t1) = H1 at hh1 k1 ⊢
    refine ⟨_, _, rfl, rfl, _, rfl, ite2 (fun _ => ?_) (fun _ => ?_)⟩
    · refine ⟨_, rfl, (by show 2 ≤ sizeLine; decide), fun T nT => ?_⟩
      exact q g none (.inl ⟨rfl, rfl⟩) _ T i1 r1 t1 (k1.trans (Kept.new nT)) (hand_same hh1 (same_upd nT)) upd_same
    · refine ⟨_, rfl, _, rfl, p, l, cells, i1, r1, t1, hh1, .inl ⟨a, xs, rfl, k1.seq nap hS, nap, h0, h1, fun v i2 r2 t2 hv ok2 => ?_⟩⟩
      have hh2 := hand_upd hh1 ok2
      have k2 : Kept p H1 (upd H1 p (handO l i2 r2 t2)) := Kept.upd
      generalize upd H1 p (handO l i2 r2 t2) = H2 at hh2 k2 ⊢
      refine ⟨_, rfl, (by show 2 ≤ sizeLine; decide), fun T nT => ?_⟩
      exact q v (some z) (.inr ⟨hv, rfl⟩) _ T i2 r2 t2 ((k1.trans k2).trans (Kept.new nT)) (hand_same hh2 (same_upd nT)) upd_same
end
end K35

/-! a state asked for: which word -/
namespace K35
open PySem PySem.Spec PyProof.Rows L2 L2H
/-- BadState as a suite sees it -/
structure StX (P : Program) (w : World) (K : PySem.W.Frag) (mg : Str → Option Value) (CS CU : Addr) : Prop where
  gE : mg "BadState" = some (.ref CS)
  xf : XfC K CS
  exC : ExcC K CS
  nW : PySem.W.findIn K (.ref CS) "what" = some none
  ex : PySem.W.exmOne K (.ref CS) (.ref CS) = some true
  gC : mg "CustomError" = some (.ref CU)
  ki : PySem.W.kitOne K (.ref CS) (.ref CU) = some true
structure MkX (P : Program) (w : World) (K : PySem.W.Frag) (mg : Str → Option Value) (base : Heap) (x : Str) (k : Nat) (ps : List Str) (sp : Sp) (C fI : Addr) (fd : FuncData) : Prop where
  mks : Mk K C fI
  gl : mg x = some (.ref C)
  ok : FnOk P w K mg base (L2.CX P w) k fI fd ps sp
  bi : Binds K fd ps []
def spPW : Sp := fun vs H Q _ => ∃ (kv nv lv mv : V) (xs ls : List V) (o : Option Nat) (b : Bool), vs = [kv, nv, lv, mv] ∧ Fl kv ∧ Nm H nv xs o ∧ Lv H lv ls b ∧ Fl mv ∧ ∀ H' : Hp, Same H H' → Q (wV (pw kv o b mv)) H'
def spCW (K : PySem.W.Frag) : Sp := fun vs H Q _ => ∃ (nv lv sv dv bv mv : V) (xs ls qs : List V) (o : Option Nat) (b b2 b3 : Bool) (ms : List (Option (List V))), vs = [nv, lv, sv, dv, bv, mv] ∧ Nm H nv xs o ∧ Lv H lv ls b ∧ Fl sv ∧ Fl dv ∧ Bo H bv (o.getD 0) ms b2 ∧ Ms K H mv qs b3 ∧
  ∀ H' : Hp, Same H H' → Q (wV (cw o b sv dv b2 b3)) H'
theorem cw_some {o : Option Nat} {b : Bool} {sv dv : V} {b2 b3 : Bool} (h : cw o b sv dv b2 b3 = none) : ∃ c, o = some c := by
  cases o with
  | none => cases h
  | some c => exact ⟨c, rfl⟩
section
variable {P : Program} {w : World} {K : PySem.W.Frag} {mg : Str → Option Value} {base : Heap}
abbrev nmPW : List Str := ["_law_kind", "_law_names", "_law_lives", "_law_worth", "e"]
theorem scPW : FnScope nmPW ["_law_kind", "_law_names", "_law_lives", "_law_worth"] (defScope sPersonWord) := ⟨rfl, rfl, rfl, by decide +kernel, rfl, by decide +kernel, by decide +kernel⟩
theorem ok_pw {f fI CQ CS CU : Addr} {fd fdI : FuncData} (F : FnP K "_law_person_word" sPersonWord f fd) (zi : mg "isinstance" = none) (X : StX P w K mg CS CU) (M : MkX P w K mg base "PersonState" 6 ["self", "kind", "names", "lives", "mark"] (spPS CQ CS) CQ fI fdI) :
    FnOk P w K mg base CX0 8 f fd ["_law_kind", "_law_names", "_law_lives", "_law_worth"] spPW := by
  refine F.ok scPW (fun vs H Q E h => ?_) (fun cdv A outer s H vs Q E hr h => ?_)
  · obtain ⟨kv, nv, lv, mv, xs, ls, o, b, rfl, _⟩ := h
    rfl
  · obtain ⟨kv, nv, lv, mv, xs, ls, o, b, rfl, fk, nm, lvv, fm, q⟩ := h
    refine ⟨_, pss_cons (ps_try_as (i := 4)
        (tb := fun W => tDrop (tMakeS CQ (spPS CQ CS) (WE W) (tCons (tVar 0) (tCons (tVar 1) (tCons (tVar 2) (tCons (tVar 3) tNil))))))
        (ts := fun a cls d => tRet (tIf (tB (tCB (rIsD K CS a cls d) (tCons (tVar 4) (tCons (tC (.ref CU)) tNil)))) (tXf a cls d CS "what" (tVar 4)) (tC (.str "class"))))
        (Wout := fun _ _ _ _ => False) rfl rfl scPW.nd rfl rfl ⟨rfl, by decide, .inl X.gE⟩ takes0
        (fun W pn xe tk _ => pss_one (ps_expr (pe_makeS M.mks M.ok hr (by rfl) M.gl M.bi (fun σ => passAt tk σ) (pa_cons (pv 0) (pa_cons (pv 1) (pa_cons (pv 2) (pa_cons (pv 3) pa_nil)))))))
        (fun a oe cls d pn hz hf => pss_one (ps_ret (pe_ifExp (pt_val (pe_callB (call_isD X.exC hz hf) (by rfl) zi (by decide +kernel) (pa_cons (pv 4) (pa_cons (pe_glob (by rfl) X.gC (v := .ref CU) rfl (by decide +kernel)) pa_nil)))) (pe_xf X.xf X.nW hz hf (pv 4)) pe_str))))
      (pss_one (ps_ret pe_non)), ?_⟩
    refine ⟨_, rfl, _, rfl, _, rfl, _, rfl, fun x dx nx nd ne => ?_⟩
    have s0 := same_ins (C := CQ) (fs := []) nx nd ne
    refine ⟨x, dx, kv, nv, lv, mv, xs, ls, o, b, rfl, upd_same, fk, nm.same s0, lvv.same s0, fm, fun e0 H2 tn tl hx2 _ _ kp => ⟨rfl, ?_⟩, fun z ez H2 d ndd hd s2 => ?_⟩
    · rw [e0] at q
      exact q _ fun y' o' e' => kp _ _ (s0 _ _ e') (ne_of_none e' nx)
    · rw [ez] at q
      have sH := s0.trans s2
      refine ⟨true, X.ex, fun _ a0 na0 => ?_, fun z => by cases z⟩
      refine ⟨_, rfl, _, _, true, d, _, rfl, rfl, rfl, hd, fun u z => z, X.ki, _, rfl, iteT ?_⟩
      exact ⟨_, rfl, rfl, rfl, d, _, _, rfl, hd, rfl, q _ sH⟩
abbrev nmCW : List Str := ["_law_names", "_law_lives", "_law_sons", "_law_daughters", "_law_pairs", "_law_both", "e"]
theorem scCW : FnScope nmCW ["_law_names", "_law_lives", "_law_sons", "_law_daughters", "_law_pairs", "_law_both"] (defScope sCoupleWord) := ⟨rfl, rfl, rfl, by decide +kernel, rfl, by decide +kernel, by decide +kernel⟩
theorem ok_cw {f fI CC CS CU : Addr} {fd fdI : FuncData} (F : FnP K "_law_couple_word" sCoupleWord f fd) (zi : mg "isinstance" = none) (X : StX P w K mg CS CU) (M : MkX P w K mg base "CoupleState" 6 ["self", "names", "lives", "sons", "daughters", "borne", "marks"] (spCS K CC CS) CC fI fdI) :
    FnOk P w K mg base CX0 8 f fd ["_law_names", "_law_lives", "_law_sons", "_law_daughters", "_law_pairs", "_law_both"] (spCW K) := by
  refine F.ok scCW (fun vs H Q E h => ?_) (fun cdv A outer s H vs Q E hr h => ?_)
  · obtain ⟨nv, lv, sv, dv, bv, mv, xs, ls, qs, o, b, b2, b3, ms, rfl, _⟩ := h
    rfl
  · obtain ⟨nv, lv, sv, dv, bv, mv, xs, ls, qs, o, b, b2, b3, ms, rfl, nm, lvv, fs, fe, bo, mk, q⟩ := h
    refine ⟨_, pss_cons (ps_try_as (i := 6)
        (tb := fun W => tDrop (tMakeS CC (spCS K CC CS) (WE W) (tCons (tVar 0) (tCons (tVar 1) (tCons (tVar 2) (tCons (tVar 3) (tCons (tVar 4) (tCons (tVar 5) tNil))))))))
        (ts := fun a cls d => tRet (tIf (tB (tCB (rIsD K CS a cls d) (tCons (tVar 6) (tCons (tC (.ref CU)) tNil)))) (tXf a cls d CS "what" (tVar 6)) (tC (.str "class"))))
        (Wout := fun _ _ _ _ => False) rfl rfl scCW.nd rfl rfl ⟨rfl, by decide, .inl X.gE⟩ takes0
        (fun W pn xe tk _ => pss_one (ps_expr (pe_makeS M.mks M.ok hr (by rfl) M.gl M.bi (fun σ => passAt tk σ) (pa_cons (pv 0) (pa_cons (pv 1) (pa_cons (pv 2) (pa_cons (pv 3) (pa_cons (pv 4) (pa_cons (pv 5) pa_nil)))))))))
        (fun a oe cls d pn hz hf => pss_one (ps_ret (pe_ifExp (pt_val (pe_callB (call_isD X.exC hz hf) (by rfl) zi (by decide +kernel) (pa_cons (pv 6) (pa_cons (pe_glob (by rfl) X.gC (v := .ref CU) rfl (by decide +kernel)) pa_nil)))) (pe_xf X.xf X.nW hz hf (pv 6)) pe_str))))
      (pss_one (ps_ret pe_non)), ?_⟩
    refine ⟨_, rfl, _, rfl, _, rfl, _, rfl, _, rfl, _, rfl, fun x dx nx nd ne => ?_⟩
    have s0 := same_ins (C := CC) (fs := []) nx nd ne
    refine ⟨x, dx, nv, lv, sv, dv, bv, mv, xs, ls, qs, o, b, b2, b3, ms, rfl, upd_same, nm.same s0, lvv.same s0, fs, fe, bo.same s0, mk.same s0, fun c ec e0 H2 tn tl tb tm ps eps hx2 _ _ _ _ kp => ⟨rfl, ?_⟩, fun z ez H2 d ndd hd s2 => ?_⟩
    · rw [e0] at q
      exact q _ fun y' o' e' => kp _ _ (s0 _ _ e') (ne_of_none e' nx)
    · rw [ez] at q
      have sH := s0.trans s2
      refine ⟨true, X.ex, fun _ a0 na0 => ?_, fun z => by cases z⟩
      refine ⟨_, rfl, _, _, true, d, _, rfl, rfl, rfl, hd, fun u z => z, X.ki, _, rfl, iteT ?_⟩
      exact ⟨_, rfl, rfl, rfl, d, _, _, rfl, hd, rfl, q _ sH⟩
end
end K35

/-! lists written out, with lists and tuples within -/
namespace K35
open PySem PySem.Spec PyProof.Rows L2 L2H
inductive Lit where
  | v (x : V)
  | l (xs : List Lit)
  | t (xs : List Lit)
/-- new behind B -/
inductive LitAt (B H : Hp) : V → Lit → Prop where
  | v (x : V) : LitAt B H x (.v x)
  | l {a : Addr} {xs : List V} {ys : List Lit} (n : B a = none) (h : H a = some (.lst xs)) (hl : xs.length = ys.length) (k : ∀ (i : Nat) (x : V) (y : Lit), xs[i]? = some x → ys[i]? = some y → LitAt B H x y) : LitAt B H (.ref a) (.l ys)
  | t {a : Addr} {xs : List V} {ys : List Lit} (n : B a = none) (h : H a = some (.tup xs)) (hl : xs.length = ys.length) (k : ∀ (i : Nat) (x : V) (y : Lit), xs[i]? = some x → ys[i]? = some y → LitAt B H x y) : LitAt B H (.ref a) (.t ys)
theorem LitAt.same {B H H' : Hp} {x : V} {y : Lit} (h : LitAt B H x y) (s : Same H H') : LitAt B H' x y := by
  induction h with
  | v x => exact .v x
  | l n h hl _ ih => exact .l n (s _ _ h) hl ih
  | t n h hl _ ih => exact .t n (s _ _ h) hl ih
theorem LitAt.base {B B' H : Hp} {x : V} {y : Lit} (h : LitAt B' H x y) (s : Same B B') : LitAt B H x y := by
  induction h with
  | v x => exact .v x
  | l n h hl _ ih => exact .l (none_of s n) h hl ih
  | t n h hl _ ih => exact .t (none_of s n) h hl ih
theorem LitAt.kept {B H H' : Hp} {p : Addr} {o : HO} {x : V} {y : Lit} (h : LitAt B H x y) (k : Kept p H H') (hp : B p = some o) : LitAt B H' x y := by
  have ne : ∀ a, B a = none → a ≠ p := fun a n z => by
    rw [z, hp] at n
    cases n
  induction h with
  | v x => exact .v x
  | l n h hl _ ih => exact .l n (k _ _ (ne _ n) h) hl ih
  | t n h hl _ ih => exact .t n (k _ _ (ne _ n) h) hl ih
def LitsAt (B H : Hp) (xs : List V) (ys : List Lit) : Prop := xs.length = ys.length ∧ ∀ (i : Nat) (x : V) (y : Lit), xs[i]? = some x → ys[i]? = some y → LitAt B H x y
theorem LitsAt.same {B H H' : Hp} {xs : List V} {ys : List Lit} (h : LitsAt B H xs ys) (s : Same H H') : LitsAt B H' xs ys := ⟨h.1, fun i x y e f => (h.2 i x y e f).same s⟩
theorem LitsAt.base {B B' H : Hp} {xs : List V} {ys : List Lit} (h : LitsAt B' H xs ys) (s : Same B B') : LitsAt B H xs ys := ⟨h.1, fun i x y e f => (h.2 i x y e f).base s⟩
theorem LitsAt.cons {B H : Hp} {x : V} {xs : List V} {y : Lit} {ys : List Lit} (h : LitAt B H x y) (r : LitsAt B H xs ys) : LitsAt B H (x :: xs) (y :: ys) := by
  refine ⟨congrArg Nat.succ r.1, fun i u z e f => ?_⟩
  cases i with
  | zero =>
    cases e
    cases f
    exact h
  | succ i => exact r.2 i u z e f
theorem LitsAt.head {B H : Hp} {x : V} {xs : List V} {y : Lit} {ys : List Lit} (h : LitsAt B H (x :: xs) (y :: ys)) : LitAt B H x y := h.2 0 x y rfl rfl
theorem LitsAt.tail {B H : Hp} {x : V} {xs : List V} {y : Lit} {ys : List Lit} (h : LitsAt B H (x :: xs) (y :: ys)) : LitsAt B H xs ys := ⟨Nat.succ.inj h.1, fun i u z e f => h.2 (i + 1) u z e f⟩
def LitE (t : TE) (y : Lit) : Prop := ∀ (σ : L2.St) (H : Hp) (Q : VK), (∀ v H', Same H H' → LitAt H H' v y → Q v H') → t σ H Q
def LitA (t : TA) (ys : List Lit) : Prop := ∀ (σ : L2.St) (H : Hp) (Q : List V → Hp → Prop), (∀ vs H', Same H H' → LitsAt H H' vs ys → Q vs H') → t σ H Q
theorem litC {x : V} : LitE (tC x) (.v x) := fun σ H Q q => q _ _ (Same.refl _) (.v x)
theorem litU {i : Int} : LitE (tUn (rU fun i => .int (-i)) (tC (.int i))) (.v (.int (-i))) := fun σ H Q q => ⟨i, rfl, q _ _ (Same.refl _) (.v _)⟩
theorem litN : LitA tNil [] := fun σ H Q q => q [] H (Same.refl _) ⟨rfl, fun i x y e f => by cases e⟩
theorem litK {t : TE} {y : Lit} {ta : TA} {ys : List Lit} (h : LitE t y) (r : LitA ta ys) : LitA (tCons t ta) (y :: ys) := fun σ H Q q => h σ H _ fun v H1 s1 h1 => r σ H1 _ fun vs H2 s2 h2 => q _ _ (s1.trans s2) (LitsAt.cons (h1.same s2) (h2.base s1))
theorem litLn {n m : Nat} (e : n = m) (h : m ≤ 1000) : n ≤ sizeLine := by
  rw [e]
  exact Nat.le_trans h (by decide)
theorem litL {t : TA} {ys : List Lit} (h : LitA t ys) (hl : ys.length ≤ 1000) : LitE (tLst t) (.l ys) := fun σ H Q q => h σ H _ fun vs H1 s1 h1 => ⟨litLn h1.1 hl, fun p np => q _ _ (s1.trans (same_upd np)) (.l (none_of s1 np) upd_same h1.1 (h1.same (same_upd np)).2)⟩
theorem litT {t : TA} {ys : List Lit} (h : LitA t ys) (hl : ys.length ≤ 1000) : LitE (tTup t) (.t ys) := fun σ H Q q => h σ H _ fun vs H1 s1 h1 => ⟨litLn h1.1 hl, fun p np => q _ _ (s1.trans (same_upd np)) (.t (none_of s1 np) upd_same h1.1 (h1.same (same_upd np)).2)⟩
/-- a list written out stands at a -/
def LAt (B H : Hp) (a : Addr) (ys : List Lit) : Prop := ∃ xs, B a = none ∧ H a = some (.lst xs) ∧ LitsAt B H xs ys
theorem LAt.of {B H : Hp} {v : V} {ys : List Lit} (h : LitAt B H v (.l ys)) : ∃ a, v = .ref a ∧ LAt B H a ys := by
  cases h with
  | l n h hl k => exact ⟨_, rfl, _, n, h, hl, k⟩
theorem LAt.same {B H H' : Hp} {a : Addr} {ys : List Lit} (h : LAt B H a ys) (s : Same H H') : LAt B H' a ys := by
  obtain ⟨xs, n, e, k⟩ := h
  exact ⟨xs, n, s _ _ e, k.same s⟩
theorem LAt.base {B B' H : Hp} {a : Addr} {ys : List Lit} (h : LAt B' H a ys) (s : Same B B') : LAt B H a ys := by
  obtain ⟨xs, n, e, k⟩ := h
  exact ⟨xs, none_of s n, e, k.base s⟩
theorem LAt.kept {B H H' : Hp} {p a : Addr} {o : HO} {ys : List Lit} (h : LAt B H a ys) (k : Kept p H H') (hp : B p = some o) : LAt B H' a ys := by
  obtain ⟨xs, n, e, z⟩ := h
  refine ⟨xs, n, k _ _ (fun z => ?_) e, z.1, fun i x y e f => (z.2 i x y e f).kept k hp⟩
  rw [z, hp] at n
  cases n
theorem LitsAt.mem {B H : Hp} {xs : List V} {ys : List Lit} (h : LitsAt B H xs ys) {v : V} (hv : v ∈ xs) : ∃ y ∈ ys, LitAt B H v y := by
  obtain ⟨i, hi, e⟩ := List.mem_iff_getElem.mp hv
  have hi' : i < ys.length := by
    rw [← h.1]
    exact hi
  exact ⟨ys[i], List.getElem_mem hi', h.2 i v _ (by rw [List.getElem?_eq_getElem hi, e]) (List.getElem?_eq_getElem hi')⟩
/-! ### what is wrong with them -/
def vals : List Lit → Option (List V)
  | [] => some []
  | .v x :: r => match vals r with
    | some xs => some (x :: xs)
    | none => none
  | _ :: _ => none
theorem vals_at {B H : Hp} : ∀ {ys : List Lit} {vs xs : List V}, vals ys = some vs → LitsAt B H xs ys → xs = vs
  | [], vs, xs, h, k => by
    injection h with h
    rw [← h]
    exact List.eq_nil_of_length_eq_zero k.1
  | y :: ys, vs, xs, h, k => by
    cases xs with
    | nil => cases k.1
    | cons x xs =>
      cases y with
      | v z =>
        cases e : vals ys with
        | none => rw [show vals (.v z :: ys) = (match vals ys with | some xs => some (z :: xs) | none => none) from rfl, e] at h; cases h
        | some us =>
          rw [show vals (.v z :: ys) = (match vals ys with | some xs => some (z :: xs) | none => none) from rfl, e] at h
          injection h with h
          have z1 := vals_at e k.tail
          have z2 := k.head
          cases z2
          rw [← h, z1]
      | l _ => cases h
      | t _ => cases h
def flB : V → Bool
  | .non => true
  | .bl _ => true
  | .int _ => true
  | .str x => decide (x.length ≤ 1000) && (PyData.str x).canLay0
  | _ => false
theorem flB_ok {v : V} (h : flB v = true) : Fl v := by
  cases v with
  | non => exact .non
  | bl b => exact .bl b
  | int i => exact .int i
  | str x =>
    obtain ⟨h1, h2⟩ := Bool.and_eq_true_iff.mp h
    exact .str x (of_decide_eq_true h1) h2
  | _ => cases h
theorem flAll {vs : List V} (h : vs.all flB = true) : ∀ x ∈ vs, Fl x := fun x hx => flB_ok (List.all_eq_true.mp h x hx)
def seqB (f : List V → Bool) : Lit → Bool
  | .v x => flB x
  | .l ys => match vals ys with
    | some vs => vs.all flB && (decide (vs.length ≤ 40) && !f vs)
    | none => false
  | .t ys => match vals ys with
    | some vs => vs.all flB && (decide (vs.length ≤ 40) && !f vs)
    | none => false
theorem seqB_ok {B H : Hp} {f : List V → Bool} {v : V} {y : Lit} (h : seqB f y = true) (k : LitAt B H v y) : Fl v ∨ ∃ a xs, v = .ref a ∧ Sq H a xs ∧ xs.length ≤ 40 ∧ (∀ x ∈ xs, Fl x) ∧ f xs = false := by
  cases k with
  | v x => exact .inl (flB_ok h)
  | @l a xs ys _ h1 hl k =>
    cases e : vals ys with
    | none => rw [show seqB f (.l ys) = (match vals ys with | some vs => vs.all flB && (decide (vs.length ≤ 40) && !f vs) | none => false) from rfl, e] at h; cases h
    | some vs =>
      rw [show seqB f (.l ys) = (match vals ys with | some vs => vs.all flB && (decide (vs.length ≤ 40) && !f vs) | none => false) from rfl, e] at h
      obtain ⟨h2, h3⟩ := Bool.and_eq_true_iff.mp h
      obtain ⟨h4, h5⟩ := Bool.and_eq_true_iff.mp h3
      have ev := vals_at e ⟨hl, k⟩
      subst ev
      exact .inr ⟨a, xs, rfl, .inl h1, of_decide_eq_true h4, flAll h2, not_t h5⟩
  | @t a xs ys _ h1 hl k =>
    cases e : vals ys with
    | none => rw [show seqB f (.t ys) = (match vals ys with | some vs => vs.all flB && (decide (vs.length ≤ 40) && !f vs) | none => false) from rfl, e] at h; cases h
    | some vs =>
      rw [show seqB f (.t ys) = (match vals ys with | some vs => vs.all flB && (decide (vs.length ≤ 40) && !f vs) | none => false) from rfl, e] at h
      obtain ⟨h2, h3⟩ := Bool.and_eq_true_iff.mp h
      obtain ⟨h4, h5⟩ := Bool.and_eq_true_iff.mp h3
      have ev := vals_at e ⟨hl, k⟩
      subst ev
      exact .inr ⟨a, xs, rfl, .inr h1, of_decide_eq_true h4, flAll h2, not_t h5⟩
def nmBad : Lit → Bool := seqB fun vs => (cnt 0 vs).isSome
def lvBad : Lit → Bool := seqB fun vs => vs.all lvOk
def msBad : Lit → Bool := seqB mkOk
theorem nmBad_ok {B H : Hp} {v : V} {y : Lit} (h : nmBad y = true) (k : LitAt B H v y) : ∃ xs, Nm H v xs none := by
  rcases seqB_ok h k with f | ⟨a, xs, rfl, hS, hl, fl, e⟩
  · exact ⟨[], .bad f.odd f.noseq⟩
  · have z := Nm.seq hS hl fl
    cases ec : cnt 0 xs with
    | none => rw [ec] at z; exact ⟨xs, z⟩
    | some c => rw [ec] at e; cases e
theorem lvBad_ok {B H : Hp} {v : V} {y : Lit} (h : lvBad y = true) (k : LitAt B H v y) : ∃ xs, Lv H v xs false := by
  rcases seqB_ok h k with f | ⟨a, xs, rfl, hS, hl, fl, e⟩
  · exact ⟨[], .bad f.odd f.noseq⟩
  · have z := Lv.seq hS (Nat.le_trans hl (by decide)) fl
    rw [e] at z
    exact ⟨xs, z⟩
theorem msBad_ok {K : PySem.W.Frag} {B H : Hp} {v : V} {y : Lit} (h : msBad y = true) (k : LitAt B H v y) : ∃ xs, Ms K H v xs false := by
  rcases seqB_ok h k with f | ⟨a, xs, rfl, hS, hl, fl, e⟩
  · exact ⟨[], .bad f.odd f.noseq⟩
  · have z := Ms.seq (K := K) (.inl hS) (Nat.le_trans hl (by decide)) fl
    rw [e] at z
    exact ⟨xs, z⟩
def pi1 : Lit → Option (Option (List V))
  | .v x => if flB x = true then some none else none
  | .l ys => match vals ys with
    | some vs => if (vs.all flB && decide (vs.length ≤ 40)) = true then some (some vs) else none
    | none => none
  | .t ys => match vals ys with
    | some vs => if (vs.all flB && decide (vs.length ≤ 40)) = true then some (some vs) else none
    | none => none
theorem pi1_ok {B H : Hp} {v : V} {y : Lit} {m : Option (List V)} (h : pi1 y = some m) (k : LitAt B H v y) : PI1 H v m := by
  cases k with
  | v x =>
    have h' : (if flB v = true then some none else none : Option (Option (List V))) = some m := h
    by_cases e : flB v = true
    · rw [if_pos e] at h'
      injection h' with h'
      rw [← h']
      exact .flat (flB_ok e)
    · rw [if_neg e] at h'
      cases h'
  | @l a xs ys _ h1 hl k =>
    cases e : vals ys with
    | none => rw [show pi1 (.l ys) = (match vals ys with | some vs => (if (vs.all flB && decide (vs.length ≤ 40)) = true then some (some vs) else none) | none => none) from rfl, e] at h; cases h
    | some vs =>
      rw [show pi1 (.l ys) = (match vals ys with | some vs => (if (vs.all flB && decide (vs.length ≤ 40)) = true then some (some vs) else none) | none => none) from rfl, e] at h
      have h' : (if (vs.all flB && decide (vs.length ≤ 40)) = true then some (some vs) else none) = some m := h
      by_cases e2 : (vs.all flB && decide (vs.length ≤ 40)) = true
      · rw [if_pos e2] at h'
        injection h' with h'
        obtain ⟨h2, h3⟩ := Bool.and_eq_true_iff.mp e2
        have ev := vals_at e ⟨hl, k⟩
        subst ev
        rw [← h']
        exact .seq (.inl h1) (Nat.le_trans (of_decide_eq_true h3) (by decide)) (flAll h2)
      · rw [if_neg e2] at h'
        cases h'
  | @t a xs ys _ h1 hl k =>
    cases e : vals ys with
    | none => rw [show pi1 (.t ys) = (match vals ys with | some vs => (if (vs.all flB && decide (vs.length ≤ 40)) = true then some (some vs) else none) | none => none) from rfl, e] at h; cases h
    | some vs =>
      rw [show pi1 (.t ys) = (match vals ys with | some vs => (if (vs.all flB && decide (vs.length ≤ 40)) = true then some (some vs) else none) | none => none) from rfl, e] at h
      have h' : (if (vs.all flB && decide (vs.length ≤ 40)) = true then some (some vs) else none) = some m := h
      by_cases e2 : (vs.all flB && decide (vs.length ≤ 40)) = true
      · rw [if_pos e2] at h'
        injection h' with h'
        obtain ⟨h2, h3⟩ := Bool.and_eq_true_iff.mp e2
        have ev := vals_at e ⟨hl, k⟩
        subst ev
        rw [← h']
        exact .seq (.inr h1) (Nat.le_trans (of_decide_eq_true h3) (by decide)) (flAll h2)
      · rw [if_neg e2] at h'
        cases h'
def pisL : List Lit → Option (List (Option (List V)))
  | [] => some []
  | y :: r => match pi1 y, pisL r with
    | some m, some ms => some (m :: ms)
    | _, _ => none
theorem pisL_ok {B H : Hp} : ∀ {ys : List Lit} {ms : List (Option (List V))} {xs : List V}, pisL ys = some ms → LitsAt B H xs ys → PIs H xs ms
  | [], ms, xs, h, k => by
    injection h with h
    rw [← h, List.eq_nil_of_length_eq_zero k.1]
    exact ⟨rfl, fun i v e => by cases e⟩
  | y :: ys, ms, xs, h, k => by
    cases xs with
    | nil => cases k.1
    | cons x xs =>
      cases e1 : pi1 y with
      | none => rw [show pisL (y :: ys) = (match pi1 y, pisL ys with | some m, some ms => some (m :: ms) | _, _ => none) from rfl, e1] at h; cases h
      | some m =>
        cases e2 : pisL ys with
        | none => rw [show pisL (y :: ys) = (match pi1 y, pisL ys with | some m, some ms => some (m :: ms) | _, _ => none) from rfl, e1, e2] at h; cases h
        | some mm =>
          rw [show pisL (y :: ys) = (match pi1 y, pisL ys with | some m, some ms => some (m :: ms) | _, _ => none) from rfl, e1, e2] at h
          injection h with h
          have z1 := pisL_ok e2 k.tail
          have z2 := pi1_ok e1 k.head
          rw [← h]
          refine ⟨congrArg Nat.succ z1.1, fun i v e => ?_⟩
          cases i with
          | zero =>
            cases e
            exact ⟨m, rfl, z2⟩
          | succ i => exact z1.2 i v e
def boBad (c : Nat) : Lit → Bool
  | .v x => flB x
  | .l ys => match pisL ys with
    | some ms => decide (ms.length ≤ 40) && !bOk c 0 ms
    | none => false
  | .t ys => match pisL ys with
    | some ms => decide (ms.length ≤ 40) && !bOk c 0 ms
    | none => false
theorem boBad_ok {B H : Hp} {v : V} {y : Lit} {c : Nat} (h : boBad c y = true) (k : LitAt B H v y) : ∃ ms, Bo H v c ms false := by
  cases k with
  | v x => exact ⟨[], .bad (flB_ok h).odd (flB_ok h).noseq⟩
  | @l a xs ys _ h1 hl k =>
    cases e : pisL ys with
    | none => rw [show boBad c (.l ys) = (match pisL ys with | some ms => decide (ms.length ≤ 40) && !bOk c 0 ms | none => false) from rfl, e] at h; cases h
    | some ms =>
      rw [show boBad c (.l ys) = (match pisL ys with | some ms => decide (ms.length ≤ 40) && !bOk c 0 ms | none => false) from rfl, e] at h
      obtain ⟨h2, h3⟩ := Bool.and_eq_true_iff.mp h
      have p := pisL_ok e ⟨hl, k⟩
      have z := Bo.seq (c := c) (.inl h1) (by rw [p.1]; exact Nat.le_trans (of_decide_eq_true h2) (by decide)) p
      rw [not_t h3] at z
      exact ⟨ms, z⟩
  | @t a xs ys _ h1 hl k =>
    cases e : pisL ys with
    | none => rw [show boBad c (.t ys) = (match pisL ys with | some ms => decide (ms.length ≤ 40) && !bOk c 0 ms | none => false) from rfl, e] at h; cases h
    | some ms =>
      rw [show boBad c (.t ys) = (match pisL ys with | some ms => decide (ms.length ≤ 40) && !bOk c 0 ms | none => false) from rfl, e] at h
      obtain ⟨h2, h3⟩ := Bool.and_eq_true_iff.mp h
      have p := pisL_ok e ⟨hl, k⟩
      have z := Bo.seq (c := c) (.inr h1) (by rw [p.1]; exact Nat.le_trans (of_decide_eq_true h2) (by decide)) p
      rw [not_t h3] at z
      exact ⟨ms, z⟩
end K35

set_option maxHeartbeats 8000000
/-! what is refused -/
namespace K35
open PySem PySem.Spec PyProof.Rows L2 L2H
theorem at0 {a b : V} : atI [a, b] 0 = some a := atI_nat (xs := [a, b]) (j := 0) rfl
theorem at1 {a b : V} : atI [a, b] 1 = some b := atI_nat (xs := [a, b]) (j := 1) rfl
/-- good or spoilt -/
def Wd (z : Str) (b : Bool) (o : Option Str) : Prop := b = true ∧ o = none ∨ b = false ∧ o = some z
def Wn (z : Str) (c : Nat) (n : Option Nat) (o : Option Str) : Prop := n = some c ∧ o = none ∨ n = none ∧ o = some z
theorem pw_first {kv mv : V} {n : Option Nat} {b : Bool} {c : Nat} {o1 o2 o3 o4 : Option Str} (h1 : Wd "kind" (kindV kv) o1) (h2 : Wn "names" c n o2) (h3 : Wd "lives" b o3) (h4 : Wd "marks" (wholeV mv 0 1000) o4) : pw kv n b mv = firstW [o1, o2, o3, o4] := by
  unfold pw
  rcases h1 with ⟨e, rfl⟩ | ⟨e, rfl⟩
  · rw [if_pos e]
    rcases h2 with ⟨rfl, rfl⟩ | ⟨rfl, rfl⟩
    · rcases h3 with ⟨rfl, rfl⟩ | ⟨rfl, rfl⟩
      · rcases h4 with ⟨e4, rfl⟩ | ⟨e4, rfl⟩
        · rw [e4]; rfl
        · rw [e4]; rfl
      · rfl
    · rfl
  · rw [e]; rfl
theorem cw_first {sv dv : V} {n : Option Nat} {b b2 b3 : Bool} {c : Nat} {o1 o2 o3 o4 o5 o6 : Option Str} (h1 : Wn "names" c n o1) (h2 : Wd "lives" b o2) (h3 : Wd "numbers" (wholeV sv 0 3) o3) (h4 : Wd "numbers" (wholeV dv 0 3) o4) (h5 : Wd "borne" b2 o5) (h6 : Wd "marks" b3 o6) :
    cw n b sv dv b2 b3 = firstW [o1, o2, o3, o4, o5, o6] := by
  unfold cw
  rcases h1 with ⟨rfl, rfl⟩ | ⟨rfl, rfl⟩
  · rcases h2 with ⟨rfl, rfl⟩ | ⟨rfl, rfl⟩
    · rcases h3 with ⟨e3, rfl⟩ | ⟨e3, rfl⟩
      · rcases h4 with ⟨e4, rfl⟩ | ⟨e4, rfl⟩
        · rw [e3, e4]
          rcases h5 with ⟨rfl, rfl⟩ | ⟨rfl, rfl⟩
          · rcases h6 with ⟨rfl, rfl⟩ | ⟨rfl, rfl⟩ <;> rfl
          · rfl
        · rw [e3, e4]; rfl
      · rw [e3]; rfl
    · rfl
  · rfl
def wordsB : List Str := ["kind", "names", "lives", "marks", "numbers", "borne"]
def wordOk (o : Option Str) : Bool := match o with
  | none => true
  | some z => (PyData.str z).canLay0
theorem Wd.ok {z : Str} {b : Bool} {o : Option Str} (h : Wd z b o) (hz : (PyData.str z).canLay0 = true) : wordOk o = true := by
  rcases h with ⟨_, rfl⟩ | ⟨_, rfl⟩
  · rfl
  · exact hz
theorem Wn.ok {z : Str} {c : Nat} {n : Option Nat} {o : Option Str} (h : Wn z c n o) (hz : (PyData.str z).canLay0 = true) : wordOk o = true := by
  rcases h with ⟨_, rfl⟩ | ⟨_, rfl⟩
  · rfl
  · exact hz
theorem firstW_ok : ∀ {ws : List (Option Str)}, ws.all wordOk = true → wordOk (firstW ws) = true
  | [], _ => rfl
  | none :: r, h => firstW_ok (ws := r) h
  | some z :: r, h => (Bool.and_eq_true_iff.mp (show (wordOk (some z) && r.all wordOk) = true from h)).1
theorem wV_dat {K : PySem.W.Frag} {H : Hp} {o : Option Str} (h : wordOk o = true) : Dat K H (wV o) (dOf (wV o)) := by
  cases o with
  | none => exact ⟨.non, by decide⟩
  | some z => exact ⟨.str z, Bool.and_eq_true_iff.mpr ⟨h, rfl⟩⟩
theorem wV_self (o : Option Str) : PyData.eqv (dOf (wV o)) (dOf (wV o)) = true := by
  cases o with
  | none => rfl
  | some z => exact eqv_refl rfl
/-- what the hand's function promises -/
theorem seq_lit {te : TE} {g : TG} {u : TS} {D : Ends} {σ : L2.St} {H : Hp} {y : Lit} (L : LitE te y) (q : ∀ v H', Same H H' → LitAt H H' v y → g v σ H' (u D)) : tSeq (tAsg te g) u D σ H := L σ H _ q
theorem seq_litN {te : TE} {i : Nat} {u : TS} {D : Ends} {σ : L2.St} {H : Hp} {y : Lit} (L : LitE te y) (q : ∀ v H', Same H H' → LitAt H H' v y → u D (σ.set i (some v)) H') : tSeq (tAsg te (gName i)) u D σ H := L σ H _ q
theorem cons_lit {te : TE} {tr : TA} {σ : L2.St} {H : Hp} {Q : List V → Hp → Prop} {y : Lit} (L : LitE te y) (q : ∀ v H', Same H H' → LitAt H H' v y → tr σ H' fun xs H2 => Q (v :: xs) H2) : tCons te tr σ H Q := L σ H _ q
theorem LAt.sq {B H : Hp} {a : Addr} {ys : List Lit} {vs : List V} (b : LAt B H a ys) (e : vals ys = some vs) : H a = some (.lst vs) := by
  obtain ⟨xs, _, h, k⟩ := b
  rw [vals_at e k] at h
  exact h
theorem LAt.ne {B H : Hp} {a p : Addr} {o : HO} {ys : List Lit} (b : LAt B H a ys) (hp : B p = some o) : a ≠ p := by
  obtain ⟨xs, n, _, _⟩ := b
  exact fun z => by
    rw [z, hp] at n
    cases n
/-- whatever is asked of what it gives -/
def Does (t : TE) (σ : L2.St) (H : Hp) (P : V → Hp → Prop) : Prop := ∀ Q : VK, (∀ v H', P v H' → Q v H') → t σ H Q
/-- the hand alone has changed -/
def Hd (p l : Addr) (cells : List Int) (H H' : Hp) : Prop := Kept p H H' ∧ ∃ i r t : Int, HandAt H' p l cells i r t
theorem Hd.trans {p l : Addr} {cells : List Int} {H H1 H2 : Hp} (a : Hd p l cells H H1) (b : Hd p l cells H1 H2) : Hd p l cells H H2 := ⟨a.1.trans b.1, b.2⟩
theorem Hd.same {p l : Addr} {cells : List Int} {H H1 H2 : Hp} (a : Hd p l cells H H1) (s : Same H1 H2) : Hd p l cells H H2 := by
  obtain ⟨k, i, r, t, h⟩ := a
  exact ⟨k.trans (Kept.same s), i, r, t, hand_same h s⟩
theorem Hd.refl {p l : Addr} {cells : List Int} {H H1 : Hp} (a : Hd p l cells H H1) : Hd p l cells H1 H1 := ⟨Kept.refl, a.2⟩
theorem Hd.var {p l : Addr} {cells : List Int} {H H1 : Hp} {x : V} (a : Hd p l cells H H1) : ∀ (g : V) (H' : Hp), g = x ∧ H' = H1 → Hd p l cells H1 H' := fun g H' h => by
  obtain ⟨_, e⟩ := h
  subst e
  exact a.refl
theorem state_eq {t : TS} {D : Ends} {σ σ' : L2.St} {H : Hp} (e : σ = σ') (h : t D σ' H) : t D σ H := e ▸ h
theorem tNext_of {D : Ends} {σ : L2.St} {H : Hp} (h : D.nx σ H) : tNext D σ H := h
theorem Hd.at_ {p l : Addr} {cells : List Int} {H H1 : Hp} (a : Hd p l cells H H1) : ∃ o, H1 p = some o := by
  obtain ⟨k, i, r, t, h⟩ := a
  exact ⟨_, h.1⟩
theorem does_var {j : Nat} {x : V} {σ : L2.St} {H : Hp} (e : σ[j]? = some (some x)) : Does (tVar j) σ H (fun v H' => v = x ∧ H' = H) := fun Q q => ⟨x, e, q _ _ ⟨rfl, rfl⟩⟩
theorem does_lit {te : TE} {σ : L2.St} {H : Hp} {ys : List Lit} (L : LitE te (.l ys)) : Does te σ H (fun v H' => ∃ a, v = .ref a ∧ Same H H' ∧ LAt H H' a ys) := fun Q q => L σ H Q fun v H' s h => by
  obtain ⟨a, rfl, k⟩ := LAt.of h
  exact q _ _ ⟨a, rfl, s, k⟩
theorem does_pick {K : PySem.W.Frag} {E : XK} {te : TE} {σ : L2.St} {H0 H : Hp} {p l : Addr} {cells : List Int} {ys : List Lit} {vs : List V} (hd : Hd p l cells H0 H) (e0 : σ[0]? = some (some (.ref p))) (L : LitE te (.l ys)) (ev : vals ys = some vs) (h0 : 0 < vs.length) (h1 : vs.length ≤ 1000) :
    Does (tCall (spPick K) [] E (tCons (tVar 0) (tCons te tNil))) σ H (fun v H' => v ∈ vs ∧ Hd p l cells H H') := fun Q q => by
  refine ⟨_, e0, L _ _ _ fun v H1 s1 h => ?_⟩
  obtain ⟨k, i, r, t, hh⟩ := hd
  obtain ⟨a, rfl, b⟩ := LAt.of h
  exact ⟨p, l, cells, i, r, t, hand_same hh s1, .inl ⟨a, vs, rfl, SqL.of (b.sq ev), b.ne hh.1, h0, h1, fun v i' r' t' hv ok => q _ _ ⟨hv, (Kept.same s1).trans Kept.upd, i', r', t', hand_upd (hand_same hh s1) ok⟩⟩⟩
theorem does_draw {E : XK} {n : Int} {σ : L2.St} {H0 H : Hp} {p l : Addr} {cells : List Int} (hd : Hd p l cells H0 H) (e0 : σ[0]? = some (some (.ref p))) (n0 : 0 < n) (n1 : n.natAbs < 2 ^ 10) :
    Does (tCall spDraw [] E (tCons (tVar 0) (tCons (tC (.int n)) tNil))) σ H (fun v H' => ∃ d : Int, v = .int d ∧ 0 ≤ d ∧ d < n ∧ Hd p l cells H H') := fun Q q => by
  obtain ⟨k, i, r, t, hh⟩ := hd
  exact ⟨_, e0, p, l, cells, i, r, t, n, rfl, hh, n0, Nat.lt_of_lt_of_le n1 (Nat.pow_le_pow_right (by decide) (by decide)), fun d i1 r1 t1 d0 d1 ok1 => q _ _ ⟨d, rfl, d0, d1, Kept.upd, i1, r1, t1, hand_upd hh ok1⟩⟩
/-- where the list of the bad ones stands -/
def PL (p : Addr) (ys : List Lit) (H1 : Hp) : V → Hp → Prop := fun v H' => ∃ (a : Addr) (B : Hp) (o : HO), v = .ref a ∧ Same H1 H' ∧ LAt B H' a ys ∧ B p = some o
theorem does_litB {te : TE} {σ : L2.St} {p l : Addr} {cells : List Int} {H H1 : Hp} {ys : List Lit} (L : LitE te (.l ys)) (hd : Hd p l cells H H1) : Does te σ H1 (PL p ys H1) := fun Q q => does_lit L Q fun v H' ⟨a, e, s, k⟩ => by
  obtain ⟨o, ho⟩ := hd.at_
  exact q _ _ ⟨a, H1, o, e, s, k, ho⟩
theorem does_varB {j : Nat} {a : Addr} {σ : L2.St} {p : Addr} {B H1 : Hp} {o : HO} {ys : List Lit} (e : σ[j]? = some (some (.ref a))) (b : LAt B H1 a ys) (ho : B p = some o) : Does (tVar j) σ H1 (PL p ys H1) := fun Q q => ⟨_, e, q _ _ ⟨a, B, o, rfl, Same.refl _, b, ho⟩⟩
theorem seq_spoilt {K : PySem.W.Frag} {tg tl : TE} {E : XK} {z : Str} {k : Nat} {u : TS} {D : Ends} {σ : L2.St} {H : Hp} {PG : V → Hp → Prop} {ys : List Lit} {p l : Addr} {cells : List Int} (e0 : σ[0]? = some (some (.ref p)))
    (dg : Does tg σ H PG) (hg : ∀ g H', PG g H' → Hd p l cells H H') (dl : ∀ H1, Hd p l cells H H1 → Does tl σ H1 (PL p ys H1)) (h0 : 0 < ys.length) (h1 : ys.length ≤ 1000)
    (q : ∀ (v : V) (o : Option Str) (g : V) (H1 H2 : Hp) (T : Addr), PG g H1 → Kept p H1 H2 → (v = g ∧ o = none ∨ (∃ y ∈ ys, ∃ (B : Hp) (o : HO), B p = some o ∧ LitAt B H2 v y) ∧ o = some z) → Hd p l cells H H2 → H2 T = some (.tup [v, wV o]) → T ≠ p → u D (σ.set k (some (.ref T))) H2) :
    tSeq (tAsg (tCall (spSpoilt K) [] E (tCons (tVar 0) (tCons tg (tCons tl (tCons (tC (.str z)) tNil))))) (gName k)) u D σ H := by
  refine ⟨_, e0, dg _ fun g H1 pg => dl H1 (hg g H1 pg) _ fun v H2 pl => ?_⟩
  obtain ⟨a, B, o, rfl, s2, b, ho⟩ := pl
  have hd1 := (hg g H1 pg).same s2
  obtain ⟨k2, i, r, t, hh⟩ := id hd1
  obtain ⟨xs, n, h, kx⟩ := id b
  refine ⟨p, l, cells, i, r, t, g, a, xs, z, rfl, hh, SqL.of h, b.ne ho, by rw [kx.1]; exact h0, by rw [kx.1]; exact h1, fun v o' hv H' T i' r' t' kk hh' hT => ?_⟩
  have hv2 : v = g ∧ o' = none ∨ (∃ y ∈ ys, ∃ (B : Hp) (o : HO), B p = some o ∧ LitAt B H' v y) ∧ o' = some z := by
    rcases hv with h | ⟨hm, ho'⟩
    · exact .inl h
    · obtain ⟨y, hy, ky⟩ := kx.mem hm
      exact .inr ⟨⟨y, hy, B, o, ho, ky.kept kk ho⟩, ho'⟩
  refine q v o' g H1 H' T pg ((Kept.same s2).trans kk) hv2 (hd1.trans ⟨kk, i', r', t', hh'⟩) hT fun z => ?_
  rw [z, hh'.1] at hT
  cases hT
def flatBad (f : V → Bool) : Lit → Bool
  | .v x => flB x && !f x
  | _ => false
theorem flatBad_ok {B H : Hp} {f : V → Bool} {v : V} {y : Lit} (h : flatBad f y = true) (k : LitAt B H v y) : Fl v ∧ f v = false := by
  cases k with
  | v x =>
    obtain ⟨h1, h2⟩ := Bool.and_eq_true_iff.mp (show (flB v && !f v) = true from h)
    exact ⟨flB_ok h1, not_t h2⟩
  | l _ _ _ _ => cases h
  | t _ _ _ _ => cases h
theorem flat_wd {H : Hp} {p : Addr} {f : V → Bool} {v g : V} {z : Str} {o : Option Str} {ys : List Lit} (h : v = g ∧ o = none ∨ (∃ y ∈ ys, ∃ (B : Hp) (o : HO), B p = some o ∧ LitAt B H v y) ∧ o = some z) (hg : Fl g ∧ f g = true) (hy : ys.all (flatBad f) = true) : Fl v ∧ Wd z (f v) o := by
  rcases h with ⟨rfl, rfl⟩ | ⟨⟨y, hm, B, _, _, k⟩, rfl⟩
  · exact ⟨hg.1, .inl ⟨hg.2, rfl⟩⟩
  · obtain ⟨h1, h2⟩ := flatBad_ok (List.all_eq_true.mp hy y hm) k
    exact ⟨h1, .inr ⟨h2, rfl⟩⟩
theorem tup_at {H H' : Hp} {p T : Addr} {xs : List V} (k : Kept p H H') (hT : H T = some (.tup xs)) (n : T ≠ p) : H' T = some (.tup xs) := k _ _ n hT
theorem bo_of {H : Hp} {bv g : V} {pa : Addr} {ps : List (List V)} {c : Nat} {n : Option Nat} {o2 o7 : Option Str} {ys : List Lit} (hn : Wn "names" c n o2) (hc8 : c ≤ 8) (hpa : LL H pa ps) (hps : ∀ ys ∈ ps, ∃ i j : Int, ys = [.int i, .int j]) (hpl : ps.length ≤ 41) (hbo : bOk c 0 (ps.map some) = true)
    (pg : o2 = none ∧ g = .ref pa ∨ o2 = some "names" ∧ ∃ a, g = .ref a ∧ H a = some (.lst [])) (h7 : bv = g ∧ o7 = none ∨ (∃ y ∈ ys, ∃ B, LitAt B H bv y) ∧ o7 = some "borne") (hy : (List.range 9).all (fun c => ys.all (boBad c)) = true) : ∃ ms b, Bo H bv (n.getD 0) ms b ∧ Wd "borne" b o7 := by
  rcases h7 with ⟨rfl, rfl⟩ | ⟨⟨y, hm, B, ky⟩, rfl⟩
  · rcases pg with ⟨e2, eg⟩ | ⟨e2, a, eg, ha⟩
    · rcases hn with ⟨rfl, _⟩ | ⟨_, e3⟩
      · rw [eg]
        obtain ⟨ts, hts, hlen, htt⟩ := hpa
        have hP : PIs H (ts.map V.ref) (ps.map some) := by
          refine ⟨by rw [List.length_map, List.length_map, hlen], fun i v e => ?_⟩
          obtain ⟨t, e1, rfl⟩ := map_ref_at e
          obtain ⟨zs, e4, e5⟩ := htt i t e1
          refine ⟨some zs, by rw [List.getElem?_map, e4]; rfl, ?_⟩
          obtain ⟨i1, j1, rfl⟩ := hps zs (List.mem_of_getElem? e4)
          refine .seq (.inl e5) (by show 2 ≤ 1000; decide) fun x hx => ?_
          rcases List.mem_cons.mp hx with rfl | hx
          · exact .int _
          · rcases List.mem_cons.mp hx with rfl | hx
            · exact .int _
            · cases hx
        have z := Bo.seq (c := c) (.inl hts) (by rw [List.length_map, hlen]; exact Nat.le_trans hpl (by decide)) hP
        rw [hbo] at z
        exact ⟨_, _, z, .inl ⟨rfl, rfl⟩⟩
      · rw [e2] at e3
        cases e3
    · rcases hn with ⟨_, e3⟩ | ⟨rfl, _⟩
      · rw [e2] at e3
        cases e3
      · rw [eg]
        have z := Bo.seq (c := 0) (.inl ha) (by decide) (ms := []) ⟨rfl, fun i v e => by cases e⟩
        exact ⟨_, _, z, .inl ⟨rfl, rfl⟩⟩
  · have hc9 : n.getD 0 < 9 := by
      rcases hn with ⟨rfl, _⟩ | ⟨rfl, _⟩
      · exact Nat.lt_succ_of_le hc8
      · exact Nat.zero_lt_succ _
    obtain ⟨ms, z⟩ := boBad_ok (List.all_eq_true.mp (List.all_eq_true.mp hy _ (List.mem_range.mpr hc9)) y hm) ky
    exact ⟨ms, false, z, .inr ⟨rfl, rfl⟩⟩
theorem badP_ok : (List.range 9).all (fun c => List.all ([(.l [(.t [(.v (.int 9)), (.v (.int 0))])]), (.l [(.t [(.v (.int 0)), (.v (.int 3))])]), (.l [(.t [(.v (.int 0)), (.v (.int 0))]), (.t [(.v (.int 0)), (.v (.int 1))])]), (.l [(.t [(.v (.int 1)), (.v (.int 0))]), (.t [(.v (.int 0)), (.v (.int 0))])]), (.l [(.t [(.v (.int 0))])]), (.l [(.v (.int 0))]), (.v .non), (.l [(.t [(.v (.int 0)), (.v (.bl true))])]), (.v (.str ("a" : Str))), (.l [(.t [(.v (.int (-1))), (.v (.int 0))])]), (.l [(.t [(.v (.int 0)), (.v (.int 0)), (.v (.int 0))])])] : List Lit) (boBad c)) = true := by decide +kernel
theorem ms_of {K : PySem.W.Frag} {H : Hp} {xv g : V} {o8 : Option Str} {ys : List Lit} (hg : ∃ a, g = .ref a ∧ H a = some (.lst [.int 0, .int 1000])) (h8 : xv = g ∧ o8 = none ∨ (∃ y ∈ ys, ∃ B, LitAt B H xv y) ∧ o8 = some "marks") (hy : ys.all msBad = true) : ∃ qs b, Ms K H xv qs b ∧ Wd "marks" b o8 := by
  rcases h8 with ⟨rfl, rfl⟩ | ⟨⟨y, hm, B, ky⟩, rfl⟩
  · obtain ⟨a, rfl, ha⟩ := hg
    have z := Ms.seq (K := K) (.inl (.inl ha)) (by show 2 ≤ 1000; decide) (fun x hx => by
      rcases List.mem_cons.mp hx with rfl | hx
      · exact .int _
      · rcases List.mem_cons.mp hx with rfl | hx
        · exact .int _
        · cases hx)
    rw [show mkOk [.int 0, .int 1000] = true by decide +kernel] at z
    exact ⟨_, _, z, .inl ⟨rfl, rfl⟩⟩
  · obtain ⟨xs, z⟩ := msBad_ok (K := K) (List.all_eq_true.mp hy y hm) ky
    exact ⟨xs, false, z, .inr ⟨rfl, rfl⟩⟩
theorem badM_ok : List.all ([(.t [(.v (.int 0))]), (.t [(.v (.int 0)), (.v (.int 1001))]), (.v .non), (.t [(.v (.int 0)), (.v (.bl true))]), (.l [(.v (.int 0)), (.v (.int 0)), (.v (.int 0))]), (.v (.int 0))] : List Lit) msBad = true := by decide +kernel
def spRef : Sp := fun vs H Q _ => ∃ (p l : Addr) (cells : List Int) (i r t : Int) (na la pa : Addr) (es ls : List V) (ps : List (List V)) (c : Nat), vs = [.ref p, .ref na, .ref la, .ref pa] ∧ HandAt H p l cells i r t ∧ H na = some (.lst es) ∧ H la = some (.lst ls) ∧ na ≠ p ∧ la ≠ p ∧
  cnt 0 es = some c ∧ c ≤ 8 ∧ (∀ x ∈ es, isE x) ∧ es.length ≤ 7 ∧ (∀ x ∈ ls, lvOk x = true ∧ Fl x ∧ plainV x = true) ∧ ls.length ≤ 5 ∧ (∀ H', Kept p H H' → LL H' pa ps) ∧ (∀ ys ∈ ps, ∃ i j : Int, ys = [.int i, .int j]) ∧ ps.length ≤ 41 ∧ bOk c 0 (ps.map some) = true ∧
  ∀ (H' : Hp) (i' r' t' : Int), Kept p H H' → HandAt H' p l cells i' r' t' → Q (.bl true) H'
section
variable {P : Program} {w : World} {K : PySem.W.Frag} {mg : Str → Option Value} {base : Heap}
end
end K35

/-! what is refused -/
namespace K35
open PySem PySem.Spec PyProof.Rows L2 L2H
section
variable {P : Program} {w : World} {K : PySem.W.Frag} {mg : Str → Option Value} {base : Heap}
theorem scRef : FnScope ["_law_hand_here", "_law_names", "_law_lives", "_law_pairs", "_law_bad_names", "_law_bad_lives", "_law_bad_pairs", "_law_one", "_law_two", "_law_three", "_law_four", "_law_sons", "_law_daughters", "_law_five", "_law_six", "_law_told"] ["_law_hand_here", "_law_names", "_law_lives", "_law_pairs"] (defScope sRefusals) := ⟨rfl, rfl, rfl, by decide +kernel, rfl, by decide +kernel, by decide +kernel⟩
theorem ok_ref {f fD fP fSp fF fPw fCw : Addr} {fd fdD fdP fdSp fdF fdPw fdCw : FuncData} (F : FnP K "_law_refusals" sRefusals f fd) (dD : Df P w K mg base "_law_draw" 2 ["_law_hand_here", "_law_many_here"] spDraw fD fdD)
    (dP : Df P w K mg base "_law_pick" 3 ["_law_hand_here", "_law_things"] (spPick K) fP fdP) (dSp : Df P w K mg base "_law_spoilt" 4 ["_law_hand_here", "_law_good", "_law_bad", "_law_word"] (spSpoilt K) fSp fdSp) (dF : Df P w K mg base "_law_first" 1 ["_law_words"] spFirst fF fdF)
    (dPw : Df P w K mg base "_law_person_word" 8 ["_law_kind", "_law_names", "_law_lives", "_law_worth"] spPW fPw fdPw) (dCw : Df P w K mg base "_law_couple_word" 8 ["_law_names", "_law_lives", "_law_sons", "_law_daughters", "_law_pairs", "_law_both"] (spCW K) fCw fdCw) :
    FnOk P w K mg base CX0 9 f fd ["_law_hand_here", "_law_names", "_law_lives", "_law_pairs"] spRef := by
  refine F.ok scRef (fun vs H Q E h => ?_) (fun cdv A outer s H vs Q E hr8 h => ?_)
  · obtain ⟨p, l, cells, i, r, t, na, la, pa, es, ls, ps, c, rfl, _⟩ := h
    rfl
  · obtain ⟨p, l, cells, i, r, t, na, la, pa, es, ls, ps, c, rfl, hh, hna, hla, nap, lap, hc, hc8, hes, hel, hls, hll, hpa, hps, hpl, hbo, q⟩ := h
    have hr1 := hr8.mono (show 1 ≤ 8 by decide)
    have hr2 := hr8.mono (show 2 ≤ 8 by decide)
    have hr3 := hr8.mono (show 3 ≤ 8 by decide)
    have hr4 := hr8.mono (show 4 ≤ 8 by decide)
    refine ⟨_, PSs.nox (pss_cons (ps_set (i := 4) scRef.nd rfl (.inl rfl) (pe_lst (pa_cons (pe_lst (pa_cons pe_int pa_nil)) (pa_cons (pe_lst (pa_cons pe_int (pa_cons pe_int pa_nil))) (pa_cons (pe_lst (pa_cons pe_bl pa_nil)) (pa_cons (pe_lst (pa_cons (pe_un un_neg pe_int) pa_nil)) (pa_cons pe_str (pa_cons pe_non (pa_cons (pe_lst (pa_cons pe_int (pa_cons pe_str pa_nil))) (pa_cons (pe_lst (pa_cons pe_int (pa_cons pe_int (pa_cons pe_int pa_nil)))) (pa_cons pe_int pa_nil)))))))))))
    (pss_cons (ps_set (i := 5) scRef.nd rfl (.inl rfl) (pe_lst (pa_cons (pe_lst (pa_cons pe_str pa_nil)) (pa_cons pe_non (pa_cons pe_str (pa_cons (pe_lst (pa_cons pe_int pa_nil)) (pa_cons (pe_lst (pa_cons pe_bl pa_nil)) (pa_cons (pe_lst (pa_cons pe_str (pa_cons pe_str pa_nil))) pa_nil))))))))
    (pss_cons (ps_set (i := 6) scRef.nd rfl (.inl rfl) (pe_lst (pa_cons (pe_lst (pa_cons (pe_tup (pa_cons pe_int (pa_cons pe_int pa_nil))) pa_nil)) (pa_cons (pe_lst (pa_cons (pe_tup (pa_cons pe_int (pa_cons pe_int pa_nil))) pa_nil)) (pa_cons (pe_lst (pa_cons (pe_tup (pa_cons pe_int (pa_cons pe_int pa_nil))) (pa_cons (pe_tup (pa_cons pe_int (pa_cons pe_int pa_nil))) pa_nil))) (pa_cons (pe_lst (pa_cons (pe_tup (pa_cons pe_int (pa_cons pe_int pa_nil))) (pa_cons (pe_tup (pa_cons pe_int (pa_cons pe_int pa_nil))) pa_nil))) (pa_cons (pe_lst (pa_cons (pe_tup (pa_cons pe_int pa_nil)) pa_nil)) (pa_cons (pe_lst (pa_cons pe_int pa_nil)) (pa_cons pe_non (pa_cons (pe_lst (pa_cons (pe_tup (pa_cons pe_int (pa_cons pe_bl pa_nil))) pa_nil)) (pa_cons pe_str (pa_cons (pe_lst (pa_cons (pe_tup (pa_cons (pe_un un_neg pe_int) (pa_cons pe_int pa_nil))) pa_nil)) (pa_cons (pe_lst (pa_cons (pe_tup (pa_cons pe_int (pa_cons pe_int (pa_cons pe_int pa_nil)))) pa_nil)) pa_nil)))))))))))))
    (pss_cons (ps_set (i := 7) scRef.nd rfl (.inl rfl) (pe_call dSp.ok hr4 (by rfl) dSp.gl dSp.kp dSp.bi .nil pass0 (pa_cons (pv 0) (pa_cons (pe_call dP.ok hr3 (by rfl) dP.gl dP.kp dP.bi .nil pass0 (pa_cons (pv 0) (pa_cons (pe_lst (pa_cons pe_str (pa_cons pe_str pa_nil))) pa_nil))) (pa_cons (pe_lst (pa_cons pe_str (pa_cons pe_non (pa_cons pe_str (pa_cons pe_int (pa_cons pe_str pa_nil)))))) (pa_cons pe_str pa_nil))))))
    (pss_cons (ps_set (i := 8) scRef.nd rfl (.inl rfl) (pe_call dSp.ok hr4 (by rfl) dSp.gl dSp.kp dSp.bi .nil pass0 (pa_cons (pv 0) (pa_cons (pv 1) (pa_cons (pv 4) (pa_cons pe_str pa_nil))))))
    (pss_cons (ps_set (i := 9) scRef.nd rfl (.inl rfl) (pe_call dSp.ok hr4 (by rfl) dSp.gl dSp.kp dSp.bi .nil pass0 (pa_cons (pv 0) (pa_cons (pv 2) (pa_cons (pv 5) (pa_cons pe_str pa_nil))))))
    (pss_cons (ps_set (i := 10) scRef.nd rfl (.inl rfl) (pe_call dSp.ok hr4 (by rfl) dSp.gl dSp.kp dSp.bi .nil pass0 (pa_cons (pv 0) (pa_cons (pe_call dP.ok hr3 (by rfl) dP.gl dP.kp dP.bi .nil pass0 (pa_cons (pv 0) (pa_cons (pe_lst (pa_cons pe_int (pa_cons pe_int (pa_cons pe_int pa_nil)))) pa_nil))) (pa_cons (pe_lst (pa_cons (pe_un un_neg pe_int) (pa_cons pe_int (pa_cons pe_bl (pa_cons pe_non (pa_cons pe_str pa_nil)))))) (pa_cons pe_str pa_nil))))))
    (pss_cons (ps_if (pt_cmpR (op_neD hr8.units) (pe_call dPw.ok hr8 (by rfl) dPw.gl dPw.kp dPw.bi .nil pass0 (pa_cons (pe_ix ix_tup (pv 7) pe_int (fun _ _ => rfl)) (pa_cons (pe_ix ix_tup (pv 8) pe_int (fun _ _ => rfl)) (pa_cons (pe_ix ix_tup (pv 9) pe_int (fun _ _ => rfl)) (pa_cons (pe_ix ix_tup (pv 10) pe_int (fun _ _ => rfl)) pa_nil))))) (pe_call dF.ok hr1 (by rfl) dF.gl dF.kp dF.bi .nil pass0 (pa_cons (pe_lst (pa_cons (pe_ix ix_tup (pv 7) pe_int (fun _ _ => rfl)) (pa_cons (pe_ix ix_tup (pv 8) pe_int (fun _ _ => rfl)) (pa_cons (pe_ix ix_tup (pv 9) pe_int (fun _ _ => rfl)) (pa_cons (pe_ix ix_tup (pv 10) pe_int (fun _ _ => rfl)) pa_nil))))) pa_nil)) (nomark _))
      (pss_one (ps_ret pe_bl))
      pss_nil)
    (pss_cons (ps_set (i := 11) scRef.nd rfl (.inl rfl) (pe_call dSp.ok hr4 (by rfl) dSp.gl dSp.kp dSp.bi .nil pass0 (pa_cons (pv 0) (pa_cons (pe_call dD.ok hr2 (by rfl) dD.gl dD.kp dD.bi .nil pass0 (pa_cons (pv 0) (pa_cons pe_int pa_nil))) (pa_cons (pe_lst (pa_cons pe_int (pa_cons (pe_un un_neg pe_int) (pa_cons pe_bl (pa_cons pe_str (pa_cons pe_non pa_nil)))))) (pa_cons pe_str pa_nil))))))
    (pss_cons (ps_set (i := 12) scRef.nd rfl (.inl rfl) (pe_call dSp.ok hr4 (by rfl) dSp.gl dSp.kp dSp.bi .nil pass0 (pa_cons (pv 0) (pa_cons (pe_call dD.ok hr2 (by rfl) dD.gl dD.kp dD.bi .nil pass0 (pa_cons (pv 0) (pa_cons pe_int pa_nil))) (pa_cons (pe_lst (pa_cons pe_int (pa_cons (pe_un un_neg pe_int) (pa_cons pe_bl (pa_cons pe_str (pa_cons pe_non pa_nil)))))) (pa_cons pe_str pa_nil))))))
    (pss_cons (ps_set (i := 13) scRef.nd rfl (.inl rfl) (pe_call dSp.ok hr4 (by rfl) dSp.gl dSp.kp dSp.bi .nil pass0 (pa_cons (pv 0) (pa_cons (pe_ifExp (pt_cmpR op_isN (pe_ix ix_tup (pv 8) pe_int (fun _ _ => rfl)) pe_non (nomark _)) (pv 3) (pe_lst pa_nil)) (pa_cons (pv 6) (pa_cons pe_str pa_nil))))))
    (pss_cons (ps_set (i := 14) scRef.nd rfl (.inl rfl) (pe_call dSp.ok hr4 (by rfl) dSp.gl dSp.kp dSp.bi .nil pass0 (pa_cons (pv 0) (pa_cons (pe_lst (pa_cons pe_int (pa_cons pe_int pa_nil))) (pa_cons (pe_lst (pa_cons (pe_tup (pa_cons pe_int pa_nil)) (pa_cons (pe_tup (pa_cons pe_int (pa_cons pe_int pa_nil))) (pa_cons pe_non (pa_cons (pe_tup (pa_cons pe_int (pa_cons pe_bl pa_nil))) (pa_cons (pe_lst (pa_cons pe_int (pa_cons pe_int (pa_cons pe_int pa_nil)))) (pa_cons pe_int pa_nil))))))) (pa_cons pe_str pa_nil))))))
    (pss_cons (ps_set (i := 15) scRef.nd rfl (.inl rfl) (pe_call dCw.ok hr8 (by rfl) dCw.gl dCw.kp dCw.bi .nil pass0 (pa_cons (pe_ix ix_tup (pv 8) pe_int (fun _ _ => rfl)) (pa_cons (pe_ix ix_tup (pv 9) pe_int (fun _ _ => rfl)) (pa_cons (pe_ix ix_tup (pv 11) pe_int (fun _ _ => rfl)) (pa_cons (pe_ix ix_tup (pv 12) pe_int (fun _ _ => rfl)) (pa_cons (pe_ix ix_tup (pv 13) pe_int (fun _ _ => rfl)) (pa_cons (pe_ix ix_tup (pv 14) pe_int (fun _ _ => rfl)) pa_nil))))))))
    (pss_one (ps_ret (pe_cmpR (op_eqD hr8.units) (pv 15) (pe_call dF.ok hr1 (by rfl) dF.gl dF.kp dF.bi .nil pass0 (pa_cons (pe_lst (pa_cons (pe_ix ix_tup (pv 8) pe_int (fun _ _ => rfl)) (pa_cons (pe_ix ix_tup (pv 9) pe_int (fun _ _ => rfl)) (pa_cons (pe_ix ix_tup (pv 11) pe_int (fun _ _ => rfl)) (pa_cons (pe_ix ix_tup (pv 12) pe_int (fun _ _ => rfl)) (pa_cons (pe_ix ix_tup (pv 13) pe_int (fun _ _ => rfl)) (pa_cons (pe_ix ix_tup (pv 14) pe_int (fun _ _ => rfl)) pa_nil))))))) pa_nil)) (nomark _))))))))))))))))), ?_⟩
    refine seq_litN (y := (.l [(.l [(.v (.int 1))]), (.l [(.v (.int 0)), (.v (.int 2))]), (.l [(.v (.bl true))]), (.l [(.v (.int (-1)))]), (.v (.str ("01" : Str))), (.v .non), (.l [(.v (.int 0)), (.v (.str ("a" : Str)))]), (.l [(.v (.int 0)), (.v (.int 1)), (.v (.int 3))]), (.v (.int 0))])) (litL (litK (litL (litK litC litN) (by decide)) (litK (litL (litK litC (litK litC litN)) (by decide)) (litK (litL (litK litC litN) (by decide)) (litK (litL (litK litU litN) (by decide)) (litK litC (litK litC (litK (litL (litK litC (litK litC litN)) (by decide)) (litK (litL (litK litC (litK litC (litK litC litN))) (by decide)) (litK litC litN))))))))) (by decide)) fun v1 H1 s1 b1 => ?_
    obtain ⟨bn, rfl, c1⟩ := LAt.of b1
    refine seq_litN (y := (.l [(.l [(.v (.str ("living" : Str)))]), (.v .non), (.v (.str ("alive" : Str))), (.l [(.v (.int 0))]), (.l [(.v (.bl true))]), (.l [(.v (.str ("dead" : Str))), (.v (.str ("" : Str)))])])) (litL (litK (litL (litK litC litN) (by decide)) (litK litC (litK litC (litK (litL (litK litC litN) (by decide)) (litK (litL (litK litC litN) (by decide)) (litK (litL (litK litC (litK litC litN)) (by decide)) litN)))))) (by decide)) fun v2 H2 s2 b2 => ?_
    obtain ⟨bl, rfl, c2⟩ := LAt.of b2
    refine seq_litN (y := (.l [(.l [(.t [(.v (.int 9)), (.v (.int 0))])]), (.l [(.t [(.v (.int 0)), (.v (.int 3))])]), (.l [(.t [(.v (.int 0)), (.v (.int 0))]), (.t [(.v (.int 0)), (.v (.int 1))])]), (.l [(.t [(.v (.int 1)), (.v (.int 0))]), (.t [(.v (.int 0)), (.v (.int 0))])]), (.l [(.t [(.v (.int 0))])]), (.l [(.v (.int 0))]), (.v .non), (.l [(.t [(.v (.int 0)), (.v (.bl true))])]), (.v (.str ("a" : Str))), (.l [(.t [(.v (.int (-1))), (.v (.int 0))])]), (.l [(.t [(.v (.int 0)), (.v (.int 0)), (.v (.int 0))])])])) (litL (litK (litL (litK (litT (litK litC (litK litC litN)) (by decide)) litN) (by decide)) (litK (litL (litK (litT (litK litC (litK litC litN)) (by decide)) litN) (by decide)) (litK (litL (litK (litT (litK litC (litK litC litN)) (by decide)) (litK (litT (litK litC (litK litC litN)) (by decide)) litN)) (by decide)) (litK (litL (litK (litT (litK litC (litK litC litN)) (by decide)) (litK (litT (litK litC (litK litC litN)) (by decide)) litN)) (by decide)) (litK (litL (litK (litT (litK litC litN) (by decide)) litN) (by decide)) (litK (litL (litK litC litN) (by decide)) (litK litC (litK (litL (litK (litT (litK litC (litK litC litN)) (by decide)) litN) (by decide)) (litK litC (litK (litL (litK (litT (litK litU (litK litC litN)) (by decide)) litN) (by decide)) (litK (litL (litK (litT (litK litC (litK litC (litK litC litN))) (by decide)) litN) (by decide)) litN))))))))))) (by decide)) fun v3 H3 s3 b3 => ?_
    obtain ⟨bp, rfl, c3⟩ := LAt.of b3
    have s13 := s1.trans (s2.trans s3)
    have b1 := c1.same (s2.trans s3)
    have b2 := (c2.same s3).base s1
    have b3 := c3.base (s1.trans s2)
    have hp0 := hh.1
    have hh3 := hand_same hh s13
    have k3 : Kept p H H3 := Kept.same s13
    clear s1 s2 s3 s13
    have hd3 : Hd p l cells H3 H3 := ⟨Kept.refl, i, r, t, hh3⟩
    refine state_eq (σ' := [some (.ref p), some (.ref na), some (.ref la), some (.ref pa), some (.ref bn), some (.ref bl), some (.ref bp), none, none, none, none, none, none, none, none, none]) rfl ?_
    -- the kind
    refine seq_spoilt rfl (does_pick hd3 rfl ((litL (litK litC (litK litC litN)) (by decide)) : LitE _ (.l [(.v (.str ("s" : Str))), (.v (.str ("d" : Str)))])) rfl (by decide) (by decide)) (fun _ _ h => h.2) (fun H1 hd => does_litB ((litL (litK litC (litK litC (litK litC (litK litC (litK litC litN))))) (by decide)) : LitE _ (.l [(.v (.str ("x" : Str))), (.v .non), (.v (.str ("" : Str))), (.v (.int 1)), (.v (.str ("f" : Str)))])) hd) (by decide) (by decide) fun kv o1 g Hg H7 T1 pg _ h1 hd7 hT1 nT1 => ?_
    have fkg : Fl g ∧ kindV g = true := by
      have hkg := pg.1
      rcases List.mem_cons.mp hkg with rfl | hkg
      · exact ⟨flB_ok (by decide +kernel), by decide +kernel⟩
      · rcases List.mem_cons.mp hkg with rfl | hkg
        · exact ⟨flB_ok (by decide +kernel), by decide +kernel⟩
        · cases hkg
    obtain ⟨fk, w1⟩ := flat_wd h1 fkg (by decide +kernel)
    clear h1 pg fkg
    -- the names
    refine seq_spoilt rfl (does_var rfl) hd7.var (fun H1 hd => does_varB rfl (b1.kept (hd7.1.trans hd.1) hp0) hp0) (by decide) (by decide) fun nv o2 g Hg2 H8 T2 pg _ h2 hd8 hT2 nT2 => ?_
    have k8 := hd7.trans hd8
    have nmOf : ∀ Hx, Kept p H8 Hx → ∃ xs n, Nm Hx nv xs n ∧ Wn "names" c n o2 := fun Hx kx => by
      rcases h2 with ⟨rfl, rfl⟩ | ⟨⟨y, hy, B, o, ho, ky⟩, rfl⟩
      · rw [pg.1]
        have z := Nm.seq (.inl ((k3.trans (k8.1.trans kx)) _ _ nap hna)) (Nat.le_trans hel (by decide)) (fun x hx => (hes x hx).fl)
        rw [hc] at z
        exact ⟨_, _, z, .inl ⟨rfl, rfl⟩⟩
      · obtain ⟨xs, z⟩ := nmBad_ok (List.all_eq_true.mp (show List.all _ nmBad = true by decide +kernel) y hy) (ky.kept kx ho)
        exact ⟨xs, none, z, .inr ⟨rfl, rfl⟩⟩
    clear h2 pg
    -- the lives
    refine seq_spoilt rfl (does_var rfl) hd8.var (fun H1 hd => does_varB rfl (b2.kept (k8.1.trans hd.1) hp0) hp0) (by decide) (by decide) fun lv o3 g Hg3 H9 T3 pg _ h3 hd9 hT3 nT3 => ?_
    have k9 := k8.trans hd9
    have lvOf : ∀ Hx, Kept p H9 Hx → ∃ xs b, Lv Hx lv xs b ∧ Wd "lives" b o3 := fun Hx kx => by
      rcases h3 with ⟨rfl, rfl⟩ | ⟨⟨y, hy, B, o, ho, ky⟩, rfl⟩
      · rw [pg.1]
        have z := Lv.seq (.inl ((k3.trans (k9.1.trans kx)) _ _ lap hla)) (Nat.le_trans hll (by decide)) (fun x hx => (hls x hx).2.1)
        rw [show ls.all lvOk = true from List.all_eq_true.mpr fun x hx => (hls x hx).1] at z
        exact ⟨_, _, z, .inl ⟨rfl, rfl⟩⟩
      · obtain ⟨xs, z⟩ := lvBad_ok (List.all_eq_true.mp (show List.all _ lvBad = true by decide +kernel) y hy) (ky.kept kx ho)
        exact ⟨xs, false, z, .inr ⟨rfl, rfl⟩⟩
    clear h3 pg
    -- the mark
    refine seq_spoilt rfl (does_pick hd9.refl rfl ((litL (litK litC (litK litC (litK litC litN))) (by decide)) : LitE _ (.l [(.v (.int 0)), (.v (.int 1)), (.v (.int 1000))])) rfl (by decide) (by decide)) (fun _ _ h => h.2) (fun H1 hd => does_litB ((litL (litK litU (litK litC (litK litC (litK litC (litK litC litN))))) (by decide)) : LitE _ (.l [(.v (.int (-1))), (.v (.int 1001)), (.v (.bl true)), (.v .non), (.v (.str ("0" : Str)))])) hd) (by decide) (by decide) fun mv o4 g Hg4 H10 T4 pg _ h4 hd10 hT4 nT4 => ?_
    have k10 := k9.trans hd10
    have fmg : Fl g ∧ wholeV g 0 1000 = true := by
      have hkg := pg.1
      rcases List.mem_cons.mp hkg with rfl | hkg
      · exact ⟨.int _, by decide +kernel⟩
      · rcases List.mem_cons.mp hkg with rfl | hkg
        · exact ⟨.int _, by decide +kernel⟩
        · rcases List.mem_cons.mp hkg with rfl | hkg
          · exact ⟨.int _, by decide +kernel⟩
          · cases hkg
    obtain ⟨fm, w4⟩ := flat_wd (f := fun v => wholeV v 0 1000) h4 fmg (by decide +kernel)
    clear h4 pg fmg
    refine state_eq (σ' := [some (.ref p), some (.ref na), some (.ref la), some (.ref pa), some (.ref bn), some (.ref bl), some (.ref bp), some (.ref T1), some (.ref T2), some (.ref T3), some (.ref T4), none, none, none, none, none]) rfl ?_
    -- the person
    have t1 := (hd8.trans (hd9.trans hd10)).1 _ _ nT1 hT1
    have t2 := (hd9.trans hd10).1 _ _ nT2 hT2
    have t3 := hd10.1 _ _ nT3 hT3
    obtain ⟨xs, n, nm, w2⟩ := nmOf H10 (hd9.trans hd10).1
    obtain ⟨ys, b, lvv, w3⟩ := lvOf H10 hd10.1
    refine ⟨_, rfl, T1, _, 0, _, rfl, rfl, SqT.of t1, at0, _, rfl, T2, _, 0, _, rfl, rfl, SqT.of t2, at0, _, rfl, T3, _, 0, _, rfl, rfl, SqT.of t3, at0, _, rfl, T4, _, 0, _, rfl, rfl, SqT.of hT4, at0, ?_⟩
    refine ⟨kv, nv, lv, mv, xs, ys, n, b, rfl, fk, nm, lvv, fm, fun H11 s11 => ?_⟩
    refine ⟨_, rfl, T1, _, 1, _, rfl, rfl, SqT.of (s11 _ _ t1), at1, _, rfl, T2, _, 1, _, rfl, rfl, SqT.of (s11 _ _ t2), at1, _, rfl, T3, _, 1, _, rfl, rfl, SqT.of (s11 _ _ t3), at1, _, rfl, T4, _, 1, _, rfl, rfl, SqT.of (s11 _ _ hT4), at1, (by show 4 ≤ sizeLine; decide), fun W nW => ?_⟩
    have wk : ([o1, o2, o3, o4] : List (Option Str)).all wordOk = true := by
      show (wordOk o1 && (wordOk o2 && (wordOk o3 && (wordOk o4 && true)))) = true
      rw [w1.ok (by decide +kernel), w2.ok (by decide +kernel), w3.ok (by decide +kernel), w4.ok (by decide +kernel)]
      rfl
    refine ⟨W, [o1, o2, o3, o4], rfl, upd_same, (by show 4 ≤ 20; decide), wk, fun H12 s12 => ?_⟩
    rw [pw_first w1 w2 w3 w4]
    have dw := wV_dat (K := K) (H := H12) (firstW_ok wk)
    refine ⟨_, _, dw.dp, dw.dp, dw.sh, dw.sh, _, rfl, ?_⟩
    rw [wV_self]
    refine iteF (tNext_of ?_)
    have s1012 := s11.trans ((same_upd nW).trans s12)
    have hd12 : Hd p l cells H10 H12 := hd10.refl.same s1012
    have k12 := k10.trans hd12
    clear dw wk lvv nm s11 s12 nW s1012
    have numOk : ∀ (d : Int), 0 ≤ d → d < 4 → Fl (.int d) ∧ wholeV (.int d) 0 3 = true := fun d h0 h1 => ⟨.int d, Bool.and_eq_true_iff.mpr ⟨decide_eq_true h0, decide_eq_true (by omega)⟩⟩
    -- sons
    refine seq_spoilt rfl (does_draw hd12 rfl (by decide) (by decide)) (fun _ _ ⟨_, _, _, _, h⟩ => h) (fun H1 hd => does_litB ((litL (litK litC (litK litU (litK litC (litK litC (litK litC litN))))) (by decide)) : LitE _ (.l [(.v (.int 4)), (.v (.int (-1))), (.v (.bl true)), (.v (.str ("1" : Str))), (.v .non)])) hd) (by decide) (by decide) fun sv o5 g Hg5 H13 T5 pg _ h5 hd13 hT5 nT5 => ?_
    have k13 := k12.trans hd13
    obtain ⟨d5, eg, d50, d51, _⟩ := pg
    obtain ⟨fs, w5⟩ := flat_wd (f := fun v => wholeV v 0 3) h5 (eg ▸ numOk d5 d50 d51) (by decide +kernel)
    clear h5 eg d50 d51
    -- daughters
    refine seq_spoilt rfl (does_draw hd13 rfl (by decide) (by decide)) (fun _ _ ⟨_, _, _, _, h⟩ => h) (fun H1 hd => does_litB ((litL (litK litC (litK litU (litK litC (litK litC (litK litC litN))))) (by decide)) : LitE _ (.l [(.v (.int 4)), (.v (.int (-1))), (.v (.bl false)), (.v (.str ("1" : Str))), (.v .non)])) hd) (by decide) (by decide) fun dv o6 g Hg6 H14 T6 pg _ h6 hd14 hT6 nT6 => ?_
    have k14 := k13.trans hd14
    obtain ⟨d6, eg, d60, d61, _⟩ := pg
    obtain ⟨fe, w6⟩ := flat_wd (f := fun v => wholeV v 0 3) h6 (eg ▸ numOk d6 d60 d61) (by decide +kernel)
    clear h6 eg d60 d61
    -- the pairs
    have t2d := (hd12.trans (hd13.trans hd14)).1 _ _ nT2 t2
    refine seq_spoilt (PG := fun g H' => Hd p l cells H14 H' ∧ (o2 = none ∧ g = .ref pa ∨ o2 = some "names" ∧ ∃ a, g = .ref a ∧ a ≠ p ∧ H' a = some (.lst []))) rfl (fun Q q => ?_) (fun _ _ h => h.1) (fun H1 hd => does_varB rfl (b3.kept (k14.1.trans hd.1) hp0) hp0) (by decide) (by decide) fun bv o7 g Hg7 H15 T7 pg kg h7 hd15 hT7 nT7 => ?_
    · refine ⟨_, rfl, T2, _, 1, _, rfl, rfl, SqT.of t2d, at1, ?_⟩
      rcases w2 with ⟨_, e2⟩ | ⟨_, e2⟩
      · rw [e2]
        refine ⟨rfl, _, rfl, iteT ⟨_, rfl, q _ _ ⟨hd14.refl, .inl ⟨e2, rfl⟩⟩⟩⟩
      · rw [e2]
        refine ⟨rfl, _, rfl, iteF ⟨(by decide), fun W nW => q _ _ ⟨hd14.refl.same (same_upd nW), .inr ⟨e2, W, rfl, ?_, upd_same⟩⟩⟩⟩
        obtain ⟨o, ho⟩ := hd14.at_
        exact Ne.symm (ne_of_none ho nW)
    have k15 := k14.trans hd15
    have boOf : ∀ Hx, Kept p H15 Hx → ∀ n, Wn "names" c n o2 → ∃ ms b, Bo Hx bv (n.getD 0) ms b ∧ Wd "borne" b o7 := fun Hx kx n hn =>
      bo_of hn hc8 (hpa Hx (k3.trans (k15.1.trans kx))) hps hpl hbo (pg.2.imp id fun ⟨e, a, eg, ap, ha⟩ => ⟨e, a, eg, (kg.trans kx) _ _ ap ha⟩) (h7.imp id fun ⟨⟨y, hy, B, o, ho, ky⟩, e⟩ => ⟨⟨y, hy, B, ky.kept kx ho⟩, e⟩) badP_ok
    clear h7 pg kg
    -- the marks
    refine seq_spoilt rfl (does_lit ((litL (litK litC (litK litC litN)) (by decide)) : LitE _ (.l [(.v (.int 0)), (.v (.int 1000))]))) (fun _ _ ⟨_, _, s, _⟩ => hd15.refl.same s) (fun H1 hd => does_litB ((litL (litK (litT (litK litC litN) (by decide)) (litK (litT (litK litC (litK litC litN)) (by decide)) (litK litC (litK (litT (litK litC (litK litC litN)) (by decide)) (litK (litL (litK litC (litK litC (litK litC litN))) (by decide)) (litK litC litN)))))) (by decide)) : LitE _ (.l [(.t [(.v (.int 0))]), (.t [(.v (.int 0)), (.v (.int 1001))]), (.v .non), (.t [(.v (.int 0)), (.v (.bl true))]), (.l [(.v (.int 0)), (.v (.int 0)), (.v (.int 0))]), (.v (.int 0))])) hd) (by decide) (by decide) fun xv o8 g Hg8 H16 T8 pg kg h8 hd16 hT8 nT8 => ?_
    have k16 := k15.trans hd16
    have msOf : ∃ qs b, Ms K H16 xv qs b ∧ Wd "marks" b o8 := by
      obtain ⟨a, ea, _, b⟩ := pg
      obtain ⟨o, ho⟩ := hd15.at_
      exact ms_of ⟨a, ea, (b.kept kg ho).sq (vs := [.int 0, .int 1000]) rfl⟩ (h8.imp id fun ⟨⟨y, hy, B, o, ho, ky⟩, e⟩ => ⟨⟨y, hy, B, ky⟩, e⟩) badM_ok
    clear h8 pg kg
    obtain ⟨qs, b3, mk, w8⟩ := msOf
    have e16 := hd12.trans (hd13.trans (hd14.trans (hd15.trans hd16)))
    obtain ⟨xs2, n2, nm2, w22⟩ := nmOf H16 ((hd9.trans hd10).trans e16).1
    obtain ⟨ys2, b2, lv2, w32⟩ := lvOf H16 (hd10.trans e16).1
    obtain ⟨ms, b4, bo, w7⟩ := boOf H16 hd16.1 n2 w22
    have t2e := (hd15.trans hd16).1 _ _ nT2 t2d
    have t3e := e16.1 _ _ nT3 t3
    have t5e := (hd14.trans (hd15.trans hd16)).1 _ _ nT5 hT5
    have t6e := (hd15.trans hd16).1 _ _ nT6 hT6
    have t7e := hd16.1 _ _ nT7 hT7
    refine state_eq (σ' := [some (.ref p), some (.ref na), some (.ref la), some (.ref pa), some (.ref bn), some (.ref bl), some (.ref bp), some (.ref T1), some (.ref T2), some (.ref T3), some (.ref T4), some (.ref T5), some (.ref T6), some (.ref T7), some (.ref T8), none]) rfl ?_
    refine ⟨_, rfl, T2, _, 0, _, rfl, rfl, SqT.of t2e, at0, _, rfl, T3, _, 0, _, rfl, rfl, SqT.of t3e, at0, _, rfl, T5, _, 0, _, rfl, rfl, SqT.of t5e, at0, _, rfl, T6, _, 0, _, rfl, rfl, SqT.of t6e, at0, _, rfl, T7, _, 0, _, rfl, rfl, SqT.of t7e, at0, _, rfl, T8, _, 0, _, rfl, rfl, SqT.of hT8, at0, ?_⟩
    refine ⟨nv, lv, sv, dv, bv, xv, xs2, ys2, qs, n2, b2, b4, b3, ms, rfl, nm2, lv2, fs, fe, bo, mk, fun H17 s17 => ?_⟩
    refine ⟨_, rfl, ?_⟩
    refine ⟨_, rfl, T2, _, 1, _, rfl, rfl, SqT.of (s17 _ _ t2e), at1, _, rfl, T3, _, 1, _, rfl, rfl, SqT.of (s17 _ _ t3e), at1, _, rfl, T5, _, 1, _, rfl, rfl, SqT.of (s17 _ _ t5e), at1, _, rfl, T6, _, 1, _, rfl, rfl, SqT.of (s17 _ _ t6e), at1, _, rfl, T7, _, 1, _, rfl, rfl, SqT.of (s17 _ _ t7e), at1, _, rfl, T8, _, 1, _, rfl, rfl, SqT.of (s17 _ _ hT8), at1, (by show 6 ≤ sizeLine; decide), fun W nW => ?_⟩
    have wk : ([o2, o3, o5, o6, o7, o8] : List (Option Str)).all wordOk = true := by
      show (wordOk o2 && (wordOk o3 && (wordOk o5 && (wordOk o6 && (wordOk o7 && (wordOk o8 && true)))))) = true
      rw [w22.ok (by decide +kernel), w32.ok (by decide +kernel), w5.ok (by decide +kernel), w6.ok (by decide +kernel), w7.ok (by decide +kernel), w8.ok (by decide +kernel)]
      rfl
    refine ⟨W, [o2, o3, o5, o6, o7, o8], rfl, upd_same, (by show 6 ≤ 20; decide), wk, fun H18 s18 => ?_⟩
    rw [cw_first w22 w32 w5 w6 w7 w8]
    have dw := wV_dat (K := K) (H := H18) (firstW_ok wk)
    refine ⟨_, _, dw.dp, dw.dp, dw.sh, dw.sh, ?_⟩
    rw [wV_self]
    obtain ⟨kf, i9, r9, t9, hh9⟩ := k16.same (s17.trans ((same_upd nW).trans s18))
    exact q _ i9 r9 t9 (k3.trans kf) hh9
end
end K35

/-! a state of a person as it should be -/
namespace K35
open PySem PySem.Spec PyProof.Rows L2 L2H
/-- a state of a person stands at x -/
def PSt (CQ : Addr) (H : Hp) (x : Addr) (k : Str) (xs ls : List V) (m : Int) : Prop := ∃ dx tn tl, H x = some (.ins CQ dx (psO (.str k) tn tl (.int m))) ∧ H tn = some (.tup xs) ∧ H tl = some (.tup ls)
theorem PSt.same {CQ : Addr} {H H' : Hp} {x : Addr} {k : Str} {xs ls : List V} {m : Int} (h : PSt CQ H x k xs ls m) (s : Same H H') : PSt CQ H' x k xs ls m := by
  obtain ⟨dx, tn, tl, h1, h2, h3⟩ := h
  exact ⟨dx, tn, tl, s _ _ h1, s _ _ h2, s _ _ h3⟩
/-- a list is changed -/
theorem PSt.put {CQ : Addr} {H : Hp} {x a : Addr} {k : Str} {xs ls ys zs : List V} {m : Int} (h : PSt CQ H x k xs ls m) (e : H a = some (.lst ys)) : PSt CQ (upd H a (.lst zs)) x k xs ls m := by
  obtain ⟨dx, tn, tl, h1, h2, h3⟩ := h
  have ne : ∀ {b : Addr} {o : HO}, H b = some o → (∀ us, o ≠ .lst us) → b ≠ a := fun hb n z => by
    rw [z, e] at hb
    exact n _ (Option.some.inj hb).symm
  exact ⟨dx, tn, tl, (upd_ne (ne h1 (fun _ z => by cases z))).trans h1, (upd_ne (ne h2 (fun _ z => by cases z))).trans h2, (upd_ne (ne h3 (fun _ z => by cases z))).trans h3⟩
theorem dat_tup {K : PySem.W.Frag} {H : Hp} {a : Addr} {xs : List V} (e : H a = some (.tup xs)) (h : ∀ x ∈ xs, Fl x) : Dat K H (.ref a) (.tuple (dsOf xs)) := ⟨.tup (SqT.of e) (dp_flat h), shaped_tup h⟩
theorem PSt.at_ {K : PySem.W.Frag} {CQ : Addr} {H : Hp} {x : Addr} {k : Str} {xs ls : List V} {m : Int} (h : PSt CQ H x k xs ls m) (h1 : ∀ x ∈ xs, Fl x) (h2 : ∀ x ∈ ls, Fl x) : PAt K CQ H x k (.tuple (dsOf xs)) (.tuple (dsOf ls)) m := by
  obtain ⟨dx, tn, tl, e1, e2, e3⟩ := h
  exact ⟨dx, tn, tl, e1, dat_tup e2 h1, dat_tup e3 h2⟩
/-- what a good call of PersonState gives -/
theorem new_ps {CQ CS : Addr} {H : Hp} {k : Str} {nv lv : V} {xs ls : List V} {c : Nat} {m : Int} {Q : VK} {E : XK} (fk : Fl (.str k)) (hk : kindV (.str k) = true) (nm : Nm H nv xs (some c)) (lvv : Lv H lv ls true) (hm : wholeV (.int m) 0 1000 = true)
    (q : ∀ (H' : Hp) (x : Addr), Same H H' → PSt CQ H' x k xs ls m → H x = none → Q (.ref x) H') :
    ∀ x dx, H x = none → H dx = none → dx ≠ x → spPS CQ CS (.ref x :: ([V.str k, nv, lv, .int m] ++ [])) (upd (upd H dx (.own x)) x (.ins CQ dx [])) (fun v H2 => v = .non ∧ Q (.ref x) H2) E := fun x dx nx nd ne => by
  have s0 := same_ins (C := CQ) (fs := []) nx nd ne
  have e : pw (.str k) (some c) true (.int m) = none := by
    unfold pw
    rw [hk, hm]
    rfl
  refine ⟨x, dx, .str k, nv, lv, .int m, xs, ls, some c, true, rfl, upd_same, fk, nm.same s0, lvv.same s0, .int m, fun _ H' tn tl h1 h2 h3 kp => ⟨rfl, q H' x (fun z u hz => kp _ _ (s0 _ _ hz) (ne_of_none hz nx)) ⟨dx, tn, tl, h1, h2, h3⟩ nx⟩, fun z ez => ?_⟩
  rw [e] at ez
  cases ez
/-- a list of it, a new one -/
def rListS : List V → Hp → VK → Prop := fun vs H Q => ∃ (a : Addr) (xs : List V), vs = [.ref a] ∧ Sq H a xs ∧ ∀ l : Addr, H l = none → Q (.ref l) (upd H l (.lst xs))
theorem call_listS {X : Cx} : CallR X (.type "list") rListS := fun pins s σ H vs us Q I r h => by
  obtain ⟨a, xs, rfl, hS, k⟩ := h
  exact call_list_of pins s σ H _ us Q I r ⟨a, xs, rfl, hS.or, k⟩
theorem seq_par2 {t1 t2 : TE} {i j : Nat} {u : TS} {D : Ends} {σ : L2.St} {H : Hp} {P1 : V → Hp → Prop} {P2 : V → Hp → V → Hp → Prop} (d1 : Does t1 σ H P1) (d2 : ∀ v H1, P1 v H1 → Does t2 σ H1 (P2 v H1))
    (q : ∀ v H1 w H2, P1 v H1 → P2 v H1 w H2 → u D ((σ.set i (some v)).set j (some w)) H2) : tSeq (tPar i j (tCons t1 (tCons t2 tNil))) u D σ H := d1 _ fun v H1 p1 => d2 v H1 p1 _ fun w H2 p2 => ⟨v, w, rfl, q v H1 w H2 p1 p2⟩
theorem seq_does {te : TE} {i : Nat} {u : TS} {D : Ends} {σ : L2.St} {H : Hp} {P1 : V → Hp → Prop} (d : Does te σ H P1) (q : ∀ v H1, P1 v H1 → u D (σ.set i (some v)) H1) : tSeq (tAsg te (gName i)) u D σ H := d _ q
theorem seq_drop {te : TE} {u : TS} {D : Ends} {σ : L2.St} {H : Hp} {P1 : V → Hp → Prop} (d : Does te σ H P1) (q : ∀ v H1, P1 v H1 → u D σ H1) : tSeq (tDrop te) u D σ H := d _ q
theorem does_list {j : Nat} {a : Addr} {xs : List V} {σ : L2.St} {H : Hp} (e : σ[j]? = some (some (.ref a))) (hS : Sq H a xs) : Does (tCB rListS (tCons (tVar j) tNil)) σ H (fun v H' => ∃ l, v = .ref l ∧ H l = none ∧ H' = upd H l (.lst xs)) := fun Q q => ⟨_, e, a, xs, rfl, hS, fun l nl => q _ _ ⟨l, rfl, nl, rfl⟩⟩
theorem does_tup {j : Nat} {a : Addr} {xs : List V} {σ : L2.St} {H : Hp} (e : σ[j]? = some (some (.ref a))) (hS : Sq H a xs) : Does (tCB rTupS (tCons (tVar j) tNil)) σ H (fun v H' => ∃ t, v = .ref t ∧ Same H H' ∧ H' t = some (.tup xs)) := fun Q q => ⟨_, e, a, xs, rfl, hS, fun H2 t s ht => q _ _ ⟨t, rfl, s, ht⟩⟩
/-- PersonState(..), its arguments read one by one -/
theorem does_ps {CQ CS : Addr} {t1 t2 t3 t4 : TE} {σ : L2.St} {H : Hp} {k : Str} {xs ls : List V} {c : Nat} {m : Int} (fk : Fl (.str k)) (hk : kindV (.str k) = true) (hm : wholeV (.int m) 0 1000 = true)
    (d1 : Does t1 σ H (fun v H' => v = .str k ∧ H' = H)) (d2 : Does t2 σ H (fun v H' => Same H H' ∧ Nm H' v xs (some c))) (d3 : ∀ H1, Same H H1 → Does t3 σ H1 (fun v H' => Same H1 H' ∧ Lv H' v ls true)) (d4 : ∀ H1, Does t4 σ H1 (fun v H' => v = .int m ∧ H' = H1)) :
    Does (tMake CQ (spPS CQ CS) [] E0 (tCons t1 (tCons t2 (tCons t3 (tCons t4 tNil))))) σ H (fun v H' => ∃ x, v = .ref x ∧ Same H H' ∧ PSt CQ H' x k xs ls m ∧ H x = none) := fun Q q => by
  refine d1 _ ?_
  rintro _ _ ⟨rfl, rfl⟩
  refine d2 _ ?_
  rintro nv H1 ⟨s1, nm⟩
  refine d3 H1 s1 _ ?_
  rintro lv H2 ⟨s2, lvv⟩
  refine d4 H2 _ ?_
  rintro _ _ ⟨rfl, rfl⟩
  exact new_ps fk hk (nm.same s2) lvv hm fun H' x s h nx => q _ _ ⟨x, rfl, (s1.trans s2).trans s, h, none_of (s1.trans s2) nx⟩
theorem does_nm {j : Nat} {a : Addr} {xs : List V} {c : Nat} {σ : L2.St} {H : Hp} (e : σ[j]? = some (some (.ref a))) (hS : Sq H a xs) (hc : cnt 0 xs = some c) (hl : xs.length ≤ 40) (fl : ∀ x ∈ xs, Fl x) : Does (tVar j) σ H (fun v H' => Same H H' ∧ Nm H' v xs (some c)) := fun Q q => ⟨_, e, q _ _ ⟨Same.refl _, by
  have z := Nm.seq hS hl fl
  rw [hc] at z
  exact z⟩⟩
theorem does_lv {j : Nat} {a : Addr} {xs : List V} {σ : L2.St} {H : Hp} (e : σ[j]? = some (some (.ref a))) (hS : Sq H a xs) (hc : xs.all lvOk = true) (hl : xs.length ≤ 40) (fl : ∀ x ∈ xs, Fl x) : Does (tVar j) σ H (fun v H' => Same H H' ∧ Lv H' v xs true) := fun Q q => ⟨_, e, q _ _ ⟨Same.refl _, by
  have z := Lv.seq hS (Nat.le_trans hl (by decide)) fl
  rw [hc] at z
  exact z⟩⟩
theorem does_nmT {j : Nat} {a : Addr} {xs : List V} {c : Nat} {σ : L2.St} {H : Hp} (e : σ[j]? = some (some (.ref a))) (hS : Sq H a xs) (hc : cnt 0 xs = some c) (hl : xs.length ≤ 40) (fl : ∀ x ∈ xs, Fl x) : Does (tCB rTupS (tCons (tVar j) tNil)) σ H (fun v H' => Same H H' ∧ Nm H' v xs (some c)) := fun Q q => does_tup e hS Q fun v H' ⟨t, ev, s, ht⟩ => q _ _ ⟨s, by
  have z := Nm.seq (.inr ht) hl fl
  rw [hc] at z
  rw [ev]
  exact z⟩
theorem does_lvT {j : Nat} {a : Addr} {xs : List V} {σ : L2.St} {H : Hp} (e : σ[j]? = some (some (.ref a))) (hS : Sq H a xs) (hc : xs.all lvOk = true) (hl : xs.length ≤ 40) (fl : ∀ x ∈ xs, Fl x) : Does (tCB rTupS (tCons (tVar j) tNil)) σ H (fun v H' => Same H H' ∧ Lv H' v xs true) := fun Q q => does_tup e hS Q fun v H' ⟨t, ev, s, ht⟩ => q _ _ ⟨s, by
  have z := Lv.seq (.inr ht) (Nat.le_trans hl (by decide)) fl
  rw [hc] at z
  rw [ev]
  exact z⟩
theorem dat4 {K : PySem.W.Frag} {H : Hp} {U a b : Addr} {k : Str} {m : Int} {xs ls : List V} (e : H U = some (.tup [.str k, .ref a, .ref b, .int m])) (ha : H a = some (.tup xs)) (hb : H b = some (.tup ls)) (fk : Fl (.str k)) (h1 : ∀ x ∈ xs, Fl x) (h2 : ∀ x ∈ ls, Fl x) :
    Dat K H (.ref U) (.tuple [.str k, .tuple (dsOf xs), .tuple (dsOf ls), .int m]) := by
  refine ⟨.tup (SqT.of e) (.cons (.str k) (.cons (dat_tup ha h1).dp (.cons (dat_tup hb h2).dp (.cons (.int m) .nil)))), Bool.and_eq_true_iff.mpr ⟨?_, decide_eq_true ?_⟩⟩
  · show ((PyData.str k).canLay0 && (PyData.canLayAll0 (dsOf xs) && (PyData.canLayAll0 (dsOf ls) && true))) = true
    rw [show (PyData.str k).canLay0 = true from fk.lay, lay_flat h1, lay_flat h2]
    rfl
  · show max 0 (max (PyData.depthAll (dsOf xs) + 1) (max (PyData.depthAll (dsOf ls) + 1) (max 0 0))) + 1 ≤ 64
    rw [deep_flat h1, deep_flat h2]
    decide
theorem plain4 {k : Str} {m : Int} {xs ls : List V} (h1 : xs.all plainV = true) (h2 : ls.all plainV = true) : plainD (.tuple [.str k, .tuple (dsOf xs), .tuple (dsOf ls), .int m]) = true := by
  show (true && (plainAll (dsOf xs) && (plainAll (dsOf ls) && (true && true)))) = true
  rw [plain_ds h1, plain_ds h2]
  rfl
theorem does_lst2 {t1 t2 : TE} {σ : L2.St} {H : Hp} {P1 : V → Hp → Prop} {P2 : V → Hp → V → Hp → Prop} (d1 : Does t1 σ H P1) (d2 : ∀ v H1, P1 v H1 → Does t2 σ H1 (P2 v H1)) :
    Does (tLst (tCons t1 (tCons t2 tNil))) σ H (fun v H' => ∃ a x H1 y H2, v = .ref a ∧ P1 x H1 ∧ P2 x H1 y H2 ∧ H2 a = none ∧ H' = upd H2 a (.lst [x, y])) := fun Q q =>
  d1 _ fun x H1 p1 => d2 x H1 p1 _ fun y H2 p2 => ⟨(by show 2 ≤ sizeLine; decide), fun a na => q _ _ ⟨a, x, H1, y, H2, rfl, p1, p2, na, rfl⟩⟩
theorem does_cat {j : Nat} {a : Addr} {xs : List V} {tl : TE} {σ : L2.St} {H : Hp} {P1 : V → Hp → Prop} (e : σ[j]? = some (some (.ref a))) (d : Does tl σ H P1) (k : ∀ v H', P1 v H' → ∃ b ys, v = .ref b ∧ H' b = some (.lst ys) ∧ H' a = some (.lst xs) ∧ xs.length + ys.length ≤ 1000) :
    Does (tOp rCat (tVar j) tl) σ H (fun v H' => ∃ w H1 b ys c, P1 w H1 ∧ w = .ref b ∧ H1 b = some (.lst ys) ∧ v = .ref c ∧ H1 c = none ∧ H' = upd H1 c (.lst (xs ++ ys))) := fun Q q => by
  refine ⟨_, e, d _ fun w H1 p => ?_⟩
  obtain ⟨b, ys, rfl, hb, ha, hl⟩ := k w H1 p
  exact ⟨a, b, xs, ys, rfl, rfl, ha, hb, Nat.le_trans hl (by decide), fun c nc => q _ _ ⟨_, H1, b, ys, c, p, rfl, hb, rfl, nc, rfl⟩⟩
/-- names + [None] -/
theorem does_nmN {j : Nat} {a : Addr} {xs : List V} {c : Nat} {σ : L2.St} {H : Hp} (e : σ[j]? = some (some (.ref a))) (hS : H a = some (.lst xs)) (hc : cnt 0 xs = some c) (hl : xs.length ≤ 30) (fl : ∀ x ∈ xs, Fl x) : Does (tOp rCat (tVar j) (tLst (tCons (tC .non) tNil))) σ H (fun v H' => Same H H' ∧ Nm H' v (xs ++ [.non]) (some c)) := fun Q q => by
  refine ⟨_, e, (by show 1 ≤ sizeLine; decide), fun W nW => ⟨a, W, xs, [.non], rfl, rfl, same_upd nW _ _ hS, upd_same, ?_, fun p np => q _ _ ⟨(same_upd nW).trans (same_upd np), ?_⟩⟩⟩
  · exact Nat.le_trans (Nat.add_le_add_right hl _) (by decide)
  · have z := Nm.seq (a := p) (xs := xs ++ [.non]) (H := upd (upd H W (.lst [.non])) p (.lst (xs ++ [.non]))) (.inl upd_same) (by rw [List.length_append]; exact Nat.le_trans (Nat.add_le_add_right hl 1) (by decide)) (fun x hx => (List.mem_append.mp hx).elim (fl x) fun h => by
      rw [List.mem_singleton] at h
      rw [h]
      exact .non)
    rw [cnt_app, hc] at z
    exact z
theorem does_lvN {j : Nat} {a : Addr} {xs : List V} {σ : L2.St} {H : Hp} (e : σ[j]? = some (some (.ref a))) (hS : H a = some (.lst xs)) (hc : xs.all lvOk = true) (hl : xs.length ≤ 30) (fl : ∀ x ∈ xs, Fl x) : Does (tOp rCat (tVar j) (tLst (tCons (tC .non) tNil))) σ H (fun v H' => Same H H' ∧ Lv H' v (xs ++ [.non]) true) := fun Q q => by
  refine ⟨_, e, (by show 1 ≤ sizeLine; decide), fun W nW => ⟨a, W, xs, [.non], rfl, rfl, same_upd nW _ _ hS, upd_same, ?_, fun p np => q _ _ ⟨(same_upd nW).trans (same_upd np), ?_⟩⟩⟩
  · exact Nat.le_trans (Nat.add_le_add_right hl _) (by decide)
  · have z := Lv.seq (a := p) (xs := xs ++ [.non]) (H := upd (upd H W (.lst [.non])) p (.lst (xs ++ [.non]))) (.inl upd_same) (by rw [List.length_append]; exact Nat.le_trans (Nat.add_le_add_right hl 1) (by decide)) (fun x hx => (List.mem_append.mp hx).elim (fl x) fun h => by
      rw [List.mem_singleton] at h
      rw [h]
      exact .non)
    rw [List.all_append, hc] at z
    exact z
theorem does_app {K : PySem.W.Frag} {j : Nat} {a : Addr} {xs : List V} {v : V} {σ : L2.St} {H : Hp} (e : σ[j]? = some (some (.ref a))) (h : H a = some (.lst xs)) (hl : xs.length ≤ 40) : Does (tBM K "list" rAppend (tVar j) (tCons (tC v) tNil)) σ H (fun _ H' => H' = upd H a (.lst (xs ++ [v]))) := fun Q q => by
  exact ⟨_, e, .inl ⟨rfl, _, SqL.of h⟩, a, xs, v, rfl, rfl, h, Nat.lt_of_le_of_lt hl (by decide), q _ _ rfl⟩
theorem fl_snoc {xs : List V} (h : ∀ x ∈ xs, Fl x) : ∀ x ∈ xs ++ [V.non], Fl x := fun x hx => (List.mem_append.mp hx).elim (h x) fun z => by
  rw [List.mem_singleton] at z
  rw [z]
  exact .non
theorem pl_snoc {xs : List V} (h : xs.all plainV = true) : (xs ++ [V.non]).all plainV = true := by
  rw [List.all_append, h]
  rfl
theorem snoc_ne {xs : List V} : xs ≠ xs ++ [V.non] := fun h => by
  have z := congrArg List.length h
  rw [List.length_append] at z
  have z2 : ([V.non] : List V).length = 1 := rfl
  omega
/-- a state against one like it, one unlike it, a tuple -/
theorem eq_yes {K : PySem.W.Frag} {CQ : Addr} {H : Hp} {x1 x2 : Addr} {k : Str} {xs ls : List V} {m : Int} {Q : VK} (h1 : PSt CQ H x1 k xs ls m) (h2 : PSt CQ H x2 k xs ls m) (f1 : ∀ x ∈ xs, Fl x) (f2 : ∀ x ∈ ls, Fl x) (p1 : xs.all plainV = true) (p2 : ls.all plainV = true)
    (nf : PySem.W.notFirst K CQ (.ref CQ) = true) (q : Q (.bl true) H) : rEqI K CQ (spPEq K CQ) (.ref x1) (.ref x2) H Q := by
  obtain ⟨dx, tn, tl, e1, _, _⟩ := id h1
  obtain ⟨dx2, tn2, tl2, e2, _, _⟩ := id h2
  refine ⟨x1, dx, _, _, rfl, e1, .ins e2, nf, x1, _, k, _, _, m, rfl, h1.at_ f1 f2, .inl ⟨x2, k, _, _, m, rfl, h2.at_ f1 f2, _, rfl, ?_⟩⟩
  rw [eqv_refl (show plainD (.tuple (dsOf xs)) = true from plain_ds p1), eqv_refl (show plainD (.tuple (dsOf ls)) = true from plain_ds p2), decide_eq_true rfl, decide_eq_true rfl]
  exact q
theorem tup_ne {xs ys : List V} (p1 : xs.all plainV = true) (p2 : ys.all plainV = true) (n : xs ≠ ys) : PyData.eqv (.tuple (dsOf xs)) (.tuple (dsOf ys)) = false :=
  eqv_ne (show plainD (.tuple (dsOf xs)) = true from plain_ds p1) (show plainD (.tuple (dsOf ys)) = true from plain_ds p2) fun h => by
    injection h with h
    exact n (dsOf_inj p1 p2 h)
theorem eq_no {K : PySem.W.Frag} {CQ : Addr} {H : Hp} {x1 x2 : Addr} {k k2 : Str} {xs ls xs2 ls2 : List V} {m m2 : Int} {Q : VK} (h1 : PSt CQ H x1 k xs ls m) (h2 : PSt CQ H x2 k2 xs2 ls2 m2) (f1 : ∀ x ∈ xs, Fl x) (f2 : ∀ x ∈ ls, Fl x) (f3 : ∀ x ∈ xs2, Fl x) (f4 : ∀ x ∈ ls2, Fl x)
    (p1 : xs.all plainV = true) (p2 : ls.all plainV = true) (p3 : xs2.all plainV = true) (p4 : ls2.all plainV = true) (nf : PySem.W.notFirst K CQ (.ref CQ) = true) (ne : V.str k ≠ V.str k2 ∨ xs ≠ xs2 ∨ ls ≠ ls2 ∨ V.int m ≠ V.int m2) (q : Q (.bl false) H) : rEqI K CQ (spPEq K CQ) (.ref x1) (.ref x2) H Q := by
  obtain ⟨dx, tn, tl, e1, _, _⟩ := id h1
  obtain ⟨dx2, tn2, tl2, e2, _, _⟩ := id h2
  refine ⟨x1, dx, _, _, rfl, e1, .ins e2, nf, x1, _, k, _, _, m, rfl, h1.at_ f1 f2, .inl ⟨x2, k2, _, _, m2, rfl, h2.at_ f3 f4, _, rfl, ?_⟩⟩
  have e : (decide (V.str k = V.str k2) && (PyData.eqv (.tuple (dsOf xs)) (.tuple (dsOf xs2)) && (PyData.eqv (.tuple (dsOf ls)) (.tuple (dsOf ls2)) && decide (V.int m = V.int m2)))) = false := by
    rcases ne with n | n | n | n
    · rw [decide_eq_false n]
      rfl
    · rw [tup_ne p1 p3 n, Bool.false_and, Bool.and_false]
    · rw [tup_ne p2 p4 n, Bool.false_and, Bool.and_false, Bool.and_false]
    · rw [decide_eq_false n, Bool.and_false, Bool.and_false, Bool.and_false]
  rw [e]
  exact q
theorem eq_tup {K : PySem.W.Frag} {CQ : Addr} {H : Hp} {x1 b : Addr} {k : Str} {xs ls us : List V} {m : Int} {Q : VK} (h1 : PSt CQ H x1 k xs ls m) (hb : H b = some (.tup us)) (f1 : ∀ x ∈ xs, Fl x) (f2 : ∀ x ∈ ls, Fl x) (nf : PySem.W.notFirst K CQ (.type "tuple") = true) (q : Q (.bl false) H) : rEqI K CQ (spPEq K CQ) (.ref x1) (.ref b) H Q := by
  obtain ⟨dx, tn, tl, e1, _, _⟩ := id h1
  exact ⟨x1, dx, _, _, rfl, e1, .tup hb, nf, x1, _, k, _, _, m, rfl, h1.at_ f1 f2, .inr ⟨b, us, rfl, hb, _, rfl, q⟩⟩
def spPR : Sp := fun vs H Q _ => ∃ (p l : Addr) (cells : List Int) (i r t : Int) (na la : Addr) (es ls : List V) (c : Nat), vs = [.ref p, .ref na, .ref la] ∧ HandAt H p l cells i r t ∧ H na = some (.lst es) ∧ H la = some (.lst ls) ∧ na ≠ p ∧ la ≠ p ∧
  cnt 0 es = some c ∧ (∀ x ∈ es, isE x) ∧ es.length ≤ 7 ∧ (∀ x ∈ ls, lvOk x = true ∧ Fl x ∧ plainV x = true) ∧ ls.length ≤ 5 ∧
  ∀ (H' : Hp) (i' r' t' : Int), Kept p H H' → HandAt H' p l cells i' r' t' → Q (.bl true) H'
end K35

/-! a state of a person as it should be: the walk -/
namespace K35
open PySem PySem.Spec PyProof.Rows L2 L2H
theorem passX0 {X : Cx} : Passes (L2.CX X.prog X.w) X E0 := fun _ _ _ _ _ _ _ h => by
  obtain ⟨_, _, _, _, _, _, _, _, _, _, _, _, e⟩ := h
  exact e.elim
structure EqM (P : Program) (w : World) (K : PySem.W.Frag) (mg : Str → Option Value) (base : Heap) (C : Addr) (sp : Sp) (f : Addr) (fd : FuncData) : Prop where
  ok : FnOk P w K mg base CX0 1 f fd ["self", "other"] sp
  fi : PySem.W.findIn K (.ref C) "__eq__" = some (some (.ref f))
  fn : PySem.W.isFn K (.ref f) = true
  bi : Binds K fd ["self", "other"] []
  nfS : PySem.W.notFirst K C (.ref C) = true
  nfT : PySem.W.notFirst K C (.type "tuple") = true
section
variable {P : Program} {w : World} {K : PySem.W.Frag} {mg : Str → Option Value} {base : Heap}
theorem scPR : FnScope ["_law_hand_here", "_law_names", "_law_lives", "_law_kind", "_law_worth", "_law_handed", "_law_given", "_law_one", "_law_two", "_law_others", "_law_other"] ["_law_hand_here", "_law_names", "_law_lives"] (defScope sPersonRight) := ⟨rfl, rfl, rfl, by decide +kernel, rfl, by decide +kernel, by decide +kernel⟩
theorem ok_pr {f fD fP fI fE CQ CS : Addr} {fd fdD fdP fdI fdE : FuncData} (F : FnP K "_law_person_right" sPersonRight f fd) (z_list : mg "list" = none) (z_tuple : mg "tuple" = none) (z_isinstance : mg "isinstance" = none) (z_bool : mg "bool" = none) (z_min : mg "min" = none) (T : PsC K CQ)
    (dP : Df P w K mg base "_law_pick" 3 ["_law_hand_here", "_law_things"] (spPick K) fP fdP) (M : MkX P w K mg base "PersonState" 6 ["self", "kind", "names", "lives", "mark"] (spPS CQ CS) CQ fI fdI) (EQ : EqM P w K mg base CQ (spPEq K CQ) fE fdE) :
    FnOk P w K mg base CX0 8 f fd ["_law_hand_here", "_law_names", "_law_lives"] spPR := by
  refine F.ok scPR (fun vs H Q E h => ?_) (fun cdv A outer s H vs Q E hr h => ?_)
  · obtain ⟨p, l, cells, i, r, t, na, la, es, ls, c, rfl, _⟩ := h
    rfl
  · obtain ⟨p, l, cells, i, r, t, na, la, es, ls, c, rfl, hh, hna, hla, nap, lap, hc, hes, hel, hls, hll, q⟩ := h
    have hr1 := hr.mono (show 1 ≤ 7 by decide)
    have hr3 := hr.mono (show 3 ≤ 7 by decide)
    refine ⟨_, PSs.nox (pss_cons (ps_par (i := 3) (j := 4) rfl scPR.nd rfl rfl (by decide) rfl rfl (pa_cons (pe_call dP.ok hr3 (by rfl) dP.gl dP.kp dP.bi .nil pass0 (pa_cons (pv 0) (pa_cons (pe_lst (pa_cons pe_str (pa_cons pe_str pa_nil))) pa_nil))) (pa_cons (pe_call dP.ok hr3 (by rfl) dP.gl dP.kp dP.bi .nil pass0 (pa_cons (pv 0) (pa_cons (pe_lst (pa_cons pe_int (pa_cons pe_int (pa_cons pe_int (pa_cons pe_int pa_nil))))) pa_nil))) pa_nil)) rfl)
    (pss_cons (ps_par (i := 5) (j := 6) rfl scPR.nd rfl rfl (by decide) rfl rfl (pa_cons (pe_callTy call_listS (by rfl) z_list (by decide +kernel) (pa_cons (pv 1) pa_nil)) (pa_cons (pe_callTy call_listS (by rfl) z_list (by decide +kernel) (pa_cons (pv 2) pa_nil)) pa_nil)) rfl)
    (pss_cons (ps_set (i := 7) scPR.nd rfl (.inr rfl) (pe_make M.mks M.ok hr (by rfl) M.gl M.bi .nil passX0 (pa_cons (pv 3) (pa_cons (pv 5) (pa_cons (pv 6) (pa_cons (pv 4) pa_nil))))))
    (pss_cons (ps_set (i := 8) scPR.nd rfl (.inl rfl) (pe_make M.mks M.ok hr (by rfl) M.gl M.bi .nil passX0 (pa_cons (pv 3) (pa_cons (pe_callTy call_tupS (by rfl) z_tuple (by decide +kernel) (pa_cons (pv 1) pa_nil)) (pa_cons (pe_callTy call_tupS (by rfl) z_tuple (by decide +kernel) (pa_cons (pv 2) pa_nil)) (pa_cons (pv 4) pa_nil))))))
    (pss_cons (ps_expr (pe_bm PySem.F.plainAttrs_list PySem.F.slot_list_append PySem.F.type_list_append mt_append (pv 5) (pa_cons pe_int pa_nil)))
    (pss_cons (ps_expr (pe_bm PySem.F.plainAttrs_list PySem.F.slot_list_append PySem.F.type_list_append mt_append (pv 6) (pa_cons pe_str pa_nil)))
    (pss_cons (ps_if (pt_cmpR (op_neD hr.units) (pe_tup (pa_cons (pe_fld (pv 7) rfl) (pa_cons (pe_fld (pv 7) rfl) (pa_cons (pe_fld (pv 7) rfl) (pa_cons (pe_fld (pv 7) rfl) pa_nil))))) (pe_tup (pa_cons (pv 3) (pa_cons (pe_callTy call_tupS (by rfl) z_tuple (by decide +kernel) (pa_cons (pv 1) pa_nil)) (pa_cons (pe_callTy call_tupS (by rfl) z_tuple (by decide +kernel) (pa_cons (pv 2) pa_nil)) (pa_cons (pv 4) pa_nil))))) (nomark _))
      (pss_one (ps_ret pe_bl))
      pss_nil)
    (pss_cons (ps_if (PW.pt (pw_or (pt_val (pe_callB call_isi (by rfl) z_isinstance (by decide +kernel) (pa_cons (pe_fld (pv 7) rfl) (pa_cons (pe_bltn (by rfl) z_bool (by decide +kernel) (v := .ty "bool") rfl) pa_nil)))) (pw_or (pt_not (pt_val (pe_callB call_isi (by rfl) z_isinstance (by decide +kernel) (pa_cons (pe_fld (pv 7) rfl) (pa_cons (pe_bltn (by rfl) z_tuple (by decide +kernel) (v := .ty "tuple") rfl) pa_nil))))) (pw_or1 (pt_not (pt_val (pe_callB call_isi (by rfl) z_isinstance (by decide +kernel) (pa_cons (pe_fld (pv 7) rfl) (pa_cons (pe_bltn (by rfl) z_tuple (by decide +kernel) (v := .ty "tuple") rfl) pa_nil)))))))))
      (pss_one (ps_ret pe_bl))
      pss_nil)
    (pss_cons (ps_set (i := 9) scPR.nd rfl (.inl rfl) (pe_lst (pa_cons (pe_make M.mks M.ok hr (by rfl) M.gl M.bi .nil passX0 (pa_cons (pe_ifExp (pt_cmpR op_eq (pv 3) pe_str (nomark _)) pe_str pe_str) (pa_cons (pv 1) (pa_cons (pv 2) (pa_cons (pv 4) pa_nil))))) (pa_cons (pe_make M.mks M.ok hr (by rfl) M.gl M.bi .nil passX0 (pa_cons (pv 3) (pa_cons (pe_op op_cat (pv 1) (pe_lst (pa_cons pe_non pa_nil))) (pa_cons (pv 2) (pa_cons (pv 4) pa_nil))))) pa_nil))))
    (pss_cons (ps_set (i := 9) scPR.nd rfl (.inl rfl) (pe_op op_cat (pv 9) (pe_lst (pa_cons (pe_make M.mks M.ok hr (by rfl) M.gl M.bi .nil passX0 (pa_cons (pv 3) (pa_cons (pv 1) (pa_cons (pe_op op_cat (pv 2) (pe_lst (pa_cons pe_non pa_nil))) (pa_cons (pv 4) pa_nil))))) (pa_cons (pe_make M.mks M.ok hr (by rfl) M.gl M.bi .nil passX0 (pa_cons (pv 3) (pa_cons (pv 1) (pa_cons (pv 2) (pa_cons (pe_op op_sub pe_int (pe_callB (call_min2 rfl) (by rfl) z_min (by decide +kernel) (pa_cons (pv 4) (pa_cons pe_int pa_nil)))) pa_nil))))) pa_nil)))))
    (pss_one (ps_ret (pe_and (pe_cmpR (op_eqI EQ.ok EQ.fi EQ.fn EQ.bi pass0 hr1) (pv 7) (pv 8) (nomark _)) (pe_and (pe_cmpR (op_eqD hr.units) (pe_lc (own := [("_law_other", 10)]) (g := gName 10) (tt := tTest (tOp (rEqI K CQ (spPEq K CQ)) (tVar 7) (tVar 10))) rfl scPR.nd (pi_list (pv 9)) (blkOk_by (N := ["_law_hand_here", "_law_names", "_law_lives", "_law_kind", "_law_worth", "_law_handed", "_law_given", "_law_one", "_law_two", "_law_others", "_law_other"]) (sc := defScope sPersonRight) (by decide +kernel)) (fun _ _ _ _ _ => pg_name (i := 10) scPR.nd rfl (Or.inl rfl)) (fun _ _ _ _ _ => pts_one (pt_cmpR (op_eqI EQ.ok EQ.fi EQ.fn EQ.bi pass0 hr1) (pv 7) (pv 10) (nomark _))) (fun _ _ _ _ _ => (pv 10))) (pe_lst pa_nil) (nomark _)) (pe_one (pe_not (pe_cmpR (op_eqI EQ.ok EQ.fi EQ.fn EQ.bi pass0 hr1) (pv 7) (pe_tup (pa_cons (pv 3) (pa_cons (pv 1) (pa_cons (pv 2) (pa_cons (pv 4) pa_nil))))) (nomark _)))))))))))))))))), ?_⟩
    have hd0 : Hd p l cells H H := ⟨Kept.refl, i, r, t, hh⟩
    have fles : ∀ x ∈ es, Fl x := fun x hx => (hes x hx).fl
    have flls : ∀ x ∈ ls, Fl x := fun x hx => (hls x hx).2.1
    have lall : ls.all lvOk = true := List.all_eq_true.mpr fun x hx => (hls x hx).1
    refine seq_par2 (does_pick hd0 rfl ((litL (litK litC (litK litC litN)) (by decide)) : LitE _ (.l [(.v (.str ("s" : Str))), (.v (.str ("d" : Str)))])) rfl (by decide) (by decide)) (fun _ _ h => does_pick h.2.refl rfl ((litL (litK litC (litK litC (litK litC (litK litC litN)))) (by decide)) : LitE _ (.l [(.v (.int 0)), (.v (.int 0)), (.v (.int 1)), (.v (.int 1000))])) rfl (by decide) (by decide)) fun kv H1 mv H2 pk pm => ?_
    have hd2 := pk.2.trans pm.2
    obtain ⟨k, ek, fk, hk, k1⟩ : ∃ k : Str, kv = .str k ∧ Fl (.str k) ∧ kindV (.str k) = true ∧ (k = "s" ∨ k = "d") := by
      rcases List.mem_cons.mp pk.1 with rfl | h
      · exact ⟨_, rfl, flB_ok (by decide +kernel), by decide +kernel, .inl rfl⟩
      · rcases List.mem_cons.mp h with rfl | h
        · exact ⟨_, rfl, flB_ok (by decide +kernel), by decide +kernel, .inr rfl⟩
        · cases h
    obtain ⟨m, em, hm, hm2, hm3⟩ : ∃ m : Int, mv = .int m ∧ wholeV (.int m) 0 1000 = true ∧ wholeV (.int (1 - (if (1 : Int) < m then 1 else m))) 0 1000 = true ∧ V.int m ≠ V.int (1 - (if (1 : Int) < m then 1 else m)) := by
      have h := pm.1
      simp only [List.mem_cons, List.not_mem_nil, or_false] at h
      rcases h with rfl | rfl | rfl | rfl
      · exact ⟨_, rfl, by decide +kernel, by decide +kernel, by decide +kernel⟩
      · exact ⟨_, rfl, by decide +kernel, by decide +kernel, by decide +kernel⟩
      · exact ⟨_, rfl, by decide +kernel, by decide +kernel, by decide +kernel⟩
      · exact ⟨_, rfl, by decide +kernel, by decide +kernel, by decide +kernel⟩
    subst ek em
    clear pk pm
    have hna2 := hd2.1 _ _ nap hna
    have hla2 := hd2.1 _ _ lap hla
    refine seq_par2 (does_list rfl (.inl hna2)) (fun _ H3 h => does_list (xs := ls) (a := la) rfl (.inl (by
      obtain ⟨l, _, nl, e⟩ := h
      rw [e]
      exact same_upd nl _ _ hla2))) fun v1 H3 v2 H4 h1 h2 => ?_
    obtain ⟨a1, rfl, n1, rfl⟩ := h1
    obtain ⟨a2, rfl, n2, rfl⟩ := h2
    have s4 : Same H2 (upd (upd H2 a1 (.lst es)) a2 (.lst ls)) := (same_upd n1).trans (same_upd n2)
    have ea1 := same_upd (o := .lst ls) n2 _ _ (upd_same (H := H2) (a := a1) (o := .lst es))
    have ea2 := upd_same (H := upd H2 a1 (.lst es)) (a := a2) (o := .lst ls)
    have a12 : a1 ≠ a2 := ne_of_none upd_same n2
    have n2' : H2 a2 = none := none_of (same_upd n1) n2
    generalize upd (upd H2 a1 (.lst es)) a2 (.lst ls) = H4 at s4 ea1 ea2 ⊢
    refine state_eq (σ' := [some (.ref p), some (.ref na), some (.ref la), some (.str k), some (.int m), some (.ref a1), some (.ref a2), none, none, none, none]) rfl ?_
    refine seq_does (does_ps fk hk hm (does_var rfl) (does_nm rfl (.inl ea1) hc (Nat.le_trans hel (by decide)) fles) (fun H' s => does_lv rfl (.inl (s _ _ ea2)) lall (Nat.le_trans hll (by decide)) flls) (fun _ => does_var rfl)) ?_
    rintro _ H5 ⟨x1, rfl, s5, st1, _⟩
    have s25 := s4.trans s5
    refine seq_does (does_ps fk hk hm (does_var rfl) (does_nmT rfl (.inl (s25 _ _ hna2)) hc (Nat.le_trans hel (by decide)) fles) (fun H' s => does_lvT rfl (.inl ((s25.trans s) _ _ hla2)) lall (Nat.le_trans hll (by decide)) flls) (fun _ => does_var rfl)) ?_
    rintro _ H6 ⟨x2, rfl, s6, st2, _⟩
    have s26 := s25.trans s6
    have ea16 := s6 _ _ (s5 _ _ ea1)
    have ea26 := s6 _ _ (s5 _ _ ea2)
    have st16 := st1.same s6
    refine seq_drop (does_app rfl ea16 (Nat.le_trans hel (by decide))) ?_
    rintro _ _ rfl
    refine seq_drop (does_app rfl ((upd_ne (Ne.symm a12)).trans ea26) (Nat.le_trans hll (by decide))) ?_
    rintro _ _ rfl
    have ea26' := (upd_ne (o := .lst (es ++ [.int 0])) (Ne.symm a12)).trans ea26
    have st17 := (st16.put (zs := es ++ [.int 0]) ea16).put (zs := ls ++ [.str "dead"]) ea26'
    have st27 := (st2.put (zs := es ++ [.int 0]) ea16).put (zs := ls ++ [.str "dead"]) ea26'
    have keep : ∀ b o, H2 b = some o → upd (upd H6 a1 (.lst (es ++ [.int 0]))) a2 (.lst (ls ++ [.str "dead"])) b = some o := fun b o e => by
      rw [upd_ne (ne_of_none e n2'), upd_ne (ne_of_none e n1)]
      exact s26 _ _ e
    have s27 : Same H2 (upd (upd H6 a1 (.lst (es ++ [.int 0]))) a2 (.lst (ls ++ [.str "dead"]))) := keep
    generalize upd (upd H6 a1 (.lst (es ++ [.int 0]))) a2 (.lst (ls ++ [.str "dead"])) = H7 at st17 st27 s27 ⊢
    clear keep ea26' st16 ea16 ea26 s26 s25 st1 st2 s6 s5 ea1 ea2 s4 a12 n1 n2 n2'
    have hna7 := s27 _ _ hna2
    have hla7 := s27 _ _ hla2
    have hd7 : Hd p l cells H H7 := hd2.same s27
    refine state_eq (σ' := [some (.ref p), some (.ref na), some (.ref la), some (.str k), some (.int m), some (.ref a1), some (.ref a2), some (.ref x1), some (.ref x2), none, none]) rfl ?_
    have ples : es.all plainV = true := List.all_eq_true.mpr fun x hx => by
      rcases hes x hx with rfl | ⟨i, rfl⟩ <;> rfl
    have plls : ls.all plainV = true := List.all_eq_true.mpr fun x hx => (hls x hx).2.2
    obtain ⟨dx, tn, tl, e1, e2, e3⟩ := id st17
    refine ⟨_, rfl, x1, CQ, dx, _, _, rfl, e1, T.cl, T.nK, rfl, _, rfl, x1, CQ, dx, _, _, rfl, e1, T.cl, T.nN, rfl, _, rfl, x1, CQ, dx, _, _, rfl, e1, T.cl, T.nL, rfl, _, rfl, x1, CQ, dx, _, _, rfl, e1, T.cl, T.nM, rfl, (by show 4 ≤ sizeLine; decide), fun U nU => ?_⟩
    have sU := same_upd (o := .tup [.str k, .ref tn, .ref tl, .int m]) nU
    refine ⟨_, rfl, _, rfl, na, es, rfl, .inl (sU _ _ hna7), fun H8 t1 s8 ht1 => ⟨_, rfl, la, ls, rfl, .inl ((sU.trans s8) _ _ hla7), fun H9 t2 s9 ht2 => ⟨_, rfl, (by show 4 ≤ sizeLine; decide), fun W nW => ?_⟩⟩⟩
    have sW := same_upd (o := .tup [.str k, .ref t1, .ref t2, .int m]) nW
    have s7 := sU.trans (s8.trans (s9.trans sW))
    have dU := dat4 (K := K) ((s8.trans (s9.trans sW)) _ _ upd_same) (s7 _ _ e2) (s7 _ _ e3) fk fles flls
    have dW := dat4 (K := K) (upd_same (H := H9) (a := W) (o := .tup [.str k, .ref t1, .ref t2, .int m])) ((s9.trans sW) _ _ ht1) (sW _ _ ht2) fk fles flls
    refine ⟨_, _, dU.dp, dW.dp, dU.sh, dW.sh, _, rfl, ?_⟩
    rw [eqv_refl (plain4 ples plls)]
    refine iteF (tNext_of ?_)
    clear dU dW
    generalize upd H9 W (.tup [.str k, .ref t1, .ref t2, .int m]) = H10 at s7 ⊢
    clear sW nW s9 ht2 s8 ht1 sU nU
    have st1 := st17.same s7
    have st2 := st27.same s7
    have hna := s7 _ _ hna7
    have hla := s7 _ _ hla7
    have hd10 := hd7.same s7
    clear e1 e2 e3 st17 st27 hna7 hla7 hd7 s7 hna2 hla2 s27
    obtain ⟨dx, tn, tl, e1, e2, e3⟩ := id st1
    -- which kinds of things
    refine ⟨_, rfl, x1, CQ, dx, _, _, rfl, e1, T.cl, T.nM, rfl, _, _, _, _, false, rfl, .ty _, .base (.int _), kit_ty (by decide +kernel), _, rfl, ?_⟩
    refine iteF ⟨_, rfl, x1, CQ, dx, _, _, rfl, e1, T.cl, T.nN, rfl, _, _, _, _, true, rfl, .ty _, .base (.tup e2), kit_ty (by decide +kernel), _, rfl, ?_⟩
    refine iteF ⟨_, rfl, x1, CQ, dx, _, _, rfl, e1, T.cl, T.nL, rfl, _, _, _, _, true, rfl, .ty _, .base (.tup e3), kit_ty (by decide +kernel), _, rfl, ?_⟩
    refine iteF (tNext_of ?_)
    obtain ⟨k', hk2⟩ : ∃ k' : Str, k = "s" ∧ k' = "d" ∨ k = "d" ∧ k' = "s" := k1.elim (fun h => ⟨"d", .inl ⟨h, rfl⟩⟩) fun h => ⟨"s", .inr ⟨h, rfl⟩⟩
    have fk' : Fl (.str k') ∧ kindV (.str k') = true ∧ V.str k ≠ V.str k' := by
      rcases hk2 with ⟨rfl, rfl⟩ | ⟨rfl, rfl⟩
      · exact ⟨flB_ok (by decide +kernel), by decide +kernel, by decide +kernel⟩
      · exact ⟨flB_ok (by decide +kernel), by decide +kernel, by decide +kernel⟩
    dsimp only
    refine seq_does (does_lst2 (P1 := fun v H' => ∃ x, v = .ref x ∧ Same H10 H' ∧ PSt CQ H' x k' es ls m ∧ H10 x = none) (P2 := fun _ H1 v H' => ∃ x, v = .ref x ∧ Same H1 H' ∧ PSt CQ H' x k (es ++ [.non]) ls m ∧ H1 x = none) ?_ ?_) ?_
    · refine does_ps fk'.1 fk'.2.1 hm ?_ (does_nm rfl (.inl hna) hc (Nat.le_trans hel (by decide)) fles) (fun H' s => does_lv rfl (.inl (s _ _ hla)) lall (Nat.le_trans hll (by decide)) flls) (fun _ => does_var rfl)
      intro Q q
      refine ⟨_, rfl, rfl, _, rfl, ?_⟩
      rcases hk2 with ⟨rfl, rfl⟩ | ⟨rfl, rfl⟩
      · exact iteT (q _ _ ⟨rfl, rfl⟩)
      · exact iteF (q _ _ ⟨rfl, rfl⟩)
    · rintro _ H11 ⟨x, rfl, s, _, _⟩
      exact does_ps fk hk hm (does_var rfl) (does_nmN rfl (s _ _ hna) hc (Nat.le_trans hel (by decide)) fles) (fun H' s' => does_lv rfl (.inl ((s.trans s') _ _ hla)) lall (Nat.le_trans hll (by decide)) flls) (fun _ => does_var rfl)
    rintro _ _ ⟨o1, _, H11, _, H12, rfl, ⟨x3, rfl, s11, st3, _⟩, ⟨x4, rfl, s12, st4, _⟩, no1, rfl⟩
    have s13 := same_upd (o := .lst [.ref x3, .ref x4]) no1
    have eo1 := upd_same (H := H12) (a := o1) (o := .lst [.ref x3, .ref x4])
    generalize upd H12 o1 (.lst [.ref x3, .ref x4]) = H13 at s13 eo1 ⊢
    have s1013 := s11.trans (s12.trans s13)
    have st3 := st3.same (s12.trans s13)
    have st4 := st4.same s13
    have st1 := st1.same s1013
    have st2 := st2.same s1013
    have hna := s1013 _ _ hna
    have hla := s1013 _ _ hla
    have hd13 := hd10.same s1013
    clear s11 s12 s13 no1 s1013 e1 e2 e3 hd10
    refine seq_does (does_cat (a := o1) (xs := [.ref x3, .ref x4]) rfl (does_lst2 (P1 := fun v H' => ∃ x, v = .ref x ∧ Same H13 H' ∧ PSt CQ H' x k es (ls ++ [.non]) m ∧ H13 x = none) (P2 := fun _ H1 v H' => ∃ x, v = .ref x ∧ Same H1 H' ∧ PSt CQ H' x k es ls (1 - (if (1 : Int) < m then 1 else m)) ∧ H1 x = none) ?_ ?_) ?_) ?_
    · exact does_ps fk hk hm (does_var rfl) (does_nm rfl (.inl hna) hc (Nat.le_trans hel (by decide)) fles) (fun H' s => does_lvN rfl (s _ _ hla) lall (Nat.le_trans hll (by decide)) flls) (fun _ => does_var rfl)
    · rintro _ H11 ⟨x, rfl, s, _, _⟩
      exact does_ps fk hk hm2 (does_var rfl) (does_nm rfl (.inl (s _ _ hna)) hc (Nat.le_trans hel (by decide)) fles) (fun H' s' => does_lv rfl (.inl ((s.trans s') _ _ hla)) lall (Nat.le_trans hll (by decide)) flls) (fun _ Q q => ⟨_, rfl, _, _, rfl, _, _, rfl, rfl, q _ _ ⟨rfl, rfl⟩⟩)
    · rintro _ _ ⟨b, _, H11, _, H12, rfl, ⟨x5, rfl, s11, _, _⟩, ⟨x6, rfl, s12, _, _⟩, nb, rfl⟩
      exact ⟨b, _, rfl, upd_same, (s11.trans (s12.trans (same_upd nb))) _ _ eo1, by show 2 + 2 ≤ 1000; decide⟩
    rintro _ _ ⟨_, _, b, ys, o2, ⟨b', _, H14, _, H15, rfl, ⟨x5, rfl, s14, st5, _⟩, ⟨x6, rfl, s15, st6, _⟩, nb, rfl⟩, eb, hb, rfl, no2, rfl⟩
    cases eb
    rw [upd_same] at hb
    have ey := Option.some.inj hb
    injection ey with ey
    subst ey
    have s16 := (same_upd (o := .lst [.ref x5, .ref x6]) nb).trans (same_upd (o := .lst ([.ref x3, .ref x4] ++ [.ref x5, .ref x6])) no2)
    have eo2 := upd_same (H := upd H15 b (.lst [.ref x5, .ref x6])) (a := o2) (o := .lst ([.ref x3, .ref x4] ++ [.ref x5, .ref x6]))
    generalize upd (upd H15 b (.lst [.ref x5, .ref x6])) o2 (.lst ([.ref x3, .ref x4] ++ [.ref x5, .ref x6])) = H17 at s16 eo2 ⊢
    have s1317 := s14.trans (s15.trans s16)
    have st5 := st5.same (s15.trans s16)
    have st6 := st6.same s16
    have st1 := st1.same s1317
    have st2 := st2.same s1317
    have st3 := st3.same s1317
    have st4 := st4.same s1317
    have hna := s1317 _ _ hna
    have hla := s1317 _ _ hla
    have hd17 := hd13.same s1317
    clear s14 s15 s16 nb no2 s1317 hd13 eo1 hb
    refine state_eq (σ' := [some (.ref p), some (.ref na), some (.ref la), some (.str k), some (.int m), some (.ref a1), some (.ref a2), some (.ref x1), some (.ref x2), some (.ref o2), none]) rfl ?_
    have fles' := fl_snoc fles
    have flls' := fl_snoc flls
    have ples' := pl_snoc ples
    have plls' := pl_snoc plls
    refine ⟨_, rfl, _, rfl, eq_yes st1 st2 fles flls ples plls EQ.nfS ⟨_, rfl, iteT ?_⟩⟩
    refine ⟨_, rfl, o2, rfl, ⟨_, SqL.of eo2⟩, fun D nD => ?_⟩
    refine lc_it walk_list (fun i H' => Same H17 H' ∧ H' D = some (.lst [])) ⟨same_upd nD, upd_same⟩ (fun _ _ _ h => SqL.of (h.1 _ _ eo2)) ?_ ?_
    · rintro i y H18 H19 hi ⟨s18, eD⟩ ⟨eH, hy⟩
      subst eH
      rcases i with _ | _ | _ | _ | i
      · cases hy
        exact ⟨rfl, _, rfl, _, rfl, eq_no (st1.same s18) (st3.same s18) fles flls fles flls ples plls ples plls EQ.nfS (.inl fk'.2.2) ⟨_, rfl, iteF ⟨s18, eD⟩⟩⟩
      · cases hy
        exact ⟨rfl, _, rfl, _, rfl, eq_no (st1.same s18) (st4.same s18) fles flls fles' flls ples plls ples' plls EQ.nfS (.inr (.inl snoc_ne)) ⟨_, rfl, iteF ⟨s18, eD⟩⟩⟩
      · cases hy
        exact ⟨rfl, _, rfl, _, rfl, eq_no (st1.same s18) (st5.same s18) fles flls fles flls' ples plls ples plls' EQ.nfS (.inr (.inr (.inl snoc_ne))) ⟨_, rfl, iteF ⟨s18, eD⟩⟩⟩
      · cases hy
        exact ⟨rfl, _, rfl, _, rfl, eq_no (st1.same s18) (st6.same s18) fles flls fles flls ples plls ples plls EQ.nfS (.inr (.inr (.inr hm3))) ⟨_, rfl, iteF ⟨s18, eD⟩⟩⟩
      · exact absurd hi (by show ¬ i + 4 < 4; omega)
    · rintro H18 ⟨s18, eD⟩
      refine ⟨(by decide), fun T nT => ?_⟩
      have sT := same_upd (o := .lst []) nT
      refine ⟨_, _, .lst (SqL.of (sT _ _ eD)) .nil, .lst (SqL.of upd_same) .nil, by decide, by decide, _, rfl, iteT ?_⟩
      refine ⟨_, rfl, _, rfl, _, rfl, _, rfl, _, rfl, (by show 4 ≤ sizeLine; decide), fun W nW => ?_⟩
      have s20 := s18.trans (sT.trans (same_upd (o := .tup [.str k, .ref na, .ref la, .int m]) nW))
      refine eq_tup (st1.same s20) upd_same fles flls EQ.nfT ?_
      obtain ⟨kk, i9, r9, t9, hh9⟩ := hd17.same s20
      exact ⟨_, rfl, q _ i9 r9 t9 kk hh9⟩
end
end K35

/-! a state of a couple as it should be: what is kept, what is equal -/
namespace K35
open PySem PySem.Spec PyProof.Rows L2 L2H
/-- lists alone are changed -/
def NL (H H' : Hp) : Prop := ∀ b o, H b = some o → (∀ ys, o ≠ .lst ys) → H' b = some o
theorem NL.of {H H' : Hp} (s : Same H H') : NL H H' := fun b o e _ => s b o e
theorem NL.refl {H : Hp} : NL H H := fun b o e _ => e
theorem NL.trans {H H1 H2 : Hp} (a : NL H H1) (b : NL H1 H2) : NL H H2 := fun c o e n => b c o (a c o e n) n
theorem NL.put {H : Hp} {a : Addr} {ys zs : List V} (e : H a = some (.lst ys)) : NL H (upd H a (.lst zs)) := fun b o h n => by
  refine (upd_ne fun z => ?_).trans h
  rw [z, e] at h
  exact n _ (Option.some.inj h).symm
theorem TT.nl {H H' : Hp} {tb : Addr} {ps : List (List V)} (h : TT H tb ps) (k : NL H H') : TT H' tb ps := by
  obtain ⟨ts, h1, h2, h3⟩ := h
  exact ⟨ts, k _ _ h1 (fun _ z => by cases z), h2, fun j t e => let ⟨ys, e1, e2⟩ := h3 j t e; ⟨ys, e1, k _ _ e2 (fun _ z => by cases z)⟩⟩
theorem sqT_nl {K : PySem.W.Frag} {H H' : Hp} {a : Addr} {xs : List V} (h : SqT K H a xs) (k : NL H H') : SqT K H' a xs := by
  rcases h with (h | ⟨o, h⟩) | h
  · exact .inl (.inl (k _ _ h (fun _ z => by cases z)))
  · exact .inl (.inr ⟨o, k _ _ h (fun _ z => by cases z)⟩)
  · exact .inr h
def CSt (K : PySem.W.Frag) (CC : Addr) (H : Hp) (x : Addr) (xs ls : List V) (s d : Int) (ps : List (List V)) (qs : List V) (c : Nat) : Prop :=
  ∃ dx tn tl tb tm, H x = some (.ins CC dx (csO tn tl (.int s) (.int d) tb tm c (newOf (.int s) (.int d) ps))) ∧ H tn = some (.tup xs) ∧ H tl = some (.tup ls) ∧ TT H tb ps ∧ SqT K H tm qs
section
variable {K : PySem.W.Frag} {CC CS : Addr} {H H' : Hp} {x : Addr} {xs ls qs : List V} {s d : Int} {ps : List (List V)} {c : Nat}
theorem CSt.nl (h : CSt K CC H x xs ls s d ps qs c) (k : NL H H') : CSt K CC H' x xs ls s d ps qs c := by
  obtain ⟨dx, tn, tl, tb, tm, h1, h2, h3, h4, h5⟩ := h
  exact ⟨dx, tn, tl, tb, tm, k _ _ h1 (fun _ z => by cases z), k _ _ h2 (fun _ z => by cases z), k _ _ h3 (fun _ z => by cases z), h4.nl k, sqT_nl h5 k⟩
theorem map_some_inj : ∀ {xs ys : List (List V)}, xs.map some = ys.map some → xs = ys
  | [], [], _ => rfl
  | [], _ :: _, h => by cases h
  | _ :: _, [], h => by cases h
  | x :: xs, y :: ys, h => by
    injection h with h1 h2
    injection h1 with h1
    rw [h1, map_some_inj h2]
theorem new_cs {nv lv bv mv : V} {Q : VK} {E : XK} (nm : Nm H nv xs (some c)) (lvv : Lv H lv ls true) (hs : wholeV (.int s) 0 3 = true) (hd : wholeV (.int d) 0 3 = true) (bo : Bo H bv c (ps.map some) true) (mk : Ms K H mv qs true)
    (q : ∀ (H' : Hp) (x : Addr), Same H H' → CSt K CC H' x xs ls s d ps qs c → H x = none → Q (.ref x) H') :
    ∀ x dx, H x = none → H dx = none → dx ≠ x → spCS K CC CS (.ref x :: [nv, lv, .int s, .int d, bv, mv]) (upd (upd H dx (.own x)) x (.ins CC dx [])) (fun v H2 => v = .non ∧ Q (.ref x) H2) E := fun x dx nx nd ne => by
  have s0 := same_ins (C := CC) (fs := []) nx nd ne
  have e : cw (some c) true (.int s) (.int d) true true = none := by
    unfold cw
    rw [hs, hd]
    rfl
  refine ⟨x, dx, nv, lv, .int s, .int d, bv, mv, xs, ls, qs, some c, true, true, true, ps.map some, rfl, upd_same, nm.same s0, lvv.same s0, .int s, .int d, bo.same s0, mk.same s0, fun c' ec _ H' tn tl tb tm ps' eps h1 h2 h3 h4 h5 kp => ⟨rfl, q H' x (fun z u hz => kp _ _ (s0 _ _ hz) (ne_of_none hz nx)) ?_ nx⟩, fun z ez => ?_⟩
  · cases ec
    cases map_some_inj eps
    exact ⟨dx, tn, tl, tb, tm, h1, h2, h3, h4, h5⟩
  · rw [e] at ez
    cases ez
theorem pairs_fl (hps : ∀ ys ∈ ps, ∃ i j : Int, ys = [.int i, .int j]) : ∀ ys ∈ ps, ys.length ≤ 1000 ∧ (∀ y ∈ ys, Fl y) ∧ ys.all plainV = true := fun ys h => by
  obtain ⟨i, j, rfl⟩ := hps ys h
  refine ⟨(by show 2 ≤ 1000; decide), fun y hy => ?_, rfl⟩
  rcases List.mem_cons.mp hy with rfl | hy
  · exact .int _
  · rcases List.mem_cons.mp hy with rfl | hy
    · exact .int _
    · cases hy
theorem LL.bo {pa : Addr} (h : LL H pa ps) (hps : ∀ ys ∈ ps, ∃ i j : Int, ys = [.int i, .int j]) (hl : ps.length ≤ 41) (hb : bOk c 0 (ps.map some) = true) : Bo H (.ref pa) c (ps.map some) true := by
  obtain ⟨ts, hts, hlen, htt⟩ := h
  have hP : PIs H (ts.map V.ref) (ps.map some) := by
    refine ⟨by rw [List.length_map, List.length_map, hlen], fun i v e => ?_⟩
    obtain ⟨t, e1, rfl⟩ := map_ref_at e
    obtain ⟨zs, e4, e5⟩ := htt i t e1
    obtain ⟨f1, f2, _⟩ := pairs_fl hps zs (List.mem_of_getElem? e4)
    exact ⟨some zs, by rw [List.getElem?_map, e4]; rfl, .seq (.inl e5) f1 f2⟩
  have z := Bo.seq (c := c) (.inl hts) (by rw [List.length_map, hlen]; exact Nat.le_trans hl (by decide)) hP
  rw [hb] at z
  exact z
theorem TT.bo {pa : Addr} (h : TT H pa ps) (hps : ∀ ys ∈ ps, ∃ i j : Int, ys = [.int i, .int j]) (hl : ps.length ≤ 41) (hb : bOk c 0 (ps.map some) = true) : Bo H (.ref pa) c (ps.map some) true := by
  obtain ⟨ts, hts, hlen, htt⟩ := h
  have hP : PIs H (ts.map V.ref) (ps.map some) := by
    refine ⟨by rw [List.length_map, List.length_map, hlen], fun i v e => ?_⟩
    obtain ⟨t, e1, rfl⟩ := map_ref_at e
    obtain ⟨zs, e4, e5⟩ := htt i t e1
    obtain ⟨f1, f2, _⟩ := pairs_fl hps zs (List.mem_of_getElem? e4)
    exact ⟨some zs, by rw [List.getElem?_map, e4]; rfl, .seq (.inr e5) f1 f2⟩
  have z := Bo.seq (c := c) (.inr hts) (by rw [List.length_map, hlen]; exact Nat.le_trans hl (by decide)) hP
  rw [hb] at z
  exact z
/-! ### data -/
def psD (ps : List (List V)) : List PyData := ps.map fun ys => .tuple (dsOf ys)
theorem dp_tt : ∀ {ts : List Addr} {ps : List (List V)}, ts.length = ps.length → (∀ (j : Nat) (t : Addr), ts[j]? = some t → ∃ ys, ps[j]? = some ys ∧ H t = some (.tup ys)) → (∀ ys ∈ ps, ∀ y ∈ ys, Fl y) → DpAll K H (ts.map V.ref) (psD ps)
  | [], [], _, _, _ => .nil
  | [], _ :: _, h, _, _ => by cases h
  | _ :: _, [], h, _, _ => by cases h
  | t :: ts, ys :: ps, h, k, f => by
    obtain ⟨zs, e1, e2⟩ := k 0 t rfl
    cases e1
    exact .cons (dat_tup e2 (f ys List.mem_cons_self)).dp (dp_tt (Nat.succ.inj h) (fun j u e => k (j + 1) u e) fun zs hz => f zs (List.mem_cons_of_mem _ hz))
theorem lay_tt : ∀ {ps : List (List V)}, (∀ ys ∈ ps, ∀ y ∈ ys, Fl y) → PyData.canLayAll0 (psD ps) = true
  | [], _ => rfl
  | ys :: ps, f => Bool.and_eq_true_iff.mpr ⟨lay_flat (f ys List.mem_cons_self), lay_tt fun zs hz => f zs (List.mem_cons_of_mem _ hz)⟩
theorem deep_tt : ∀ {ps : List (List V)}, (∀ ys ∈ ps, ∀ y ∈ ys, Fl y) → PyData.depthAll (psD ps) ≤ 1
  | [], _ => Nat.zero_le _
  | ys :: ps, f => by
    show max (PyData.depthAll (dsOf ys) + 1) (PyData.depthAll (psD ps)) ≤ 1
    rw [deep_flat (f ys List.mem_cons_self)]
    exact Nat.max_le.mpr ⟨Nat.le_refl _, deep_tt fun zs hz => f zs (List.mem_cons_of_mem _ hz)⟩
theorem plain_tt : ∀ {ps : List (List V)}, (∀ ys ∈ ps, ys.all plainV = true) → plainAll (psD ps) = true
  | [], _ => rfl
  | ys :: ps, f => Bool.and_eq_true_iff.mpr ⟨plain_ds (f ys List.mem_cons_self), plain_tt fun zs hz => f zs (List.mem_cons_of_mem _ hz)⟩
theorem TT.dat {tb : Addr} (h : TT H tb ps) (f : ∀ ys ∈ ps, ∀ y ∈ ys, Fl y) : Dat K H (.ref tb) (.tuple (psD ps)) := by
  obtain ⟨ts, hts, hlen, htt⟩ := h
  refine ⟨.tup (SqT.of hts) (dp_tt hlen htt f), Bool.and_eq_true_iff.mpr ⟨lay_tt f, decide_eq_true ?_⟩⟩
  show PyData.depthAll (psD ps) + 1 ≤ 64
  exact Nat.le_trans (Nat.add_le_add_right (deep_tt f) 1) (by decide)
theorem dat_sqt {a : Addr} (e : SqT K H a xs) (h : ∀ x ∈ xs, Fl x) : Dat K H (.ref a) (.tuple (dsOf xs)) := ⟨.tup e (dp_flat h), shaped_tup h⟩
theorem CSt.at_ (h : CSt K CC H x xs ls s d ps qs c) (h1 : ∀ x ∈ xs, Fl x) (h2 : ∀ x ∈ ls, Fl x) (h3 : ∀ ys ∈ ps, ∀ y ∈ ys, Fl y) (h4 : ∀ x ∈ qs, Fl x) : CAt K CC H x (.tuple (dsOf xs)) (.tuple (dsOf ls)) (.tuple (psD ps)) (.tuple (dsOf qs)) s d := by
  obtain ⟨dx, tn, tl, tb, tm, e1, e2, e3, e4, e5⟩ := h
  exact ⟨dx, tn, tl, tb, tm, _, _, e1, dat_tup e2 h1, dat_tup e3 h2, e4.dat h3, dat_sqt e5 h4⟩
/-- names, lives, pairs and marks are as they should be -/
structure CGd (xs ls : List V) (ps : List (List V)) (qs : List V) : Prop where
  f1 : ∀ x ∈ xs, Fl x
  f2 : ∀ x ∈ ls, Fl x
  f3 : ∀ ys ∈ ps, ∀ y ∈ ys, Fl y
  f4 : ∀ x ∈ qs, Fl x
  p1 : xs.all plainV = true
  p2 : ls.all plainV = true
  p3 : ∀ ys ∈ ps, ys.all plainV = true
  p4 : qs.all plainV = true
theorem ceq_yes {x2 : Addr} {c2 : Nat} {Q : VK} (g : CGd xs ls ps qs) (h1 : CSt K CC H x xs ls s d ps qs c) (h2 : CSt K CC H x2 xs ls s d ps qs c2) (nf : PySem.W.notFirst K CC (.ref CC) = true) (q : Q (.bl true) H) : rEqI K CC (spCEq K CC) (.ref x) (.ref x2) H Q := by
  obtain ⟨dx, tn, tl, tb, tm, e1, _⟩ := id h1
  obtain ⟨dx2, tn2, tl2, tb2, tm2, e2, _⟩ := id h2
  refine ⟨x, dx, _, _, rfl, e1, .ins e2, nf, x, _, _, _, _, _, s, d, rfl, h1.at_ g.f1 g.f2 g.f3 g.f4, .inl ⟨x2, _, _, _, _, s, d, rfl, h2.at_ g.f1 g.f2 g.f3 g.f4, _, rfl, ?_⟩⟩
  rw [eqv_refl (show plainD (.tuple (dsOf xs)) = true from plain_ds g.p1), eqv_refl (show plainD (.tuple (dsOf ls)) = true from plain_ds g.p2), eqv_refl (show plainD (.tuple (psD ps)) = true from plain_tt g.p3), eqv_refl (show plainD (.tuple (dsOf qs)) = true from plain_ds g.p4), decide_eq_true rfl, decide_eq_true rfl]
  exact q
theorem ceq_no {x2 : Addr} {xs2 ls2 qs2 : List V} {s2 d2 : Int} {ps2 : List (List V)} {c2 : Nat} {Q : VK} (g : CGd xs ls ps qs) (g2 : CGd xs2 ls2 ps2 qs2) (h1 : CSt K CC H x xs ls s d ps qs c) (h2 : CSt K CC H x2 xs2 ls2 s2 d2 ps2 qs2 c2) (nf : PySem.W.notFirst K CC (.ref CC) = true)
    (ne : xs ≠ xs2 ∨ ls ≠ ls2 ∨ s ≠ s2 ∨ d ≠ d2 ∨ ps.length ≠ ps2.length ∨ qs ≠ qs2) (q : Q (.bl false) H) : rEqI K CC (spCEq K CC) (.ref x) (.ref x2) H Q := by
  obtain ⟨dx, tn, tl, tb, tm, e1, _⟩ := id h1
  obtain ⟨dx2, tn2, tl2, tb2, tm2, e2, _⟩ := id h2
  refine ⟨x, dx, _, _, rfl, e1, .ins e2, nf, x, _, _, _, _, _, s, d, rfl, h1.at_ g.f1 g.f2 g.f3 g.f4, .inl ⟨x2, _, _, _, _, s2, d2, rfl, h2.at_ g2.f1 g2.f2 g2.f3 g2.f4, _, rfl, ?_⟩⟩
  have e : (PyData.eqv (.tuple (dsOf xs)) (.tuple (dsOf xs2)) && (PyData.eqv (.tuple (dsOf ls)) (.tuple (dsOf ls2)) && (decide (V.int s = V.int s2) && (decide (V.int d = V.int d2) && (PyData.eqv (.tuple (psD ps)) (.tuple (psD ps2)) && PyData.eqv (.tuple (dsOf qs)) (.tuple (dsOf qs2))))))) = false := by
    rcases ne with n | n | n | n | n | n
    · rw [tup_ne g.p1 g2.p1 n, Bool.false_and]
    · rw [tup_ne g.p2 g2.p2 n, Bool.false_and, Bool.and_false]
    · rw [show decide (V.int s = V.int s2) = false from decide_eq_false fun h => n (by injection h)]
      simp only [Bool.false_and, Bool.and_false]
    · rw [show decide (V.int d = V.int d2) = false from decide_eq_false fun h => n (by injection h)]
      simp only [Bool.false_and, Bool.and_false]
    · rw [eqv_ne (show plainD (.tuple (psD ps)) = true from plain_tt g.p3) (show plainD (.tuple (psD ps2)) = true from plain_tt g2.p3) fun h => by
        injection h with h
        have z := congrArg List.length h
        unfold psD at z
        rw [List.length_map, List.length_map] at z
        exact n z]
      simp only [Bool.false_and, Bool.and_false]
    · rw [tup_ne g.p4 g2.p4 n]
      simp only [Bool.false_and, Bool.and_false]
  rw [e]
  exact q
theorem ceq_tup {b : Addr} {us : List V} {Q : VK} (g : CGd xs ls ps qs) (h1 : CSt K CC H x xs ls s d ps qs c) (hb : H b = some (.tup us)) (nf : PySem.W.notFirst K CC (.type "tuple") = true) (q : Q (.bl false) H) : rEqI K CC (spCEq K CC) (.ref x) (.ref b) H Q := by
  obtain ⟨dx, tn, tl, tb, tm, e1, _⟩ := id h1
  exact ⟨x, dx, _, _, rfl, e1, .tup hb, nf, x, _, _, _, _, _, s, d, rfl, h1.at_ g.f1 g.f2 g.f3 g.f4, .inr ⟨b, us, rfl, hb, _, rfl, q⟩⟩
theorem bOk_mono : ∀ {ms : List (Option (List V))} {c : Nat} {l l' : Int}, l' ≤ l → bOk c l ms = true → bOk c l' ms = true
  | [], _, _, _, _, _ => rfl
  | none :: _, _, _, _, _, h => by cases h
  | some ys :: r, c, l, l', hl, h => by
    match ys, h with
    | [x, y], h =>
      obtain ⟨h1, h2⟩ := Bool.and_eq_true_iff.mp (show ((wholeV x l c && wholeV y 0 2) && bOk c (intV x + 1) r) = true from h)
      obtain ⟨h3, h4⟩ := Bool.and_eq_true_iff.mp h1
      obtain ⟨i, rfl⟩ := whole_int h3
      obtain ⟨h5, h6⟩ := Bool.and_eq_true_iff.mp (show (decide (l ≤ i) && decide (i ≤ c)) = true from h3)
      refine Bool.and_eq_true_iff.mpr ⟨Bool.and_eq_true_iff.mpr ⟨Bool.and_eq_true_iff.mpr ⟨decide_eq_true ?_, h6⟩, h4⟩, h2⟩
      exact Int.le_trans hl (of_decide_eq_true h5)
    | [], h => cases h
    | [_], h => cases h
    | _ :: _ :: _ :: _, h => cases h
theorem bOk_tail {ps : List (List V)} {c : Nat} (h : bOk c 0 (ps.map some) = true) : bOk c 0 (ps.tail.map some) = true := by
  cases ps with
  | nil => rfl
  | cons ys r =>
    match ys, h with
    | [x, y], h =>
      obtain ⟨h1, h2⟩ := Bool.and_eq_true_iff.mp (show ((wholeV x 0 c && wholeV y 0 2) && bOk c (intV x + 1) (r.map some)) = true from h)
      obtain ⟨h3, h4⟩ := Bool.and_eq_true_iff.mp h1
      obtain ⟨i, rfl⟩ := whole_int h3
      obtain ⟨h5, h6⟩ := Bool.and_eq_true_iff.mp (show (decide ((0 : Int) ≤ i) && decide (i ≤ c)) = true from h3)
      have z := of_decide_eq_true h5
      exact bOk_mono (show (0 : Int) ≤ i + 1 by omega) h2
    | [], h => cases h
    | [_], h => cases h
    | _ :: _ :: _ :: _, h => cases h
theorem bOk_snd : ∀ {ps : List (List V)} {c : Nat} {l : Int}, bOk c l (ps.map some) = true → ∀ ys ∈ ps, 0 ≤ intV (ys.getD 1 .non)
  | [], _, _, _ => fun _ h => by cases h
  | ys :: r, c, l, h => by
    match ys, h with
    | [x, y], h =>
      obtain ⟨h1, h2⟩ := Bool.and_eq_true_iff.mp (show ((wholeV x l c && wholeV y 0 2) && bOk c (intV x + 1) (r.map some)) = true from h)
      obtain ⟨h3, h4⟩ := Bool.and_eq_true_iff.mp h1
      obtain ⟨j, rfl⟩ := whole_int h4
      obtain ⟨h5, h6⟩ := Bool.and_eq_true_iff.mp (show (decide ((0 : Int) ≤ j) && decide (j ≤ 2)) = true from h4)
      intro zs hz
      rcases List.mem_cons.mp hz with rfl | hz
      · exact of_decide_eq_true h5
      · exact bOk_snd h2 zs hz
    | [], h => cases h
    | [_], h => cases h
    | _ :: _ :: _ :: _, h => cases h
theorem stepE_up {c c' : Nat} {v : V} (h : stepE c v = some c') : c' ≤ c + 1 := by
  cases v with
  | non =>
    injection (show some c = some c' from h) with h
    omega
  | int i =>
    have e' : (if i < 0 then none else if (c : Int) < i then none else if i = c then some (c + 1) else some c : Option Nat) = some c' := h
    by_cases n0 : i < 0
    · rw [if_pos n0] at e'; cases e'
    rw [if_neg n0] at e'
    by_cases n1 : (c : Int) < i
    · rw [if_pos n1] at e'; cases e'
    rw [if_neg n1] at e'
    by_cases n2 : i = c
    · rw [if_pos n2] at e'
      injection e' with e'
      omega
    · rw [if_neg n2] at e'
      injection e' with e'
      omega
  | _ => cases h
theorem cnt_len : ∀ {vs : List V} {c c' : Nat}, cnt c vs = some c' → c' ≤ c + vs.length
  | [], c, c', h => by
    injection (show some c = some c' from h) with h
    show c' ≤ c + 0
    omega
  | v :: vs, c, c', h => by
    rw [cnt_cons] at h
    cases e : stepE c v with
    | none => rw [e] at h; cases h
    | some d =>
      rw [e] at h
      have z1 := stepE_up e
      have z2 := cnt_len (show cnt d vs = some c' from h)
      rw [List.length_cons]
      omega
theorem dp_ll : ∀ {ts : List Addr} {ps : List (List V)}, ts.length = ps.length → (∀ (j : Nat) (t : Addr), ts[j]? = some t → ∃ ys, ps[j]? = some ys ∧ H t = some (.lst ys)) → (∀ ys ∈ ps, ∀ y ∈ ys, Fl y) → DpAll K H (ts.map V.ref) (ps.map fun ys => PyData.list (dsOf ys))
  | [], [], _, _, _ => .nil
  | [], _ :: _, h, _, _ => by cases h
  | _ :: _, [], h, _, _ => by cases h
  | t :: ts, ys :: ps, h, k, f => by
    obtain ⟨zs, e1, e2⟩ := k 0 t rfl
    cases e1
    exact .cons (.lst (SqL.of e2) (dp_flat (f ys List.mem_cons_self))) (dp_ll (Nat.succ.inj h) (fun j u e => k (j + 1) u e) fun zs hz => f zs (List.mem_cons_of_mem _ hz))
theorem lay_ll : ∀ {ps : List (List V)}, (∀ ys ∈ ps, ∀ y ∈ ys, Fl y) → PyData.canLayAll0 (ps.map fun ys => PyData.list (dsOf ys)) = true
  | [], _ => rfl
  | ys :: ps, f => Bool.and_eq_true_iff.mpr ⟨lay_flat (f ys List.mem_cons_self), lay_ll fun zs hz => f zs (List.mem_cons_of_mem _ hz)⟩
theorem deep_ll : ∀ {ps : List (List V)}, (∀ ys ∈ ps, ∀ y ∈ ys, Fl y) → PyData.depthAll (ps.map fun ys => PyData.list (dsOf ys)) ≤ 1
  | [], _ => Nat.zero_le _
  | ys :: ps, f => by
    show max (PyData.depthAll (dsOf ys) + 1) (PyData.depthAll (ps.map fun ys => PyData.list (dsOf ys))) ≤ 1
    rw [deep_flat (f ys List.mem_cons_self)]
    exact Nat.max_le.mpr ⟨Nat.le_refl _, deep_ll fun zs hz => f zs (List.mem_cons_of_mem _ hz)⟩
theorem lls_dat {pa : Addr} (h : LL H pa ps) (f : ∀ ys ∈ ps, ∀ y ∈ ys, Fl y) : Dat K H (.ref pa) (.list (ps.map fun ys => PyData.list (dsOf ys))) := by
  obtain ⟨ts, hts, hlen, htt⟩ := h
  refine ⟨.lst (SqL.of hts) (dp_ll hlen htt f), Bool.and_eq_true_iff.mpr ⟨lay_ll f, decide_eq_true ?_⟩⟩
  show PyData.depthAll (ps.map fun ys => PyData.list (dsOf ys)) + 1 ≤ 64
  exact Nat.le_trans (Nat.add_le_add_right (deep_ll f) 1) (by decide)
def sndI (ps : List (List V)) : List Int := ps.map fun ys => intV (ys.getD 1 .non)
theorem snd_sum : ∀ {ps : List (List V)}, (∀ ys ∈ ps, 0 ≤ intV (ys.getD 1 .non)) → 0 ≤ (sndI ps).sum ∧ ((ps.all fun ys => !decide (0 < intV (ys.getD 1 .non))) = true ↔ (sndI ps).sum = 0)
  | [], _ => ⟨Int.le_refl _, ⟨fun _ => rfl, fun _ => rfl⟩⟩
  | ys :: r, h => by
    obtain ⟨h1, h2⟩ := snd_sum fun zs hz => h zs (List.mem_cons_of_mem _ hz)
    have h0 := h ys List.mem_cons_self
    have e : (sndI (ys :: r)).sum = intV (ys.getD 1 .non) + (sndI r).sum := List.sum_cons
    rw [e]
    refine ⟨by omega, ?_⟩
    rw [show ((ys :: r).all fun ys => !decide (0 < intV (ys.getD 1 .non))) = (!decide (0 < intV (ys.getD 1 .non)) && r.all fun ys => !decide (0 < intV (ys.getD 1 .non))) from rfl, Bool.and_eq_true, h2]
    refine ⟨fun ⟨a, b⟩ => ?_, fun z => ⟨?_, by omega⟩⟩
    · have z := of_decide_eq_false (not_t a)
      omega
    · rw [decide_eq_false (by omega)]
      rfl
theorem newOf_sum {s d : Int} {ps : List (List V)} (h0 : 0 ≤ s) (h1 : 0 ≤ d) (h : ∀ ys ∈ ps, 0 ≤ intV (ys.getD 1 .non)) : newOf (.int s) (.int d) ps = decide (V.int (s + d + (sndI ps).sum) = V.int 0) := by
  obtain ⟨z1, z2⟩ := snd_sum h
  unfold newOf
  rw [Bool.eq_iff_iff, Bool.and_eq_true, Bool.and_eq_true, z2]
  refine ⟨fun ⟨a, b, e⟩ => ?_, fun e => ?_⟩
  · have a := of_decide_eq_true a
    have b := of_decide_eq_true b
    injection a with a
    injection b with b
    rw [a, b, e]
    rfl
  · have e := of_decide_eq_true e
    injection e with e
    have a : s = 0 := by omega
    have b : d = 0 := by omega
    exact ⟨decide_eq_true (by rw [a]), decide_eq_true (by rw [b]), by omega⟩
theorem snd_snoc {ps : List (List V)} {i : Nat} {a b : Int} (e : ps[i]? = some [.int a, .int b]) : sndI (ps.take (i + 1)) = sndI (ps.take i) ++ [b] := by
  rw [List.take_add_one, e]
  unfold sndI
  rw [List.map_append]
  rfl
def dueL (n : Int) : List (List V) → List Int
  | [] => []
  | ys :: r => if intV (ys.getD 0 .non) = n then intV (ys.getD 1 .non) :: dueL n r else dueL n r
theorem due_app {n : Int} : ∀ xs ys : List (List V), dueL n (xs ++ ys) = dueL n xs ++ dueL n ys
  | [], _ => rfl
  | x :: xs, ys => by
    show (if intV (x.getD 0 .non) = n then intV (x.getD 1 .non) :: dueL n (xs ++ ys) else dueL n (xs ++ ys)) = (if intV (x.getD 0 .non) = n then intV (x.getD 1 .non) :: dueL n xs else dueL n xs) ++ dueL n ys
    by_cases h : intV (x.getD 0 .non) = n
    · rw [if_pos h, if_pos h, due_app xs ys]
      rfl
    · rw [if_neg h, if_neg h, due_app xs ys]
theorem due_snoc {n : Int} {ps : List (List V)} {i : Nat} {a b : Int} (e : ps[i]? = some [.int a, .int b]) : dueL n (ps.take (i + 1)) = dueL n (ps.take i) ++ (if a = n then [b] else []) := by
  rw [List.take_add_one, e]
  exact due_app _ _
theorem due_le (n : Int) : ∀ ps : List (List V), (dueL n ps).length ≤ ps.length
  | [] => Nat.le_refl _
  | ys :: r => by
    show (if intV (ys.getD 0 .non) = n then intV (ys.getD 1 .non) :: dueL n r else dueL n r).length ≤ r.length + 1
    have ih := due_le n r
    by_cases h : intV (ys.getD 0 .non) = n
    · rw [if_pos h]
      exact Nat.succ_le_succ ih
    · rw [if_neg h]
      exact Nat.le_succ_of_le ih
def dueV : List Int → V
  | [] => .non
  | v :: _ => .int v
theorem markOf_due {n : Int} : ∀ {ps : List (List V)}, (∀ ys ∈ ps, ∃ i j : Int, ys = [.int i, .int j]) → markOf n ps = dueV (dueL n ps)
  | [], _ => rfl
  | ys :: r, h => by
    obtain ⟨i, j, rfl⟩ := h ys List.mem_cons_self
    have ih := markOf_due (n := n) fun zs hz => h zs (List.mem_cons_of_mem _ hz)
    show (if i = n then V.int j else markOf n r) = dueV (if i = n then j :: dueL n r else dueL n r)
    by_cases e : i = n
    · rw [if_pos e, if_pos e]
      rfl
    · rw [if_neg e, if_neg e]
      exact ih
end
end K35

/-! a state of a couple as it should be: the walk -/
namespace K35
open PySem PySem.Spec PyProof.Rows L2 L2H
structure MkC (P : Program) (w : World) (K : PySem.W.Frag) (mg : Str → Option Value) (base : Heap) (CC CS fI T0 : Addr) (fd : FuncData) (ds5 : List Value) : Prop extends MkX P w K mg base "CoupleState" 6 ["self", "names", "lives", "sons", "daughters", "borne", "marks"] (spCS K CC CS) CC fI fd where
  bi5 : Binds K fd ["self", "names", "lives", "sons", "daughters", "borne", "marks"] ds5
  hd5 : Vals [V.ref T0] ds5
  mk0 : ∀ H, SqK K H T0 [.int 0, .int 0]
structure MoM (P : Program) (w : World) (K : PySem.W.Frag) (mg : Str → Option Value) (base : Heap) (CC f : Addr) (fd : FuncData) : Prop where
  me : Meth K CC "mark_of" f
  ok : FnOk P w K mg base CX0 1 f fd ["self", "class_number"] (spMO CC)
  bi : Binds K fd ["self", "class_number"] []
def spCR : Sp := fun vs H Q _ => ∃ (na la pa : Addr) (s d : Int) (es ls : List V) (ps : List (List V)) (c : Nat), vs = [.ref na, .ref la, .int s, .int d, .ref pa] ∧ H na = some (.lst es) ∧ H la = some (.lst ls) ∧
  cnt 0 es = some c ∧ (∀ x ∈ es, isE x) ∧ es.length ≤ 7 ∧ (∀ x ∈ ls, lvOk x = true ∧ Fl x ∧ plainV x = true) ∧ ls.length ≤ 5 ∧ wholeV (.int s) 0 3 = true ∧ wholeV (.int d) 0 3 = true ∧ LL H pa ps ∧ (∀ ys ∈ ps, ∃ i j : Int, ys = [.int i, .int j]) ∧ ps.length ≤ 41 ∧ bOk c 0 (ps.map some) = true ∧
  ∀ H' : Hp, Same H H' → Q (.bl true) H'
section
variable {P : Program} {w : World} {K : PySem.W.Frag} {mg : Str → Option Value} {base : Heap}
/-- CoupleState(..), its arguments read one by one -/
theorem does_cs6 {CC CS : Addr} {t1 t2 t3 t4 t5 t6 : TE} {σ : L2.St} {H : Hp} {xs ls qs : List V} {c : Nat} {s d : Int} {ps : List (List V)} (hs : wholeV (.int s) 0 3 = true) (hd : wholeV (.int d) 0 3 = true)
    (d1 : Does t1 σ H (fun v H' => Same H H' ∧ Nm H' v xs (some c))) (d2 : ∀ H1, Same H H1 → Does t2 σ H1 (fun v H' => Same H1 H' ∧ Lv H' v ls true)) (d3 : ∀ H1, Does t3 σ H1 (fun v H' => v = .int s ∧ H' = H1)) (d4 : ∀ H1, Does t4 σ H1 (fun v H' => v = .int d ∧ H' = H1))
    (d5 : ∀ H1, Same H H1 → Does t5 σ H1 (fun v H' => Same H1 H' ∧ Bo H' v c (ps.map some) true)) (d6 : ∀ H1, Does t6 σ H1 (fun v H' => Same H1 H' ∧ Ms K H' v qs true)) :
    Does (tMake CC (spCS K CC CS) [] E0 (tCons t1 (tCons t2 (tCons t3 (tCons t4 (tCons t5 (tCons t6 tNil))))))) σ H (fun v H' => ∃ x, v = .ref x ∧ Same H H' ∧ CSt K CC H' x xs ls s d ps qs c ∧ H x = none) := fun Q q => by
  refine d1 _ ?_
  rintro nv H1 ⟨s1, nm⟩
  refine d2 H1 s1 _ ?_
  rintro lv H2 ⟨s2, lvv⟩
  refine d3 H2 _ ?_
  rintro _ H2' ⟨rfl, e2⟩
  subst e2
  refine d4 _ _ ?_
  rintro _ H2' ⟨rfl, e2⟩
  subst e2
  refine d5 _ (s1.trans s2) _ ?_
  rintro bv H3 ⟨s3, bo⟩
  refine d6 H3 _ ?_
  rintro mv H4 ⟨s4, mk⟩
  have s14 := s1.trans (s2.trans (s3.trans s4))
  exact new_cs (nm.same (s2.trans (s3.trans s4))) (lvv.same (s3.trans s4)) hs hd (bo.same s4) mk fun H' x s h nx => q _ _ ⟨x, rfl, s14.trans s, h, none_of s14 nx⟩
theorem does_cs5 {CC CS T0 : Addr} {t1 t2 t3 t4 t5 : TE} {σ : L2.St} {H : Hp} {xs ls : List V} {c : Nat} {s d : Int} {ps : List (List V)} (m0 : ∀ H, SqK K H T0 [.int 0, .int 0]) (hs : wholeV (.int s) 0 3 = true) (hd : wholeV (.int d) 0 3 = true)
    (d1 : Does t1 σ H (fun v H' => Same H H' ∧ Nm H' v xs (some c))) (d2 : ∀ H1, Same H H1 → Does t2 σ H1 (fun v H' => Same H1 H' ∧ Lv H' v ls true)) (d3 : ∀ H1, Does t3 σ H1 (fun v H' => v = .int s ∧ H' = H1)) (d4 : ∀ H1, Does t4 σ H1 (fun v H' => v = .int d ∧ H' = H1))
    (d5 : ∀ H1, Same H H1 → Does t5 σ H1 (fun v H' => Same H1 H' ∧ Bo H' v c (ps.map some) true)) :
    Does (tMake CC (spCS K CC CS) [.ref T0] E0 (tCons t1 (tCons t2 (tCons t3 (tCons t4 (tCons t5 tNil)))))) σ H (fun v H' => ∃ x, v = .ref x ∧ Same H H' ∧ CSt K CC H' x xs ls s d ps [.int 0, .int 0] c ∧ H x = none) := fun Q q => by
  refine d1 _ ?_
  rintro nv H1 ⟨s1, nm⟩
  refine d2 H1 s1 _ ?_
  rintro lv H2 ⟨s2, lvv⟩
  refine d3 H2 _ ?_
  rintro _ H2' ⟨rfl, e2⟩
  subst e2
  refine d4 _ _ ?_
  rintro _ H2' ⟨rfl, e2⟩
  subst e2
  refine d5 _ (s1.trans s2) _ ?_
  rintro bv H3 ⟨s3, bo⟩
  have s14 := s1.trans (s2.trans s3)
  have z := Ms.seq (m0 H3) (by show 2 ≤ 1000; decide) (fun x hx => by
    rcases List.mem_cons.mp hx with rfl | hx
    · exact .int _
    · rcases List.mem_cons.mp hx with rfl | hx
      · exact .int _
      · cases hx)
  rw [show mkOk [.int 0, .int 0] = true by decide +kernel] at z
  exact new_cs (nm.same (s2.trans s3)) (lvv.same s3) hs hd bo z fun H' x s h nx => q _ _ ⟨x, rfl, s14.trans s, h, none_of s14 nx⟩
theorem does_bo {j : Nat} {a : Addr} {c : Nat} {ps : List (List V)} {σ : L2.St} {H : Hp} (e : σ[j]? = some (some (.ref a))) (h : Bo H (.ref a) c (ps.map some) true) : Does (tVar j) σ H (fun v H' => Same H H' ∧ Bo H' v c (ps.map some) true) := fun Q q => ⟨_, e, q _ _ ⟨Same.refl _, h⟩⟩
theorem does_mk00 {σ : L2.St} {H : Hp} : Does (tLst (tCons (tC (.int 0)) (tCons (tC (.int 0)) tNil))) σ H (fun v H' => Same H H' ∧ Ms K H' v [.int 0, .int 0] true) := fun Q q => ⟨(by show 2 ≤ sizeLine; decide), fun p np => q _ _ ⟨same_upd np, by
  have z := Ms.seq (K := K) (a := p) (xs := [.int 0, .int 0]) (H := upd H p (.lst [.int 0, .int 0])) (.inl (.inl upd_same)) (by show 2 ≤ 1000; decide) (fun x hx => by
    rcases List.mem_cons.mp hx with rfl | hx
    · exact .int _
    · rcases List.mem_cons.mp hx with rfl | hx
      · exact .int _
      · cases hx)
  rw [show mkOk [.int 0, .int 0] = true by decide +kernel] at z
  exact z⟩⟩
theorem does_mk07 {σ : L2.St} {H : Hp} : Does (tTup (tCons (tC (.int 0)) (tCons (tC (.int 7)) tNil))) σ H (fun v H' => Same H H' ∧ Ms K H' v [.int 0, .int 7] true) := fun Q q => ⟨(by show 2 ≤ sizeLine; decide), fun p np => q _ _ ⟨same_upd np, by
  have z := Ms.seq (K := K) (a := p) (xs := [.int 0, .int 7]) (H := upd H p (.tup [.int 0, .int 7])) (.inl (.inr upd_same)) (by show 2 ≤ 1000; decide) (fun x hx => by
    rcases List.mem_cons.mp hx with rfl | hx
    · exact .int _
    · rcases List.mem_cons.mp hx with rfl | hx
      · exact .int _
      · cases hx)
  rw [show mkOk [.int 0, .int 7] = true by decide +kernel] at z
  exact z⟩⟩
theorem does_appM {j : Nat} {a : Addr} {xs : List V} {v : V} {σ : L2.St} {H : Hp} (e : σ[j]? = some (some (.ref a))) (h : H a = some (.lst xs)) (hl : xs.length ≤ 1000) : Does (tBM K "list" rAppend (tVar j) (tCons (tC v) tNil)) σ H (fun _ H' => H' = upd H a (.lst (xs ++ [v]))) := fun Q q => by
  exact ⟨_, e, .inl ⟨rfl, _, SqL.of h⟩, a, xs, v, rfl, rfl, h, Nat.lt_of_le_of_lt hl (by decide), q _ _ rfl⟩
theorem dat4c {K : PySem.W.Frag} {H : Hp} {U a b : Addr} {s d : Int} {xs ls : List V} (e : H U = some (.tup [.ref a, .ref b, .int s, .int d])) (ha : H a = some (.tup xs)) (hb : H b = some (.tup ls)) (h1 : ∀ x ∈ xs, Fl x) (h2 : ∀ x ∈ ls, Fl x) :
    Dat K H (.ref U) (.tuple [.tuple (dsOf xs), .tuple (dsOf ls), .int s, .int d]) := by
  refine ⟨.tup (SqT.of e) (.cons (dat_tup ha h1).dp (.cons (dat_tup hb h2).dp (.cons (.int s) (.cons (.int d) .nil)))), Bool.and_eq_true_iff.mpr ⟨?_, decide_eq_true ?_⟩⟩
  · show (PyData.canLayAll0 (dsOf xs) && (PyData.canLayAll0 (dsOf ls) && true)) = true
    rw [lay_flat h1, lay_flat h2]
    rfl
  · show max (PyData.depthAll (dsOf xs) + 1) (max (PyData.depthAll (dsOf ls) + 1) (max 0 (max 0 0))) + 1 ≤ 64
    rw [deep_flat h1, deep_flat h2]
    decide
theorem plain4c {s d : Int} {xs ls : List V} (h1 : xs.all plainV = true) (h2 : ls.all plainV = true) : plainD (.tuple [.tuple (dsOf xs), .tuple (dsOf ls), .int s, .int d]) = true := by
  show (plainAll (dsOf xs) && (plainAll (dsOf ls) && (true && (true && true)))) = true
  rw [plain_ds h1, plain_ds h2]
  rfl
theorem does_appD {j : Nat} {a : Addr} {xs : List V} {t : TE} {σ : L2.St} {H : Hp} {P1 : V → Hp → Prop} (e : σ[j]? = some (some (.ref a))) (h : H a = some (.lst xs)) (hl : xs.length ≤ 1000) (d : Does t σ H P1) (k : ∀ v H', P1 v H' → H' a = some (.lst xs)) : Does (tBM K "list" rAppend (tVar j) (tCons t tNil)) σ H (fun _ H' => ∃ v H1, P1 v H1 ∧ H' = upd H1 a (.lst (xs ++ [v]))) := fun Q q =>
  ⟨_, e, .inl ⟨rfl, _, SqL.of h⟩, d _ fun v H1 p => ⟨a, xs, v, rfl, rfl, k v H1 p, Nat.lt_of_le_of_lt hl (by decide), q _ _ ⟨v, H1, p, rfl⟩⟩⟩
theorem cut_one {x : V} {xs : List V} : cutV (x :: xs) (some 1) none = xs := by
  show (((x :: xs).drop (HT.sIx (x :: xs).length 0 (some ((1 : Nat) : Int)))).take ((x :: xs).length - HT.sIx (x :: xs).length 0 (some ((1 : Nat) : Int)))) = xs
  rw [HT.sIx_nat, Nat.min_eq_left (show 1 ≤ (x :: xs).length by rw [List.length_cons]; omega)]
  show xs.take (xs.length + 1 - 1) = xs
  rw [Nat.add_sub_cancel, List.take_length]
theorem drop_does {te : TE} {D : Ends} {σ : L2.St} {H : Hp} {P1 : V → Hp → Prop} (d : Does te σ H P1) (q : ∀ v H1, P1 v H1 → D.nx σ H1) : tDrop te D σ H := d _ q
theorem seq_fin {t u : TS} {D : Ends} {σ : L2.St} {H : Hp} (R : Hp → Prop) (hu : ∀ H', R H' → u D σ H') (ht : (∀ H', R H' → u D σ H') → t { D with nx := u D } σ H) : tSeq t u D σ H := ht hu
def Unl (K : PySem.W.Frag) (CC : Addr) (H : Hp) (z : Addr) (es ls : List V) (s d : Int) (ps : List (List V)) : Prop := ∃ (xs2 ls2 : List V) (s2 d2 : Int) (ps2 : List (List V)) (qs2 : List V) (c2 : Nat), CSt K CC H z xs2 ls2 s2 d2 ps2 qs2 c2 ∧ CGd xs2 ls2 ps2 qs2 ∧ (es ≠ xs2 ∨ ls ≠ ls2 ∨ s ≠ s2 ∨ d ≠ d2 ∨ ps.length ≠ ps2.length ∨ [V.int 0, V.int 0] ≠ qs2)
theorem Unl.nl {CC z : Addr} {H H' : Hp} {es ls : List V} {s d : Int} {ps : List (List V)} (h : Unl K CC H z es ls s d ps) (n : NL H H') : Unl K CC H' z es ls s d ps := by
  obtain ⟨xs2, ls2, s2, d2, ps2, qs2, c2, h1, h2⟩ := h
  exact ⟨xs2, ls2, s2, d2, ps2, qs2, c2, h1.nl n, h2⟩
abbrev nmCR : List Str := ["_law_names", "_law_lives", "_law_sons", "_law_daughters", "_law_pairs", "_law_plain", "_law_pair", "_law_handed", "_law_one", "_law_two", "_law_number", "_law_due", "_law_others", "_law_other"]
theorem scCR : FnScope nmCR ["_law_names", "_law_lives", "_law_sons", "_law_daughters", "_law_pairs"] (defScope sCoupleRight) := ⟨rfl, rfl, rfl, by decide +kernel, rfl, by decide +kernel, by decide +kernel⟩
theorem ok_cr {f fI fE fN fO CC CS T0 : Addr} {fd fdI fdE fdN fdO : FuncData} {ds5 : List Value} (F : FnP K "_law_couple_right" sCoupleRight f fd) (z_list : mg "list" = none) (z_tuple : mg "tuple" = none) (z_isinstance : mg "isinstance" = none) (z_bool : mg "bool" = none) (z_sum : mg "sum" = none) (z_range : mg "range" = none) (T : CsC K CC)
    (dN : Df P w K mg base "_law_many" 1 ["_law_names"] (spMany K) fN fdN) (M : MkC P w K mg base CC CS fI T0 fdI ds5) (EQ : EqM P w K mg base CC (spCEq K CC) fE fdE) (MO : MoM P w K mg base CC fO fdO) :
    FnOk P w K mg base CX0 8 f fd ["_law_names", "_law_lives", "_law_sons", "_law_daughters", "_law_pairs"] spCR := by
  refine F.ok scCR (fun vs H Q E h => ?_) (fun cdv A outer s0 H vs Q E hr h => ?_)
  · obtain ⟨na, la, pa, s, d, es, ls, ps, c, rfl, _⟩ := h
    rfl
  · obtain ⟨na, la, pa, s, d, es, ls, ps, c, rfl, hna, hla, hc, hes, hel, hls, hll, hs, hd, hpa, hps, hpl, hbo, q⟩ := h
    have hr1 := hr.mono (show 1 ≤ 7 by decide)
    refine ⟨_, PSs.nox (pss_cons (ps_set (i := 5) scCR.nd rfl (.inl rfl) (pe_callTy call_tuple_of (by rfl) z_tuple (by decide +kernel) (pa_cons (pe_lc (own := [("_law_pair", 6)]) (g := gName 6) (tt := tYes) rfl scCR.nd (pi_list (pv 4)) (blkOk_by (N := ["_law_names", "_law_lives", "_law_sons", "_law_daughters", "_law_pairs", "_law_plain", "_law_pair", "_law_handed", "_law_one", "_law_two", "_law_number", "_law_due", "_law_others", "_law_other"]) (sc := defScope sCoupleRight) (by decide +kernel)) (fun _ _ _ _ _ => pg_name (i := 6) scCR.nd rfl (Or.inl rfl)) (fun _ _ _ _ _ => pts_nil) (fun _ _ _ _ _ => (pe_callTy call_tupS (by rfl) z_tuple (by decide +kernel) (pa_cons (pv 6) pa_nil)))) pa_nil)))
    (pss_cons (ps_setLc (i := 7) (own := [("_law_pair", 6)]) (g := gName 6) (tt := tYes) rfl scCR.nd rfl rfl (sw_true rfl rfl rfl (by decide +kernel)) (pi_list (pv 4)) (blkOk_by (N := ["_law_names", "_law_lives", "_law_sons", "_law_daughters", "_law_pairs", "_law_plain", "_law_pair", "_law_handed", "_law_one", "_law_two", "_law_number", "_law_due", "_law_others", "_law_other"]) (sc := defScope sCoupleRight) (by decide +kernel)) (fun _ _ _ _ _ => pg_name (i := 6) scCR.nd rfl (Or.inl rfl)) (fun _ _ _ _ _ => pts_nil) (fun _ _ _ _ _ => (pe_callTy call_listS (by rfl) z_list (by decide +kernel) (pa_cons (pv 6) pa_nil))))
    (pss_cons (ps_set (i := 8) scCR.nd rfl (.inr rfl) (pe_make M.mks M.ok hr (by rfl) M.gl M.bi5 M.hd5 passX0 (pa_cons (pv 0) (pa_cons (pv 1) (pa_cons (pv 2) (pa_cons (pv 3) (pa_cons (pv 7) pa_nil)))))))
    (pss_cons (ps_set (i := 9) scCR.nd rfl (.inl rfl) (pe_make M.mks M.ok hr (by rfl) M.gl M.bi .nil passX0 (pa_cons (pe_callTy call_tupS (by rfl) z_tuple (by decide +kernel) (pa_cons (pv 0) pa_nil)) (pa_cons (pe_callTy call_tupS (by rfl) z_tuple (by decide +kernel) (pa_cons (pv 1) pa_nil)) (pa_cons (pv 2) (pa_cons (pv 3) (pa_cons (pv 5) (pa_cons (pe_lst (pa_cons pe_int (pa_cons pe_int pa_nil))) pa_nil))))))))
    (pss_cons (ps_for PassesOwn.never rfl (pi_list (pv 7)) (pg_name (i := 6) scCR.nd rfl (.inl rfl))
      (pss_one (ps_asg pe_int (pg_sub (pv 6) pe_int set_list))))
    (pss_cons (ps_expr (pe_bm PySem.F.plainAttrs_list PySem.F.slot_list_append PySem.F.type_list_append mt_append (pv 7) (pa_cons pe_int pa_nil)))
    (pss_cons (ps_if (pt_cmpR (op_neD hr.units) (pe_tup (pa_cons (pe_fld (pv 8) rfl) (pa_cons (pe_fld (pv 8) rfl) (pa_cons (pe_fld (pv 8) rfl) (pa_cons (pe_fld (pv 8) rfl) pa_nil))))) (pe_tup (pa_cons (pe_callTy call_tupS (by rfl) z_tuple (by decide +kernel) (pa_cons (pv 0) pa_nil)) (pa_cons (pe_callTy call_tupS (by rfl) z_tuple (by decide +kernel) (pa_cons (pv 1) pa_nil)) (pa_cons (pv 2) (pa_cons (pv 3) pa_nil))))) (nomark _))
      (pss_one (ps_ret pe_bl))
      pss_nil)
    (pss_cons (ps_if (PW.pt (pw_or (pt_cmpR (op_neD hr.units) (pe_fld (pv 8) rfl) (pv 5) (nomark _)) (pw_or (pt_cmpR (op_neD hr.units) (pe_fld (pv 8) rfl) (pe_tup (pa_cons pe_int (pa_cons pe_int pa_nil))) (nomark _)) (pw_or (pt_cmpR (op_neD hr.units) (pe_fld (pv 9) rfl) (pe_tup (pa_cons pe_int (pa_cons pe_int pa_nil))) (nomark _)) (pw_or1 (pt_cmpR op_ne (pe_fld (pv 8) rfl) (pe_call dN.ok hr1 (by rfl) dN.gl dN.kp dN.bi .nil pass0 (pa_cons (pv 0) pa_nil)) (nomark _)))))))
      (pss_one (ps_ret pe_bl))
      pss_nil)
    (pss_cons (ps_if (PW.pt (pw_or (pt_not (pt_val (pe_callB call_isi (by rfl) z_isinstance (by decide +kernel) (pa_cons (pe_fld (pv 8) rfl) (pa_cons (pe_bltn (by rfl) z_bool (by decide +kernel) (v := .ty "bool") rfl) pa_nil))))) (pw_or1 (pt_cmpR op_ne (pe_fld (pv 8) rfl) (pe_cmpR op_eq (pe_op op_add (pe_op op_add (pv 2) (pv 3)) (pe_callB (cr_sum rfl) (by rfl) z_sum (by decide +kernel) (pa_cons (pe_lc (own := [("_law_pair", 6)]) (g := gName 6) (tt := tYes) (te := tOp (rIxT K) (tVar 6) (tC (.int 1))) rfl scCR.nd (pi_tup (pv 5)) (blkOk_by (N := ["_law_names", "_law_lives", "_law_sons", "_law_daughters", "_law_pairs", "_law_plain", "_law_pair", "_law_handed", "_law_one", "_law_two", "_law_number", "_law_due", "_law_others", "_law_other"]) (sc := defScope sCoupleRight) (by decide +kernel)) (fun _ _ _ _ _ => pg_name (i := 6) scCR.nd rfl (Or.inl rfl)) (fun _ _ _ _ _ => pts_nil) (fun _ _ _ _ _ => (pe_ix ix_tup (pv 6) pe_int (fun _ _ => rfl)))) pa_nil))) pe_int (nomark _)) (nomark _)))))
      (pss_one (ps_ret pe_bl))
      pss_nil)
    (pss_cons (ps_for PassesOwn.never rfl (pi_range1 (by rfl) z_range (pa_cons (pe_op op_add (pe_call dN.ok hr1 (by rfl) dN.gl dN.kp dN.bi .nil pass0 (pa_cons (pv 0) pa_nil)) pe_int) pa_nil)) (pg_name (i := 10) scCR.nd rfl (Or.inr rfl))
      (pss_cons (ps_setLc (i := 11) (own := [("_law_pair", 6)]) (g := gName 6) (tt := tTest (tOp rEq (tOp (rIxT K) (tVar 6) (tC (.int 0))) (tVar 10))) (te := tOp (rIxT K) (tVar 6) (tC (.int 1))) rfl scCR.nd rfl rfl (sw_true rfl rfl rfl (by decide +kernel)) (pi_tup (pv 5)) (blkOk_by (N := ["_law_names", "_law_lives", "_law_sons", "_law_daughters", "_law_pairs", "_law_plain", "_law_pair", "_law_handed", "_law_one", "_law_two", "_law_number", "_law_due", "_law_others", "_law_other"]) (sc := defScope sCoupleRight) (by decide +kernel)) (fun _ _ _ _ _ => pg_name (i := 6) scCR.nd rfl (Or.inl rfl)) (fun _ _ _ _ _ => pts_one (pt_cmpR op_eq (pe_ix ix_tup (pv 6) pe_int (fun _ _ => rfl)) (pv 10) (nomark _))) (fun _ _ _ _ _ => (pe_ix ix_tup (pv 6) pe_int (fun _ _ => rfl))))
      (pss_one (ps_if (pt_cmpR op_ne (pe_meth (pv 8) T.cl MO.me MO.ok hr1 MO.bi .nil pass0 (pa_cons (pv 10) pa_nil)) (pe_ifExp (pt_cmpR (op_neD hr.units) (pv 11) (pe_lst pa_nil) (nomark _)) (pe_ix ix_list (pv 11) pe_int (fun _ _ => rfl)) pe_non) (nomark _))
        (pss_one (ps_ret pe_bl))
        pss_nil))))
    (pss_cons (ps_set (i := 12) scCR.nd rfl (.inl rfl) (pe_lst (pa_cons (pe_make M.mks M.ok hr (by rfl) M.gl M.bi5 M.hd5 passX0 (pa_cons (pe_op op_cat (pv 0) (pe_lst (pa_cons pe_non pa_nil))) (pa_cons (pv 1) (pa_cons (pv 2) (pa_cons (pv 3) (pa_cons (pv 4) pa_nil)))))) (pa_cons (pe_make M.mks M.ok hr (by rfl) M.gl M.bi5 M.hd5 passX0 (pa_cons (pv 0) (pa_cons (pe_op op_cat (pv 1) (pe_lst (pa_cons pe_non pa_nil))) (pa_cons (pv 2) (pa_cons (pv 3) (pa_cons (pv 4) pa_nil)))))) pa_nil))))
    (pss_cons (ps_set (i := 12) scCR.nd rfl (.inl rfl) (pe_op op_cat (pv 12) (pe_lst (pa_cons (pe_make M.mks M.ok hr (by rfl) M.gl M.bi5 M.hd5 passX0 (pa_cons (pv 0) (pa_cons (pv 1) (pa_cons (pe_op op_sub pe_int (pv 2)) (pa_cons (pv 3) (pa_cons (pv 4) pa_nil)))))) (pa_cons (pe_make M.mks M.ok hr (by rfl) M.gl M.bi5 M.hd5 passX0 (pa_cons (pv 0) (pa_cons (pv 1) (pa_cons (pv 2) (pa_cons (pe_op op_sub pe_int (pv 3)) (pa_cons (pv 4) pa_nil)))))) pa_nil)))))
    (pss_cons (ps_expr (pe_bm PySem.F.plainAttrs_list PySem.F.slot_list_append PySem.F.type_list_append mt_append (pv 12) (pa_cons (pe_make M.mks M.ok hr (by rfl) M.gl M.bi .nil passX0 (pa_cons (pv 0) (pa_cons (pv 1) (pa_cons (pv 2) (pa_cons (pv 3) (pa_cons (pv 4) (pa_cons (pe_tup (pa_cons pe_int (pa_cons pe_int pa_nil))) pa_nil))))))) pa_nil)))
    (pss_cons (ps_if (pt_cmpR (op_neD hr.units) (pv 4) (pe_lst pa_nil) (nomark _))
      (pss_one (ps_expr (pe_bm PySem.F.plainAttrs_list PySem.F.slot_list_append PySem.F.type_list_append mt_append (pv 12) (pa_cons (pe_make M.mks M.ok hr (by rfl) M.gl M.bi5 M.hd5 passX0 (pa_cons (pv 0) (pa_cons (pv 1) (pa_cons (pv 2) (pa_cons (pv 3) (pa_cons (pe_slice sl_list (pv 4) (po_some pe_int) po_none) pa_nil)))))) pa_nil))))
      pss_nil)
    (pss_one (ps_ret (pe_and (pe_cmpR (op_eqI EQ.ok EQ.fi EQ.fn EQ.bi pass0 hr1) (pv 8) (pv 9) (nomark _)) (pe_and (pe_cmpR (op_eqD hr.units) (pe_lc (own := [("_law_other", 13)]) (g := gName 13) (tt := tTest (tOp (rEqI K CC (spCEq K CC)) (tVar 8) (tVar 13))) rfl scCR.nd (pi_list (pv 12)) (blkOk_by (N := ["_law_names", "_law_lives", "_law_sons", "_law_daughters", "_law_pairs", "_law_plain", "_law_pair", "_law_handed", "_law_one", "_law_two", "_law_number", "_law_due", "_law_others", "_law_other"]) (sc := defScope sCoupleRight) (by decide +kernel)) (fun _ _ _ _ _ => pg_name (i := 13) scCR.nd rfl (Or.inl rfl)) (fun _ _ _ _ _ => pts_one (pt_cmpR (op_eqI EQ.ok EQ.fi EQ.fn EQ.bi pass0 hr1) (pv 8) (pv 13) (nomark _))) (fun _ _ _ _ _ => (pv 13))) (pe_lst pa_nil) (nomark _)) (pe_one (pe_not (pe_cmpR (op_eqI EQ.ok EQ.fi EQ.fn EQ.bi pass0 hr1) (pv 8) (pv 5) (nomark _)))))))))))))))))))))), ?_⟩
    refine seq_does (P1 := fun v H' => ∃ tb, v = .ref tb ∧ Same H H' ∧ TT H' tb ps) (fun Q q => ?_) ?_
    · obtain ⟨ts, hts, hlen, htt⟩ := id hpa
      refine ⟨_, rfl, pa, rfl, ⟨_, SqL.of hts⟩, fun D nD => lc_it walk_list (fun i H' => Same H H' ∧ ∃ us : List Addr, us.length = i ∧ H' D = some (.lst (us.map V.ref)) ∧ ∀ (j : Nat) (t : Addr), us[j]? = some t → ∃ zs, ps[j]? = some zs ∧ H' t = some (.tup zs)) ⟨same_upd nD, [], rfl, upd_same, fun j t h => by cases h⟩ (fun i H' _ h => SqL.of (h.1 _ _ hts)) ?_ ?_⟩
      · rintro i v H1 H2 hi ⟨s1, us, hl, eD, ht⟩ ⟨rfl, ev⟩
        obtain ⟨t0, et0, rfl⟩ := map_ref_at ev
        obtain ⟨zs, ez, hz⟩ := htt i t0 et0
        refine ⟨rfl, _, rfl, t0, zs, rfl, .inl (s1 _ _ hz), fun H3 t s3 ht3 => ⟨_, s3 _ _ eD, ?_, fun b o e => ?_, us ++ [t], by rw [List.length_append, hl]; rfl, by rw [upd_same, List.map_append]; rfl, fun j u hj => ?_⟩⟩
        · rw [List.length_map, hl]
          rw [List.length_map, hlen] at hi
          exact Nat.lt_of_lt_of_le hi (Nat.le_trans hpl (by decide))
        · rw [upd_ne (ne_of_none e nD)]
          exact s3 _ _ (s1 _ _ e)
        · have eD3 := s3 _ _ eD
          by_cases hlt : j < us.length
          · rw [List.getElem?_append_left hlt] at hj
            obtain ⟨zs', h1, h2⟩ := ht j u hj
            exact ⟨zs', h1, (upd_ne (ne_of (s3 _ _ h2) eD3 (by intro z; cases z))).trans (s3 _ _ h2)⟩
          · have ej : j = us.length := by
              have z := (List.getElem?_eq_some_iff.mp hj).1
              rw [List.length_append] at z
              have z2 : ([t] : List Addr).length = 1 := rfl
              omega
            subst ej
            rw [List.getElem?_append_right (Nat.le_refl _), Nat.sub_self] at hj
            have eu := Option.some.inj hj
            subst eu
            exact ⟨zs, by rw [hl]; exact ez, (upd_ne (ne_of ht3 eD3 (by intro z; cases z))).trans ht3⟩
      · rintro H1 ⟨s1, us, hl, eD, ht⟩
        refine ⟨D, _, rfl, .inl ⟨SqL.of eD, fun tb ntb => q _ _ ⟨tb, rfl, s1.trans (same_upd ntb), us, upd_same, by rw [hl, List.length_map, hlen], fun j t e => ?_⟩⟩⟩
        obtain ⟨zs, h1, h2⟩ := ht j t e
        exact ⟨zs, h1, same_upd ntb _ _ h2⟩
    rintro _ H1 ⟨tb, rfl, s1, htb⟩
    refine seq_does (P1 := fun v H' => ∃ (hn : Addr) (us : List Addr), v = .ref hn ∧ Same H1 H' ∧ H' hn = some (.lst (us.map V.ref)) ∧ H1 hn = none ∧ us.length = ps.length ∧ ∀ (j : Nat) (t : Addr), us[j]? = some t → ∃ zs, ps[j]? = some zs ∧ H' t = some (.lst zs) ∧ H1 t = none ∧ t ≠ hn) (fun Q q => ?_) ?_
    · obtain ⟨ts, hts, hlen, htt⟩ := id hpa
      refine ⟨_, rfl, pa, rfl, ⟨_, SqL.of (s1 _ _ hts)⟩, fun D nD => lc_it walk_list (fun i H' => Same H1 H' ∧ ∃ us : List Addr, us.length = i ∧ H' D = some (.lst (us.map V.ref)) ∧ ∀ (j : Nat) (t : Addr), us[j]? = some t → ∃ zs, ps[j]? = some zs ∧ H' t = some (.lst zs) ∧ H1 t = none ∧ t ≠ D) ⟨same_upd nD, [], rfl, upd_same, fun j t h => by cases h⟩ (fun i H' _ h => SqL.of (h.1 _ _ (s1 _ _ hts))) ?_ ?_⟩
      · rintro i v H2 H3 hi ⟨s2, us, hl, eD, ht⟩ ⟨rfl, ev⟩
        obtain ⟨t0, et0, rfl⟩ := map_ref_at ev
        obtain ⟨zs, ez, hz⟩ := htt i t0 et0
        refine ⟨rfl, _, rfl, t0, zs, rfl, .inl (s2 _ _ (s1 _ _ hz)), fun t nt => ⟨_, same_upd nt _ _ eD, ?_, fun b o e => ?_, us ++ [t], by rw [List.length_append, hl]; rfl, by rw [upd_same, List.map_append]; rfl, fun j u hj => ?_⟩⟩
        · rw [List.length_map, hl]
          rw [List.length_map, hlen] at hi
          exact Nat.lt_of_lt_of_le hi (Nat.le_trans hpl (by decide))
        · rw [upd_ne (ne_of_none e nD)]
          exact same_upd nt _ _ (s2 _ _ e)
        · have tD : t ≠ D := Ne.symm (ne_of_none eD nt)
          by_cases hlt : j < us.length
          · rw [List.getElem?_append_left hlt] at hj
            obtain ⟨zs', h1, h2, h3, h4⟩ := ht j u hj
            exact ⟨zs', h1, (upd_ne h4).trans (same_upd nt _ _ h2), h3, h4⟩
          · have ej : j = us.length := by
              have z := (List.getElem?_eq_some_iff.mp hj).1
              rw [List.length_append] at z
              have z2 : ([t] : List Addr).length = 1 := rfl
              omega
            subst ej
            rw [List.getElem?_append_right (Nat.le_refl _), Nat.sub_self] at hj
            have eu := Option.some.inj hj
            subst eu
            exact ⟨zs, by rw [hl]; exact ez, (upd_ne tD).trans upd_same, none_of s2 nt, tD⟩
      · rintro H2 ⟨s2, us, hl, eD, ht⟩
        exact q _ _ ⟨D, us, rfl, s2, eD, nD, by rw [hl, List.length_map, hlen], ht⟩
    rintro _ H2 ⟨hn, us, rfl, s2, ehn, nhn, hul, hut⟩
    have fles : ∀ x ∈ es, Fl x := fun x hx => (hes x hx).fl
    have flls : ∀ x ∈ ls, Fl x := fun x hx => (hls x hx).2.1
    have lall : ls.all lvOk = true := List.all_eq_true.mpr fun x hx => (hls x hx).1
    have ll2 : LL H2 hn ps := ⟨us, ehn, hul, fun j t e => let ⟨zs, h1, h2, _⟩ := hut j t e; ⟨zs, h1, h2⟩⟩
    have s12 := s1.trans s2
    refine state_eq (σ' := [some (.ref na), some (.ref la), some (.int s), some (.int d), some (.ref pa), some (.ref tb), none, some (.ref hn), none, none, none, none, none, none]) rfl ?_
    -- one
    refine seq_does (does_cs5 M.mk0 hs hd (does_nm rfl (.inl (s12 _ _ hna)) hc (Nat.le_trans hel (by decide)) fles) (fun H' s' => does_lv rfl (.inl ((s12.trans s') _ _ hla)) lall (Nat.le_trans hll (by decide)) flls) (fun _ => does_var rfl) (fun _ => does_var rfl) (fun H' s' => does_bo rfl ((ll2.same s').bo hps hpl hbo))) ?_
    rintro _ H3 ⟨x1, rfl, s3, st1, _⟩
    have s13 := s12.trans s3
    have htb3 := (htb.nl (NL.of (s2.trans s3)))
    -- two
    refine seq_does (does_cs6 hs hd (does_nmT rfl (.inl (s13 _ _ hna)) hc (Nat.le_trans hel (by decide)) fles) (fun H' s' => does_lvT rfl (.inl ((s13.trans s') _ _ hla)) lall (Nat.le_trans hll (by decide)) flls) (fun _ => does_var rfl) (fun _ => does_var rfl) (fun H' s' => does_bo rfl ((htb3.nl (NL.of s')).bo hps hpl hbo)) (fun H' => does_mk00)) ?_
    rintro _ H4 ⟨x2, rfl, s4, st2, _⟩
    -- what was handed is changed
    have ehn4 : H4 hn = some (.lst (us.map V.ref)) := s4 _ _ (s3 _ _ ehn)
    have s24 : Same H1 H4 := s2.trans (s3.trans s4)
    have hut4 : ∀ (j : Nat) (t : Addr), us[j]? = some t → ∃ a b, H4 t = some (.lst [a, b]) := fun j t e => by
      obtain ⟨zs, h1, h2, _⟩ := hut j t e
      obtain ⟨a, b, rfl⟩ := hps zs (List.mem_of_getElem? h1)
      exact ⟨_, _, s4 _ _ (s3 _ _ h2)⟩
    refine state_eq (σ' := [some (.ref na), some (.ref la), some (.int s), some (.int d), some (.ref pa), some (.ref tb), none, some (.ref hn), some (.ref x1), some (.ref x2), none, none, none, none]) rfl ?_
    refine ⟨_, rfl, hn, rfl, ⟨_, SqL.of ehn4⟩, ?_⟩
    refine for_it walk_list (fun k σ H' => ∃ x6, σ = [some (.ref na), some (.ref la), some (.int s), some (.int d), some (.ref pa), some (.ref tb), x6, some (.ref hn), some (.ref x1), some (.ref x2), none, none, none, none] ∧ Same H1 H' ∧ NL H4 H' ∧ H' hn = some (.lst (us.map V.ref)) ∧ ∀ (j : Nat) (t : Addr), us[j]? = some t → ∃ a b, H' t = some (.lst [a, b]))
      ⟨none, rfl, s24, NL.refl, ehn4, hut4⟩ (fun _ _ _ _ h => SqL.of (by obtain ⟨_, _, _, _, h, _⟩ := h; exact h)) ?_ ?_
    · rintro k y σ H5 H6 hk ⟨x6, rfl, s5, n5, e5, u5⟩ ⟨eH, ev⟩
      subst eH
      obtain ⟨t0, et0, rfl⟩ := map_ref_at ev
      obtain ⟨a, b, ht0⟩ := u5 k t0 et0
      obtain ⟨zs, _, _, nt0, nth⟩ := hut k t0 et0
      refine ⟨_, rfl, t0, _, 1, 1, rfl, rfl, ht0, rfl, ⟨_, rfl, fun b' o e => (upd_ne (ne_of_none e nt0)).trans (s5 _ _ e), n5.trans (NL.put ht0), (upd_ne (Ne.symm nth)).trans e5, fun j t e => ?_⟩⟩
      by_cases z : t = t0
      · subst z
        exact ⟨a, .int 7, upd_same⟩
      · obtain ⟨a', b', h⟩ := u5 j t e
        exact ⟨a', b', (upd_ne z).trans h⟩
    rintro σ H5 ⟨x6, rfl, s5, n5, e5, u5⟩
    refine seq_drop (does_appM rfl e5 (by rw [List.length_map, hul]; exact Nat.le_trans hpl (by decide))) ?_
    rintro _ _ rfl
    have s16 : Same H1 (upd H5 hn (.lst (us.map V.ref ++ [.int 0]))) := fun b o e => (upd_ne (ne_of_none e nhn)).trans (s5 _ _ e)
    have n46 : NL H4 (upd H5 hn (.lst (us.map V.ref ++ [.int 0]))) := n5.trans (NL.put e5)
    generalize upd H5 hn (.lst (us.map V.ref ++ [.int 0])) = H6 at s16 n46 ⊢
    have st1 := (st1.nl (NL.of s4)).nl n46
    have st2 := st2.nl n46
    have htb := htb.nl (NL.of s16)
    have s06 := s1.trans s16
    have hpa6 : LL H6 pa ps := by
      obtain ⟨ts, h1, h2, h3⟩ := hpa
      exact ⟨ts, s06 _ _ h1, h2, fun j t e => let ⟨ys, e1, e2⟩ := h3 j t e; ⟨ys, e1, s06 _ _ e2⟩⟩
    have hna6 := s06 _ _ hna
    have hla6 := s06 _ _ hla
    clear n46 s16 u5 e5 n5 s5 hut4 s24 ehn4 s4 s13 htb3 s3 s12 ll2 hut hul nhn ehn s2 s1 hpa hna hla
    have ples : es.all plainV = true := List.all_eq_true.mpr fun x hx => by
      rcases hes x hx with rfl | ⟨i, rfl⟩ <;> rfl
    have plls : ls.all plainV = true := List.all_eq_true.mpr fun x hx => (hls x hx).2.2
    have pf := pairs_fl hps
    have f00 : ∀ x ∈ ([.int 0, .int 0] : List V), Fl x := fun x hx => by
      rcases List.mem_cons.mp hx with rfl | hx
      · exact .int _
      · rcases List.mem_cons.mp hx with rfl | hx
        · exact .int _
        · cases hx
    have g00 : CGd es ls ps [.int 0, .int 0] := ⟨fles, flls, fun ys h => (pf ys h).2.1, f00, ples, plls, fun ys h => (pf ys h).2.2, rfl⟩
    refine state_eq (σ' := [some (.ref na), some (.ref la), some (.int s), some (.int d), some (.ref pa), some (.ref tb), x6, some (.ref hn), some (.ref x1), some (.ref x2), none, none, none, none]) rfl ?_
    obtain ⟨dx, tn, tl, tb1, tm, e1, e2, e3, e4, e5⟩ := id st1
    refine ⟨_, rfl, x1, CC, dx, _, _, rfl, e1, T.cl, T.n1, rfl, _, rfl, x1, CC, dx, _, _, rfl, e1, T.cl, T.n2, rfl, _, rfl, x1, CC, dx, _, _, rfl, e1, T.cl, T.n3, rfl, _, rfl, x1, CC, dx, _, _, rfl, e1, T.cl, T.n4, rfl, (by show 4 ≤ sizeLine; decide), fun U nU => ?_⟩
    have sU := same_upd (o := .tup [.ref tn, .ref tl, .int s, .int d]) nU
    refine ⟨_, rfl, na, es, rfl, .inl (sU _ _ hna6), fun H8 t1 s8 ht1 => ⟨_, rfl, la, ls, rfl, .inl ((sU.trans s8) _ _ hla6), fun H9 t2 s9 ht2 => ⟨_, rfl, _, rfl, (by show 4 ≤ sizeLine; decide), fun W nW => ?_⟩⟩⟩
    have sW := same_upd (o := .tup [.ref t1, .ref t2, .int s, .int d]) nW
    have s7 := sU.trans (s8.trans (s9.trans sW))
    have dU := dat4c (K := K) ((s8.trans (s9.trans sW)) _ _ upd_same) (s7 _ _ e2) (s7 _ _ e3) fles flls
    have dW := dat4c (K := K) (upd_same (H := H9) (a := W) (o := .tup [.ref t1, .ref t2, .int s, .int d])) ((s9.trans sW) _ _ ht1) (sW _ _ ht2) fles flls
    refine ⟨_, _, dU.dp, dW.dp, dU.sh, dW.sh, _, rfl, ?_⟩
    rw [eqv_refl (plain4c ples plls)]
    refine iteF (tNext_of ?_)
    clear dU dW
    generalize upd H9 W (.tup [.ref t1, .ref t2, .int s, .int d]) = H10 at s7 ⊢
    clear sW nW s9 ht2 s8 ht1 sU nU e1 e2 e3 e4 e5
    have st1 := st1.nl (NL.of s7)
    have st2 := st2.nl (NL.of s7)
    have htb := htb.nl (NL.of s7)
    have hna := s7 _ _ hna6
    have hla := s7 _ _ hla6
    have s010 := s06.trans s7
    have hpa : LL H10 pa ps := hpa6.same s7
    clear hpa6 hla6 hna6 s7 s06
    obtain ⟨dx, tn, tl, tb1, tm, e1, e2, e3, e4, e5⟩ := id st1
    obtain ⟨dx2, tn2, tl2, tb2, tm2, f1, f2, f3, f4, f5⟩ := id st2
    have db1 := e4.dat (K := K) g00.f3
    have db := htb.dat (K := K) g00.f3
    -- what is borne, the marks, the classes
    refine ⟨_, rfl, x1, CC, dx, _, _, rfl, e1, T.cl, T.n5, rfl, _, rfl, _, _, db1.dp, db.dp, db1.sh, db.sh, _, rfl, ?_⟩
    rw [eqv_refl (show plainD (.tuple (psD ps)) = true from plain_tt g00.p3)]
    refine iteF ⟨_, rfl, x1, CC, dx, _, _, rfl, e1, T.cl, T.n6, rfl, (by show 2 ≤ sizeLine; decide), fun U nU => ?_⟩
    have sU := same_upd (o := .tup [.int 0, .int 0]) nU
    have dm := dat_sqt (K := K) (sqT_nl e5 (NL.of sU)) f00
    have dU := dat_tup (K := K) (upd_same (H := H10) (a := U) (o := .tup [.int 0, .int 0])) f00
    refine ⟨_, _, dm.dp, dU.dp, dm.sh, dU.sh, _, rfl, ?_⟩
    rw [eqv_refl (show plainD (.tuple (dsOf [.int 0, .int 0])) = true from rfl)]
    refine iteF ⟨_, rfl, x2, CC, dx2, _, _, rfl, sU _ _ f1, T.cl, T.n6, rfl, (by show 2 ≤ sizeLine; decide), fun W nW => ?_⟩
    have sW := same_upd (o := .tup [.int 0, .int 0]) nW
    have dm := dat_sqt (K := K) (sqT_nl f5 (NL.of (sU.trans sW))) f00
    have dW := dat_tup (K := K) (upd_same (H := upd H10 U (.tup [.int 0, .int 0])) (a := W) (o := .tup [.int 0, .int 0])) f00
    refine ⟨_, _, dm.dp, dW.dp, dm.sh, dW.sh, _, rfl, ?_⟩
    rw [eqv_refl (show plainD (.tuple (dsOf [.int 0, .int 0])) = true from rfl)]
    have s12 := sU.trans sW
    refine iteF ⟨_, rfl, x1, CC, dx, _, _, rfl, s12 _ _ e1, T.cl, T.n7, rfl, _, rfl, na, es, c, rfl, SqL.of (s12 _ _ hna), Nat.le_trans hel (by decide), hc, fun H13 s13 => ⟨rfl, _, rfl, ?_⟩⟩
    rw [decide_eq_true rfl]
    refine iteF (tNext_of ?_)
    have s7 := s12.trans s13
    have st1 := st1.nl (NL.of s7)
    have st2 := st2.nl (NL.of s7)
    have htb := htb.nl (NL.of s7)
    have hna := s7 _ _ hna
    have hla := s7 _ _ hla
    have s013 := s010.trans s7
    have hpa : LL H13 pa ps := hpa.same s7
    clear dm dU dW db1 db sU sW s12 s13 nU nW e1 e2 e3 e4 e5 f1 f2 f3 f4 f5 s010 s7
    have s0 : 0 ≤ s := by
      obtain ⟨h1, _⟩ := Bool.and_eq_true_iff.mp (show (decide ((0 : Int) ≤ s) && decide (s ≤ 3)) = true from hs)
      exact of_decide_eq_true h1
    have d0 : 0 ≤ d := by
      obtain ⟨h1, _⟩ := Bool.and_eq_true_iff.mp (show (decide ((0 : Int) ≤ d) && decide (d ≤ 3)) = true from hd)
      exact of_decide_eq_true h1
    obtain ⟨dx, tn, tl, tb1, tm, e1, e2, e3, e4, e5⟩ := id st1
    obtain ⟨ts, hts, htl, htt⟩ := id htb
    -- is it new
    refine ⟨_, rfl, x1, CC, dx, _, _, rfl, e1, T.cl, T.n8, rfl, _, _, _, _, true, rfl, .ty _, .base (.bl _), kit_ty (by decide +kernel), _, rfl, iteF ⟨_, rfl, x1, CC, dx, _, _, rfl, e1, T.cl, T.n8, rfl, ?_⟩⟩
    refine ⟨_, rfl, _, rfl, _, _, rfl, rfl, ?_⟩
    refine ⟨_, rfl, tb, rfl, ⟨_, SqT.of hts⟩, fun D nD => lc_it walk_tup (fun i H' => Same H13 H' ∧ H' D = some (.lst ((sndI (ps.take i)).map V.int))) ⟨same_upd nD, upd_same⟩ (fun i H' _ h => SqT.of (h.1 _ _ hts)) ?_ ?_⟩
    · rintro i v H14 H15 hi ⟨s14, eD⟩ ⟨eH, ev⟩
      subst eH
      obtain ⟨t, et, rfl⟩ := map_ref_at ev
      obtain ⟨zs, ez, hz⟩ := htt i t et
      obtain ⟨a, b, rfl⟩ := hps zs (List.mem_of_getElem? ez)
      refine ⟨rfl, _, rfl, t, _, 1, _, rfl, rfl, SqT.of (s14 _ _ hz), at1, _, eD, ?_, fun b' o e => (upd_ne (ne_of_none e nD)).trans (s14 _ _ e), ?_⟩
      · rw [List.length_map]
        unfold sndI
        rw [List.length_map, List.length_take]
        exact Nat.lt_of_le_of_lt (Nat.le_trans (Nat.min_le_right _ _) hpl) (by decide)
      · rw [snd_snoc ez, List.map_append]
        exact upd_same
    rintro H14 ⟨s14, eD⟩
    rw [List.length_map, htl, List.take_of_length_le (Nat.le_refl _)] at eD
    refine ⟨D, sndI ps, rfl, SqL.of eD, _, _, rfl, rfl, rfl, rfl, _, rfl, ?_⟩
    rw [← newOf_sum s0 d0 (bOk_snd hbo), decide_eq_true rfl]
    refine iteF (tNext_of ?_)
    have st1 := st1.nl (NL.of s14)
    have st2 := st2.nl (NL.of s14)
    have htb := htb.nl (NL.of s14)
    have hna := s14 _ _ hna
    have hla := s14 _ _ hla
    have s014 := s013.trans s14
    have hpa : LL H14 pa ps := hpa.same s14
    clear e1 e2 e3 e4 e5 hts htl htt s14 s013
    obtain ⟨dx, tn, tl, tb1, tm, e1, e2, e3, e4, e5⟩ := id st1
    -- the marks of the classes
    have hc7 : c ≤ 7 := by
      have z := cnt_len hc
      omega
    refine ⟨_, rfl, na, es, c, rfl, SqL.of hna, Nat.le_trans hel (by decide), hc, fun H15 s15 => ⟨_, _, rfl, rfl, (c : Int) + 1, rfl, by omega, by omega, ?_⟩⟩
    rw [show ((c : Int) + 1).toNat = c + 1 by omega]
    refine for_it walk_range (fun k σ H' => ∃ x10 x11, σ = [some (.ref na), some (.ref la), some (.int s), some (.int d), some (.ref pa), some (.ref tb), x6, some (.ref hn), some (.ref x1), some (.ref x2), x10, x11, none, none] ∧ Same H14 H') ⟨none, none, rfl, s15⟩ (fun _ _ _ _ _ => trivial) ?_ ?_
    · rintro k y σ H16 H17 hk ⟨x10, x11, rfl, s16⟩ ⟨rfl, rfl⟩
      obtain ⟨ts, hts, htl, htt⟩ := htb.nl (NL.of s16)
      refine ⟨_, rfl, tb, rfl, ⟨_, SqT.of hts⟩, fun D nD => lc_it walk_tup (fun i H' => Same H17 H' ∧ H' D = some (.lst ((dueL (0 + (k : Int)) (ps.take i)).map V.int))) ⟨same_upd nD, upd_same⟩ (fun i H' _ h => SqT.of (h.1 _ _ hts)) ?_ ?_⟩
      · rintro i v H18 H19 hi ⟨s18, eD⟩ ⟨eH, ev⟩
        subst eH
        obtain ⟨t, et, rfl⟩ := map_ref_at ev
        obtain ⟨zs, ez, hz⟩ := htt i t et
        obtain ⟨a, b, rfl⟩ := hps zs (List.mem_of_getElem? ez)
        have keepD : ∀ {o' : HO} (b' : Addr) (o : HO), H17 b' = some o → upd H19 D o' b' = some o := fun b' o e => (upd_ne (ne_of_none e nD)).trans (s18 _ _ e)
        refine ⟨rfl, _, rfl, t, _, 0, _, rfl, rfl, SqT.of (s18 _ _ hz), at0, _, rfl, rfl, _, rfl, ite2 (fun g => ?_) (fun g => ?_)⟩
        · have eg : a = 0 + (k : Int) := by
            have z := of_decide_eq_true g
            injection z
          refine ⟨_, rfl, t, _, 1, _, rfl, rfl, SqT.of (s18 _ _ hz), at1, _, eD, ?_, keepD, ?_⟩
          · rw [List.length_map]
            exact Nat.lt_of_le_of_lt (due_le _ _) (Nat.lt_of_le_of_lt (Nat.le_trans (by rw [List.length_take]; exact Nat.min_le_right _ _) hpl) (by decide))
          · rw [due_snoc ez, if_pos eg, List.map_append]
            exact upd_same
        · refine ⟨s18, ?_⟩
          rw [due_snoc ez, if_neg (fun z => g (decide_eq_true (by rw [z]))), List.append_nil]
          exact eD
      rintro H18 ⟨s18, eD⟩
      rw [List.length_map, htl, List.take_of_length_le (Nat.le_refl _)] at eD
      have s1418 := s16.trans s18
      refine ⟨_, rfl, x1, dx, _, rfl, s1418 _ _ e1, rfl, _, rfl, x1, dx, tb1, _, _, ps, rfl, s1418 _ _ e1, rfl, e4.nl (NL.of s1418), hps, ?_⟩
      rw [markOf_due hps]
      generalize dueL (0 + (k : Int)) ps = ns at eD ⊢
      refine ⟨_, rfl, (by decide), fun W nW => ?_⟩
      have sW := same_upd (o := .lst []) nW
      have fns : ∀ x ∈ ns.map V.int, Fl x := fun x hx => by
        obtain ⟨i, _, rfl⟩ := List.mem_map.mp hx
        exact .int i
      refine ⟨_, _, .lst (SqL.of (sW _ _ eD)) (dp_flat fns), .lst (SqL.of upd_same) .nil, shaped_lst fns, by decide, _, rfl, ?_⟩
      have s1419 := s1418.trans sW
      cases ns with
      | nil => exact iteF ⟨rfl, _, rfl, iteF ⟨_, _, rfl, s1419⟩⟩
      | cons v r =>
        refine iteT ⟨_, rfl, D, _, 0, _, rfl, rfl, SqL.of (sW _ _ eD), atI_nat (xs := (v :: r).map V.int) (j := 0) rfl, ?_⟩
        refine ⟨rfl, _, rfl, ?_⟩
        rw [show decide (dueV (v :: r) = V.int v) = true from decide_eq_true rfl]
        exact iteF ⟨_, _, rfl, s1419⟩
    rintro σ H16 ⟨x10, x11, rfl, s16⟩
    have st1 := st1.nl (NL.of s16)
    have st2 := st2.nl (NL.of s16)
    have htb := htb.nl (NL.of s16)
    have hna := s16 _ _ hna
    have hla := s16 _ _ hla
    have s016 := s014.trans s16
    have hpa : LL H16 pa ps := hpa.same s16
    clear e1 e2 e3 e4 e5 s16 s014
    have d3 : wholeV (.int (3 - s)) 0 3 = true := by
      obtain ⟨_, h2⟩ := Bool.and_eq_true_iff.mp (show (decide ((0 : Int) ≤ s) && decide (s ≤ 3)) = true from hs)
      have h2 := of_decide_eq_true h2
      exact Bool.and_eq_true_iff.mpr ⟨decide_eq_true (by omega), decide_eq_true (by omega)⟩
    have d4 : wholeV (.int (3 - d)) 0 3 = true := by
      obtain ⟨_, h2⟩ := Bool.and_eq_true_iff.mp (show (decide ((0 : Int) ≤ d) && decide (d ≤ 3)) = true from hd)
      have h2 := of_decide_eq_true h2
      exact Bool.and_eq_true_iff.mpr ⟨decide_eq_true (by omega), decide_eq_true (by omega)⟩
    -- the others
    dsimp only
    refine seq_does (does_lst2 (P1 := fun v H' => ∃ x, v = .ref x ∧ Same H16 H' ∧ CSt K CC H' x (es ++ [.non]) ls s d ps [.int 0, .int 0] c ∧ H16 x = none) (P2 := fun _ H1 v H' => ∃ x, v = .ref x ∧ Same H1 H' ∧ CSt K CC H' x es (ls ++ [.non]) s d ps [.int 0, .int 0] c ∧ H1 x = none) ?_ ?_) ?_
    · exact does_cs5 M.mk0 hs hd (does_nmN rfl hna hc (Nat.le_trans hel (by decide)) fles) (fun H' s' => does_lv rfl (.inl (s' _ _ hla)) lall (Nat.le_trans hll (by decide)) flls) (fun _ => does_var rfl) (fun _ => does_var rfl) (fun H' s' => does_bo rfl ((hpa.same s').bo hps hpl hbo))
    · rintro _ H17 ⟨x, rfl, s17, _, _⟩
      exact does_cs5 M.mk0 hs hd (does_nm rfl (.inl (s17 _ _ hna)) hc (Nat.le_trans hel (by decide)) fles) (fun H' s' => does_lvN rfl ((s17.trans s') _ _ hla) lall (Nat.le_trans hll (by decide)) flls) (fun _ => does_var rfl) (fun _ => does_var rfl) (fun H' s' => does_bo rfl ((hpa.same (s17.trans s')).bo hps hpl hbo))
    rintro _ _ ⟨o1, _, H17, _, H18, rfl, ⟨x3, rfl, s17, st3, _⟩, ⟨x4, rfl, s18, st4, _⟩, no1, rfl⟩
    have s19 := same_upd (o := .lst [.ref x3, .ref x4]) no1
    have eo1 := upd_same (H := H18) (a := o1) (o := .lst [.ref x3, .ref x4])
    generalize upd H18 o1 (.lst [.ref x3, .ref x4]) = H19 at s19 eo1 ⊢
    have st3 := st3.nl (NL.of (s18.trans s19))
    have st4 := st4.nl (NL.of s19)
    have s1619 := s17.trans (s18.trans s19)
    clear s17 s18 s19 no1
    refine seq_does (does_cat (a := o1) (xs := [.ref x3, .ref x4]) rfl (does_lst2 (P1 := fun v H' => ∃ x, v = .ref x ∧ Same H19 H' ∧ CSt K CC H' x es ls (3 - s) d ps [.int 0, .int 0] c ∧ H19 x = none) (P2 := fun _ H1 v H' => ∃ x, v = .ref x ∧ Same H1 H' ∧ CSt K CC H' x es ls s (3 - d) ps [.int 0, .int 0] c ∧ H1 x = none) ?_ ?_) ?_) ?_
    · exact does_cs5 M.mk0 d3 hd (does_nm rfl (.inl (s1619 _ _ hna)) hc (Nat.le_trans hel (by decide)) fles) (fun H' s' => does_lv rfl (.inl ((s1619.trans s') _ _ hla)) lall (Nat.le_trans hll (by decide)) flls) (fun _ Q q => ⟨_, rfl, _, _, rfl, rfl, q _ _ ⟨rfl, rfl⟩⟩) (fun _ => does_var rfl) (fun H' s' => does_bo rfl ((hpa.same (s1619.trans s')).bo hps hpl hbo))
    · rintro _ H20 ⟨x, rfl, s20, _, _⟩
      exact does_cs5 M.mk0 hs d4 (does_nm rfl (.inl ((s1619.trans s20) _ _ hna)) hc (Nat.le_trans hel (by decide)) fles) (fun H' s' => does_lv rfl (.inl ((s1619.trans (s20.trans s')) _ _ hla)) lall (Nat.le_trans hll (by decide)) flls) (fun _ => does_var rfl) (fun _ Q q => ⟨_, rfl, _, _, rfl, rfl, q _ _ ⟨rfl, rfl⟩⟩) (fun H' s' => does_bo rfl ((hpa.same (s1619.trans (s20.trans s'))).bo hps hpl hbo))
    · rintro _ _ ⟨b, _, H11, _, H12, rfl, ⟨x5, rfl, s11, _, _⟩, ⟨x6, rfl, s12, _, _⟩, nb, rfl⟩
      exact ⟨b, _, rfl, upd_same, (s11.trans (s12.trans (same_upd nb))) _ _ eo1, by show 2 + 2 ≤ 1000; decide⟩
    rintro _ _ ⟨_, _, b, ys, o2, ⟨b', _, H20, _, H21, rfl, ⟨x5, rfl, s20, st5, _⟩, ⟨x7, rfl, s21, st6, _⟩, nb, rfl⟩, eb, hb, rfl, no2, rfl⟩
    cases eb
    rw [upd_same] at hb
    have ey := Option.some.inj hb
    injection ey with ey
    subst ey
    have s22 := (same_upd (o := .lst [.ref x5, .ref x7]) nb).trans (same_upd (o := .lst ([.ref x3, .ref x4] ++ [.ref x5, .ref x7])) no2)
    have eo2 := upd_same (H := upd H21 b (.lst [.ref x5, .ref x7])) (a := o2) (o := .lst ([.ref x3, .ref x4] ++ [.ref x5, .ref x7]))
    have s1621 := s1619.trans (s20.trans s21)
    have no2' : H16 o2 = none := none_of (s1621.trans (same_upd nb)) no2
    generalize upd (upd H21 b (.lst [.ref x5, .ref x7])) o2 (.lst ([.ref x3, .ref x4] ++ [.ref x5, .ref x7])) = H22 at s22 eo2 ⊢
    have s1922 := s20.trans (s21.trans s22)
    have st5 := st5.nl (NL.of (s21.trans s22))
    have st6 := st6.nl (NL.of s22)
    have st3 := st3.nl (NL.of s1922)
    have st4 := st4.nl (NL.of s1922)
    have s1622 := s1619.trans s1922
    clear s20 s21 s22 nb no2 s1922 s1621 s1619 eo1 hb
    have fles' := fl_snoc fles
    have flls' := fl_snoc flls
    have ples' := pl_snoc ples
    have plls' := pl_snoc plls
    have u3 : Unl K CC H22 x3 es ls s d ps := ⟨_, _, _, _, _, _, _, st3, ⟨fles', flls, g00.f3, f00, ples', plls, g00.p3, rfl⟩, .inl snoc_ne⟩
    have u4 : Unl K CC H22 x4 es ls s d ps := ⟨_, _, _, _, _, _, _, st4, ⟨fles, flls', g00.f3, f00, ples, plls', g00.p3, rfl⟩, .inr (.inl snoc_ne)⟩
    have u5 : Unl K CC H22 x5 es ls s d ps := ⟨_, _, _, _, _, _, _, st5, g00, .inr (.inr (.inl (by omega)))⟩
    have u6 : Unl K CC H22 x7 es ls s d ps := ⟨_, _, _, _, _, _, _, st6, g00, .inr (.inr (.inr (.inl (by omega))))⟩
    clear st3 st4 st5 st6
    refine state_eq (σ' := [some (.ref na), some (.ref la), some (.int s), some (.int d), some (.ref pa), some (.ref tb), x6, some (.ref hn), some (.ref x1), some (.ref x2), x10, x11, some (.ref o2), none]) rfl ?_
    refine seq_drop (does_appD rfl eo2 (by show 4 ≤ 1000; decide) (does_cs6 hs hd (does_nm rfl (.inl (s1622 _ _ hna)) hc (Nat.le_trans hel (by decide)) fles) (fun H' s' => does_lv rfl (.inl ((s1622.trans s') _ _ hla)) lall (Nat.le_trans hll (by decide)) flls) (fun _ => does_var rfl) (fun _ => does_var rfl) (fun H' s' => does_bo rfl ((hpa.same (s1622.trans s')).bo hps hpl hbo)) (fun H' => does_mk07)) ?_) ?_
    · rintro _ H' ⟨x, _, s', _, _⟩
      exact s' _ _ eo2
    rintro _ _ ⟨_, H23, ⟨x8, rfl, s23, st8, _⟩, rfl⟩
    have eo23 := s23 _ _ eo2
    have n23 : NL H22 (upd H23 o2 (.lst (([.ref x3, .ref x4] ++ [.ref x5, .ref x7]) ++ [.ref x8]))) := (NL.of s23).trans (NL.put eo23)
    have s24 : Same H16 (upd H23 o2 (.lst (([.ref x3, .ref x4] ++ [.ref x5, .ref x7]) ++ [.ref x8]))) := fun b o e => (upd_ne (ne_of_none e no2')).trans (s23 _ _ (s1622 _ _ e))
    have st8 := st8.nl (NL.put (zs := ([.ref x3, .ref x4] ++ [.ref x5, .ref x7]) ++ [.ref x8]) eo23)
    have eo24 := upd_same (H := H23) (a := o2) (o := .lst (([.ref x3, .ref x4] ++ [.ref x5, .ref x7]) ++ [.ref x8]))
    generalize upd H23 o2 (.lst (([.ref x3, .ref x4] ++ [.ref x5, .ref x7]) ++ [.ref x8])) = H24 at n23 s24 st8 eo24 ⊢
    have f07 : ∀ x ∈ ([.int 0, .int 7] : List V), Fl x := fun x hx => by
      rcases List.mem_cons.mp hx with rfl | hx
      · exact .int _
      · rcases List.mem_cons.mp hx with rfl | hx
        · exact .int _
        · cases hx
    have all5 : ∀ z ∈ [x3, x4, x5, x7, x8], Unl K CC H24 z es ls s d ps := by
      intro z hz
      simp only [List.mem_cons, List.not_mem_nil, or_false] at hz
      rcases hz with rfl | rfl | rfl | rfl | rfl
      · exact u3.nl n23
      · exact u4.nl n23
      · exact u5.nl n23
      · exact u6.nl n23
      · exact ⟨_, _, _, _, _, _, _, st8, ⟨fles, flls, g00.f3, f07, ples, plls, g00.p3, rfl⟩, .inr (.inr (.inr (.inr (.inr (by decide)))))⟩
    clear u3 u4 u5 u6 n23 st8 eo23 s23 s1622 eo2
    refine seq_fin (fun H' => ∃ oth : List Addr, H' o2 = some (.lst (oth.map V.ref)) ∧ (∀ z ∈ oth, Unl K CC H' z es ls s d ps) ∧ Same H16 H') ?_ fun fin => ?_
    · rintro H25 ⟨oth, eo, un, s25⟩
      have s025 := s016.trans s25
      refine ⟨_, rfl, _, rfl, ceq_yes g00 (st1.nl (NL.of s25)) (st2.nl (NL.of s25)) EQ.nfS ⟨_, rfl, iteT ?_⟩⟩
      refine ⟨_, rfl, o2, rfl, ⟨_, SqL.of eo⟩, fun D nD => ?_⟩
      refine lc_it walk_list (fun i H' => Same H25 H' ∧ H' D = some (.lst [])) ⟨same_upd nD, upd_same⟩ (fun _ _ _ h => SqL.of (h.1 _ _ eo)) ?_ ?_
      · rintro i y H26 H27 hi ⟨s26, eD⟩ ⟨eH, hy⟩
        subst eH
        obtain ⟨z, ez, rfl⟩ := map_ref_at hy
        obtain ⟨xs2, ls2, s2', d2', ps2, qs2, c2, h1, g2, ne⟩ := un z (List.mem_of_getElem? ez)
        exact ⟨rfl, _, rfl, _, rfl, ceq_no g00 g2 (st1.nl (NL.of (s25.trans s26))) (h1.nl (NL.of s26)) EQ.nfS ne ⟨_, rfl, iteF ⟨s26, eD⟩⟩⟩
      · rintro H26 ⟨s26, eD⟩
        refine ⟨(by decide), fun T nT => ?_⟩
        have sT := same_upd (o := .lst []) nT
        refine ⟨_, _, .lst (SqL.of (sT _ _ eD)) .nil, .lst (SqL.of upd_same) .nil, by decide, by decide, _, rfl, iteT ?_⟩
        have s28 := s25.trans (s26.trans sT)
        obtain ⟨ts, hts, _, _⟩ := htb.nl (NL.of s28)
        exact ⟨_, rfl, _, rfl, ceq_tup g00 (st1.nl (NL.of s28)) hts EQ.nfT ⟨_, rfl, q _ (s016.trans s28)⟩⟩
    · refine ⟨_, rfl, (by decide), fun W nW => ?_⟩
      have sW := same_upd (o := .lst []) nW
      have dl := lls_dat (K := K) ((hpa.same s24).same sW) g00.f3
      refine ⟨_, _, dl.dp, .lst (SqL.of upd_same) .nil, dl.sh, by decide, _, rfl, ?_⟩
      cases ps with
      | nil => exact iteF (tNext_of (fin _ ⟨[x3, x4, x5, x7, x8], sW _ _ eo24, fun z hz => (all5 z hz).nl (NL.of sW), s24.trans sW⟩))
      | cons y0 r =>
        refine iteT ?_
        have llW := (hpa.same s24).same sW
        obtain ⟨ts, hts, hlen, htt⟩ := llW
        cases ts with
        | nil => cases hlen
        | cons t0 us' =>
        have hna' := sW _ _ (s24 _ _ hna)
        have hla' := sW _ _ (s24 _ _ hla)
        have hpr : ∀ ys ∈ r, ∃ i j : Int, ys = [.int i, .int j] := fun ys h => hps ys (List.mem_cons_of_mem _ h)
        refine drop_does (does_appD (xs := ([.ref x3, .ref x4] ++ [.ref x5, .ref x7]) ++ [.ref x8]) rfl (sW _ _ eo24) (by show 5 ≤ 1000; decide) (does_cs5 (ps := r) M.mk0 hs hd (does_nm rfl (.inl hna') hc (Nat.le_trans hel (by decide)) fles) (fun H' s' => does_lv rfl (.inl (s' _ _ hla')) lall (Nat.le_trans hll (by decide)) flls) (fun _ => does_var rfl) (fun _ => does_var rfl) (fun H' s' Q q => ?_)) ?_) ?_
        · refine ⟨_, rfl, _, rfl, pa, _, rfl, SqL.of (s' _ _ hts), fun V0 nV => q _ _ ⟨same_upd nV, LL.bo ⟨us', ?_, Nat.succ.inj hlen, fun j t e => ?_⟩ hpr (by rw [List.length_cons] at hpl; omega) (bOk_tail hbo)⟩⟩
          · rw [show ((t0 :: us').map V.ref) = V.ref t0 :: us'.map V.ref from rfl, cut_one]
            exact upd_same
          · obtain ⟨zs, h1, h2⟩ := htt (j + 1) t e
            exact ⟨zs, h1, same_upd nV _ _ (s' _ _ h2)⟩
        · rintro _ H' ⟨x, _, s', _, _⟩
          exact s' _ _ (sW _ _ eo24)
        rintro _ _ ⟨_, H25, ⟨x9, rfl, s25, st9, _⟩, rfl⟩
        have eo25 := s25 _ _ (sW _ _ eo24)
        have n25 : NL H24 _ := ((NL.of sW).trans (NL.of s25)).trans (NL.put (zs := (([.ref x3, .ref x4] ++ [.ref x5, .ref x7]) ++ [.ref x8]) ++ [.ref x9]) eo25)
        refine fin _ ⟨[x3, x4, x5, x7, x8, x9], upd_same, fun z hz => ?_, fun b o e => (upd_ne (ne_of_none e no2')).trans (s25 _ _ (sW _ _ (s24 _ _ e)))⟩
        have hz2 : z ∈ [x3, x4, x5, x7, x8] ∨ z = x9 := by
          simp only [List.mem_cons, List.not_mem_nil, or_false] at hz ⊢
          rcases hz with h | h | h | h | h | h
          · exact .inl (.inl h)
          · exact .inl (.inr (.inl h))
          · exact .inl (.inr (.inr (.inl h)))
          · exact .inl (.inr (.inr (.inr (.inl h))))
          · exact .inl (.inr (.inr (.inr (.inr h))))
          · exact .inr h
        rcases hz2 with h | rfl
        · exact (all5 z h).nl n25
        · refine ⟨_, _, _, _, _, _, _, st9.nl (NL.put eo25), ⟨fles, flls, fun ys h => g00.f3 ys (List.mem_cons_of_mem _ h), f00, ples, plls, fun ys h => g00.p3 ys (List.mem_cons_of_mem _ h), rfl⟩, .inr (.inr (.inr (.inr (.inl ?_))))⟩
          rw [List.length_cons]
          omega
end
end K35

/-! the law -/
namespace K35
open PySem PySem.Spec PyProof.Rows L2 L2H
def spLaw (K : PySem.W.Frag) : Sp := fun vs H Q _ => ∃ (a : Addr) (ns : List Int), vs = [.ref a] ∧ SqL K H a (ns.map V.int) ∧ ns.length ≤ 63 ∧ ∀ H', Q (.bl true) H'
section
variable {P : Program} {w : World} {K : PySem.W.Frag} {mg : Str → Option Value} {base : Heap}
theorem scLaw : FnScope ["_law_script", "_law_hand_here", "_law_turn", "_law_names", "_law_lives", "_law_pairs"] ["_law_script"] (defScope sLaw) := ⟨rfl, rfl, rfl, by decide +kernel, rfl, by decide +kernel, by decide +kernel⟩
theorem ok_law {f fH fD fN fEn fLi fMk fPR fCR fRf : Addr} {fd fdH fdD fdN fdEn fdLi fdMk fdPR fdCR fdRf : FuncData} (F : FnP K "law" sLaw f fd) (z_range : mg "range" = none) (dH : Df P w K mg base "_law_hand" 1 ["_law_script"] (spHand K) fH fdH)
    (dD : Df P w K mg base "_law_draw" 2 ["_law_hand_here", "_law_many_here"] spDraw fD fdD) (dN : Df P w K mg base "_law_many" 1 ["_law_names"] (spMany K) fN fdN) (dEn : Df P w K mg base "_law_entries" 4 ["_law_hand_here"] spEn fEn fdEn)
    (dLi : Df P w K mg base "_law_drawn_lives" 4 ["_law_hand_here"] spLvs fLi fdLi) (dMk : Df P w K mg base "_law_drawn_marks" 3 ["_law_hand_here", "_law_many_here"] spMks fMk fdMk)
    (dPR : Df P w K mg base "_law_person_right" 8 ["_law_hand_here", "_law_names", "_law_lives"] spPR fPR fdPR) (dCR : Df P w K mg base "_law_couple_right" 8 ["_law_names", "_law_lives", "_law_sons", "_law_daughters", "_law_pairs"] spCR fCR fdCR)
    (dRf : Df P w K mg base "_law_refusals" 9 ["_law_hand_here", "_law_names", "_law_lives", "_law_pairs"] spRef fRf fdRf) : FnOk P w K mg base CX0 10 f fd ["_law_script"] (spLaw K) := by
  refine F.ok scLaw (fun vs H Q E h => ?_) (fun cdv A outer s H vs Q E hr9 h => ?_)
  · obtain ⟨a, ns, rfl, _⟩ := h
    rfl
  · obtain ⟨a, ns, rfl, hS, hlen, q⟩ := h
    have hr1 := hr9.mono (show 1 ≤ 9 by decide)
    have hr2 := hr9.mono (show 2 ≤ 9 by decide)
    have hr3 := hr9.mono (show 3 ≤ 9 by decide)
    have hr4 := hr9.mono (show 4 ≤ 9 by decide)
    have hr8 := hr9.mono (show 8 ≤ 9 by decide)
    refine ⟨_, PSs.nox (pss_cons (ps_set (i := 1) scLaw.nd rfl (.inl rfl) (pe_call dH.ok hr1 (by rfl) dH.gl dH.kp dH.bi .nil pass0 (pa_cons (pv 0) pa_nil)))
    (pss_cons (ps_for PassesOwn.never rfl (pi_range1 (by rfl) z_range (pa_cons pe_int pa_nil)) (pg_name (i := 2) scLaw.nd rfl (.inl rfl))
      (pss_cons (ps_set (i := 3) scLaw.nd rfl (.inl rfl) (pe_call dEn.ok hr4 (by rfl) dEn.gl dEn.kp dEn.bi .nil pass0 (pa_cons (pv 1) pa_nil)))
      (pss_cons (ps_set (i := 4) scLaw.nd rfl (.inl rfl) (pe_call dLi.ok hr4 (by rfl) dLi.gl dLi.kp dLi.bi .nil pass0 (pa_cons (pv 1) pa_nil)))
      (pss_cons (ps_set (i := 5) scLaw.nd rfl (.inl rfl) (pe_call dMk.ok hr3 (by rfl) dMk.gl dMk.kp dMk.bi .nil pass0 (pa_cons (pv 1) (pa_cons (pe_call dN.ok hr1 (by rfl) dN.gl dN.kp dN.bi .nil pass0 (pa_cons (pv 3) pa_nil)) pa_nil))))
      (pss_cons (ps_if (pt_not (pt_val (pe_call dPR.ok hr8 (by rfl) dPR.gl dPR.kp dPR.bi .nil pass0 (pa_cons (pv 1) (pa_cons (pv 3) (pa_cons (pv 4) pa_nil))))))
        (pss_one (ps_ret pe_bl))
        pss_nil)
      (pss_cons (ps_if (pt_not (pt_val (pe_call dCR.ok hr8 (by rfl) dCR.gl dCR.kp dCR.bi .nil pass0 (pa_cons (pv 3) (pa_cons (pv 4) (pa_cons (pe_call dD.ok hr2 (by rfl) dD.gl dD.kp dD.bi .nil pass0 (pa_cons (pv 1) (pa_cons pe_int pa_nil))) (pa_cons (pe_call dD.ok hr2 (by rfl) dD.gl dD.kp dD.bi .nil pass0 (pa_cons (pv 1) (pa_cons pe_int pa_nil))) (pa_cons (pv 5) pa_nil))))))))
        (pss_one (ps_ret pe_bl))
        pss_nil)
      (pss_one (ps_if (pt_not (pt_val (pe_call dRf.ok hr9 (by rfl) dRf.gl dRf.kp dRf.bi .nil pass0 (pa_cons (pv 1) (pa_cons (pv 3) (pa_cons (pv 4) (pa_cons (pv 5) pa_nil)))))))
        (pss_one (ps_ret pe_bl))
        pss_nil))))))))
    (pss_one (ps_ret (pe_and (pe_call dPR.ok hr8 (by rfl) dPR.gl dPR.kp dPR.bi .nil pass0 (pa_cons (pv 1) (pa_cons (pe_lst pa_nil) (pa_cons (pe_lst pa_nil) pa_nil)))) (pe_one (pe_call dCR.ok hr8 (by rfl) dCR.gl dCR.kp dCR.bi .nil pass0 (pa_cons (pe_lst (pa_cons pe_non pa_nil)) (pa_cons (pe_lst pa_nil) (pa_cons pe_int (pa_cons pe_int (pa_cons (pe_lst pa_nil) pa_nil)))))))))))), ?_⟩
    refine ⟨_, rfl, a, ns, rfl, hS, hlen, fun H1 p l t s1 np hh1 => ?_⟩
    refine ⟨2, rfl, by decide, by decide, for_it walk_range (fun n σ H' => ∃ (i r c : Int) (x2 x3 x4 x5 : Option V), σ = [some (.ref a), some (.ref p), x2, x3, x4, x5] ∧ HandAt H' p l (ns.map absI) i r c)
      ⟨_, _, _, none, none, none, none, rfl, hh1⟩ (fun _ _ _ _ _ => trivial) ?_ ?_⟩
    · rintro n y σ H3 H4 hn ⟨i, r, c, x2, x3, x4, x5, rfl, hh⟩ ⟨rfl, rfl⟩
      refine ⟨_, rfl, p, l, _, i, r, c, rfl, hh, fun H5 na es cc i5 r5 t5 k5 hh5 hna nap hc hes hel => ?_⟩
      refine ⟨_, rfl, p, l, _, i5, r5, t5, rfl, hh5, fun H6 la ls i6 r6 t6 k6 hh6 hla lap hls hll => ?_⟩
      have hna6 := k6 _ _ nap hna
      refine ⟨_, rfl, _, rfl, na, es, cc, rfl, SqL.of hna6, Nat.le_trans hel (by decide), hc, fun H7 s7 => ?_⟩
      have hc7 : cc ≤ 7 := by
        have z := cnt_len hc
        omega
      refine ⟨p, l, _, i6, r6, t6, cc, rfl, by omega, hand_same hh6 s7, fun H8 pa ps i8 r8 t8 k8 hh8 hpa npa hpaK hps hpl hb => ?_⟩
      have hna8 := k8 _ _ nap (s7 _ _ hna6)
      have hla8 := k8 _ _ lap (s7 _ _ hla)
      refine ⟨_, rfl, _, rfl, _, rfl, p, l, _, i8, r8, t8, na, la, es, ls, cc, rfl, hh8, hna8, hla8, nap, lap, hc, hes, hel, hls, hll, fun H9 i9 r9 t9 k9 hh9 => ?_⟩
      refine ⟨_, rfl, iteF (tNext_of ?_)⟩
      have hna9 := k9 _ _ nap hna8
      have hla9 := k9 _ _ lap hla8
      refine ⟨_, rfl, _, rfl, _, rfl, p, l, _, i9, r9, t9, _, rfl, hh9, by decide, by decide +kernel, fun d1 ia ra ta d10 d11 oka => ?_⟩
      have hha := hand_upd hh9 oka
      have ka : Kept p H9 (upd H9 p (handO l ia ra ta)) := Kept.upd
      generalize upd H9 p (handO l ia ra ta) = Ha at hha ka ⊢
      refine ⟨_, rfl, p, l, _, ia, ra, ta, _, rfl, hha, by decide, by decide +kernel, fun d2 ib rb tb d20 d21 okb => ?_⟩
      have hhb := hand_upd hha okb
      have kb : Kept p Ha (upd Ha p (handO l ib rb tb)) := Kept.upd
      generalize upd Ha p (handO l ib rb tb) = Hb at hhb kb ⊢
      have k9b := k9.trans (ka.trans kb)
      have w3 : ∀ d : Int, 0 ≤ d → d < 4 → wholeV (.int d) 0 3 = true := fun d h0 h1 => Bool.and_eq_true_iff.mpr ⟨decide_eq_true h0, decide_eq_true (by omega)⟩
      have hnab := (ka.trans kb) _ _ nap hna9
      have hlab := (ka.trans kb) _ _ lap hla9
      refine ⟨_, rfl, na, la, pa, d1, d2, es, ls, ps, cc, rfl, hnab, hlab, hc, hes, hel, hls, hll, w3 d1 d10 d11, w3 d2 d20 d21, hpaK _ k9b, hps, hpl, hb, fun Hc sc => ⟨_, rfl, iteF (tNext_of ?_)⟩⟩
      refine ⟨_, rfl, _, rfl, _, rfl, _, rfl, p, l, _, ib, rb, tb, na, la, pa, es, ls, ps, cc, rfl, hand_same hhb sc, sc _ _ hnab, sc _ _ hlab, nap, lap, hc, by omega, hes, hel, hls, hll, fun H' k' => hpaK _ ((k9b.trans (Kept.same sc)).trans k'), hps, hpl, hb, fun Hd' ie re te kd hhd => ⟨_, rfl, iteF ?_⟩⟩
      exact ⟨ie, re, te, _, _, _, _, rfl, hhd⟩
    · rintro σ H3 ⟨i, r, c, x2, x3, x4, x5, rfl, hh⟩
      refine ⟨_, rfl, (by decide), fun A1 nA1 => ⟨(by decide), fun A2 nA2 => ?_⟩⟩
      have sA1 := same_upd (o := .lst []) nA1
      have sA2 := same_upd (o := .lst []) nA2
      have hhA := hand_same (hand_same hh sA1) sA2
      have hA1 := sA2 _ _ (upd_same (H := H3) (a := A1) (o := .lst []))
      have hA2 := upd_same (H := upd H3 A1 (.lst [])) (a := A2) (o := .lst [])
      have p1 : A1 ≠ p := Ne.symm (ne_of_none hh.1 nA1)
      have p2 : A2 ≠ p := Ne.symm (ne_of_none (sA1 _ _ hh.1) nA2)
      generalize upd (upd H3 A1 (.lst [])) A2 (.lst []) = H4 at hhA hA1 hA2 ⊢
      refine ⟨p, l, _, i, r, c, A1, A2, [], [], 0, rfl, hhA, hA1, hA2, p1, p2, rfl, (fun x h => by cases h), (by decide), (fun x h => by cases h), (by decide), fun H5 i5 r5 t5 k5 hh5 => ⟨_, rfl, iteT ?_⟩⟩
      refine ⟨(by show 1 ≤ sizeLine; decide), fun B1 nB1 => ⟨(by decide), fun B2 nB2 => ⟨(by decide), fun B3 nB3 => ?_⟩⟩⟩
      have sB2 := same_upd (o := .lst []) nB2
      have sB3 := same_upd (o := .lst []) nB3
      have hB1 := sB3 _ _ (sB2 _ _ (upd_same (H := H5) (a := B1) (o := .lst [.non])))
      have hB2 := sB3 _ _ (upd_same (H := upd H5 B1 (.lst [.non])) (a := B2) (o := .lst []))
      have hB3 := upd_same (H := upd (upd H5 B1 (.lst [.non])) B2 (.lst [])) (a := B3) (o := .lst [])
      refine ⟨B1, B2, B3, 0, 0, [.non], [], [], 0, rfl, hB1, hB2, rfl, (fun x h => ?_), (by decide), (fun x h => by cases h), (by decide), (by decide +kernel), (by decide +kernel), ⟨[], hB3, rfl, fun j t h => by cases h⟩, (fun x h => by cases h), (by decide), rfl, fun H' _ => q H'⟩
      rw [List.mem_singleton] at h
      exact .inl h
end
end K35

/-! the facts by the head, the end -/
namespace K35
open PySem PySem.Spec PyProof.Rows L2
theorem oexB_ok {K : PySem.W.Frag} {C : Addr} (h : oexB K C = true) : ∃ nm q N bs bm sn sub ab col dd k0 k1 k2 k3 k5, K.lookup C = some (excClassObj nm q C N bs bm true sn sub ab col dd k0 k1 k2 k3 k5 "ValueError.__new__") ∧ PySem.HandSPX.refsVE bm = true := by
  unfold oexB at h
  split at h
  · rename_i t dd cd sl e
    obtain ⟨h1, h2⟩ := Bool.and_eq_true_iff.mp h
    have et := of_decide_eq_true h1
    split at h2
    · rename_i C' bm k0 k1 k2 k3 n k5 hm hs
      obtain ⟨h3, h4⟩ := Bool.and_eq_true_iff.mp h2
      obtain ⟨h5, h6⟩ := Bool.and_eq_true_iff.mp h4
      obtain ⟨h7, h8⟩ := Bool.and_eq_true_iff.mp h6
      obtain ⟨h9, h10⟩ := Bool.and_eq_true_iff.mp h8
      have eC := of_decide_eq_true h3
      have en := of_decide_eq_true h5
      obtain ⟨nm, bs, mro, ns, qn, hd, sn, sb, ab, col, del⟩ := cd
      dsimp only at hm h7 h9
      have e9 : del = false := by
        cases del with
        | false => rfl
        | true => cases h9
      have es : sl = #[k0, k1, k2, k3, some (.builtin n), k5] := by
        cases sl
        exact congrArg Array.mk hs
      subst et eC en e9 hm es h7
      exact ⟨nm, qn, ns, bs, bm, sn, sb, ab, col, dd, k0, k1, k2, k3, k5, e, h10⟩
    · cases h2
  · cases h
theorem b2 {a b : Bool} (h : (a && b) = true) : a = true ∧ b = true := Bool.and_eq_true_iff.mp h
/-- what the head says of an error -/
structure BadF (K : PySem.W.Frag) (D : Addr) : Prop where
  ox : OexC K D
  xf : XfC K D
  cl : PySem.W.findIn K (.ref D) "__class__" = some (some (.builtin "object.__class__"))
  ob : PySem.W.mroIn K D (.type "object") = some true
  ini : PySem.W.findIn K (.ref D) "__init__" = some (some (.ref (He.ma K D "__init__")))
  ty : PySem.W.typeIn K (.ref (He.ma K D "__init__")) = some (.type "function")
theorem badB_ok {K : PySem.W.Frag} {D : Addr} (h : badB K D = true) : BadF K D := by
  obtain ⟨x1, h⟩ := b2 h
  obtain ⟨x2, h⟩ := b2 h
  obtain ⟨x3, x4⟩ := b2 h
  obtain ⟨h1, h⟩ := b2 x2
  obtain ⟨h2, h⟩ := b2 h
  obtain ⟨h3, h⟩ := b2 h
  obtain ⟨h4, h⟩ := b2 h
  obtain ⟨h5, h⟩ := b2 h
  obtain ⟨h6, h⟩ := b2 h
  obtain ⟨h7, h⟩ := b2 h
  obtain ⟨h8, h9⟩ := b2 h
  have xf : XfC K D := ⟨of_decide_eq_true h1, of_decide_eq_true h2, of_decide_eq_true h3, h4⟩
  exact ⟨⟨oexB_ok x1, of_decide_eq_true h7, xf.exC, of_decide_eq_true h8, h9⟩, xf, of_decide_eq_true h5, of_decide_eq_true h6, of_decide_eq_true x3, of_decide_eq_true x4⟩
theorem BadF.xc {K : PySem.W.Frag} {D : Addr} (e : BadF K D) (d : dunB K = true) : ExcC K D := by
  obtain ⟨h1, h2⟩ := b2 d
  exact ⟨e.xf.ga, e.xf.gg, e.xf.exC, e.xf.hdC, e.cl, of_decide_eq_true h1, of_decide_eq_true h2, e.ob⟩
theorem proB_ok {K : PySem.W.Frag} (h : proB K = true) : PropOf K (He.ga K "Pattern") "class_count" (pA K) (gA K) := by
  obtain ⟨h1, h⟩ := b2 h
  obtain ⟨h2, h⟩ := b2 h
  obtain ⟨h3, h4⟩ := b2 h
  refine ⟨of_decide_eq_true h1, of_decide_eq_true h2, of_decide_eq_true h3, ?_⟩
  unfold gA
  cases e : PySem.W.recIn K (pA K) "property" with
  | none => rw [e] at h4; cases h4
  | some l =>
    rw [e] at h4
    match l, h4 with
    | .ref g :: rest, _ => exact ⟨rest, rfl⟩
theorem funG {K : PySem.W.Frag} (e : gW K = valM.2.2) (c : gB K = true) :
    ∃ fd, FunD K "class_count" "Pattern.class_count" (defArgs sCount) (defBody sCount) (defScope sCount) [] [] (gA K) fd := by
  obtain ⟨kp, c2⟩ := b2 c
  unfold gW at e
  cases hq : K.lookup (gA K) with
  | none =>
    rw [hq] at e
    cases e
  | some ob =>
    obtain ⟨kc, kd, kt, ks⟩ := ob
    rw [hq] at c2 e
    cases kt with
    | func dd =>
      obtain ⟨m1, m2, m3, m4, m5, m6, m7, m8, m9, m10, m11, m12, m13, m14, m15⟩ := dd
      have ee : (some (m1, m2, m3, m4, m5, m6, m7, m15) : He.FnW) = some (("class_count" : Str), ("Pattern.class_count" : Str), defArgs sCount0, FuncBody.stmts (defBody sCount0), defScope sCount0, mainGlobals, ([] : List (Str × Addr)), builtinsNs) := e
      simp only [Option.some.injEq, Prod.mk.injEq] at ee
      obtain ⟨a1, a2, a3, a4, a5, a6, a7, a8⟩ := ee
      subst a1 a2 a3 a4 a5 a6 a7 a8
      obtain ⟨l1, l2⟩ := b2 (show (PySem.W.codeIn K m13 "Pattern.class_count" && (He.dflB K m8 [] && He.kwdB K m9 [])) = true from c2)
      obtain ⟨l3, l4⟩ := b2 l2
      exact ⟨_, ⟨kc, kd, m8, m9, m10, m11, m12, m13, m14, ks, rfl, hq, l1, He.dflB_ok l3, He.kwdB_ok l4⟩, kp⟩
    | _ => cases e
theorem tB0_ok {K : PySem.W.Frag} (h : tB0 K = true) (H : Hp) : SqK K H (tA K) [.int 0, .int 0] := by
  unfold tB0 at h
  split at h
  · rename_i c dd its n sl e
    obtain ⟨h1, h2⟩ := b2 h
    obtain ⟨h3, h4⟩ := b2 h2
    have ec := of_decide_eq_true h1
    subst ec
    exact .inr ⟨_, its, n, e, rfl, rfl, of_decide_eq_true h3, He.relAll_ok h4⟩
  · cases h
section
variable {P : Program} {w : World} {K : PySem.W.Frag} {mg : Str → Option Value} {base : Heap}
theorem SaysM.all (c : SaysM K) : ((fa.all fun f => f.ok K) && (restB K && fn.all fun d => d.ok K)) = true := congrArg (fun z : AlM => z.1) c
theorem SaysM.fact_ (c : SaysM K) (i : Nat) {f : He.Fa} (h : fa[i]? = some f) : f.ok K = true := List.all_eq_true.mp (b2 c.all).1 f (List.mem_of_getElem? h)
theorem SaysM.rest (c : SaysM K) : restB K = true := (b2 (b2 c.all).2).1
theorem SaysM.prop (c : SaysM K) : gW K = valM.2.2 := congrArg (fun z : AlM => z.2.2) c
theorem SaysM.def_ (c : SaysM K) (i : Nat) {d : He.DefD} (h : fn[i]? = some d) : ∃ fd, FunD K d.name d.qual d.params d.body d.scope (d.dvs K) (d.kws K) (He.fAd K d.at_) fd := by
  have c2 := (b2 (b2 c.all).2).2
  have e : fn.map (fun d => He.fnW K d.at_) = fn.map He.DefD.val := congrArg (fun z : AlM => z.2.1) c
  have e2 : (fn.map fun d => He.fnW K d.at_)[i]? = (fn.map He.DefD.val)[i]? := by rw [e]
  rw [List.getElem?_map, List.getElem?_map, h] at e2
  exact He.DefD.funD (Option.some.inj e2) (List.all_eq_true.mp c2 d (List.mem_of_getElem? h))
theorem facts {h : Heap} {f : Addr} (X : K.In h) (G : h.Ns mainGlobals mg) (hfa : mg ("law" : Str) = some (.ref f)) (c : SaysM K) :
    ∃ fd : FuncData, (∀ (s : Shared) (v : Value), BindsTo s fd ⟨[v], []⟩ [("_law_script", v)]) ∧ ∀ base : Heap, K.In base → base.Ns mainGlobals mg → FnOk P w K mg base CX0 10 f fd ["_law_script"] (spLaw K) := by
  have z_int : mg "int" = none := He.free_ok X G (c.fact_ 0 (f := .free "int") rfl)
  have z_bool : mg "bool" = none := He.free_ok X G (c.fact_ 1 (f := .free "bool") rfl)
  have z_isinstance : mg "isinstance" = none := He.free_ok X G (c.fact_ 2 (f := .free "isinstance") rfl)
  have z_str : mg "str" = none := He.free_ok X G (c.fact_ 3 (f := .free "str") rfl)
  have z_len : mg "len" = none := He.free_ok X G (c.fact_ 4 (f := .free "len") rfl)
  have z_list : mg "list" = none := He.free_ok X G (c.fact_ 5 (f := .free "list") rfl)
  have z_tuple : mg "tuple" = none := He.free_ok X G (c.fact_ 6 (f := .free "tuple") rfl)
  have z_enumerate : mg "enumerate" = none := He.free_ok X G (c.fact_ 7 (f := .free "enumerate") rfl)
  have z_range : mg "range" = none := He.free_ok X G (c.fact_ 8 (f := .free "range") rfl)
  have z_abs : mg "abs" = none := He.free_ok X G (c.fact_ 9 (f := .free "abs") rfl)
  have z_type : mg "type" = none := He.free_ok X G (c.fact_ 10 (f := .free "type") rfl)
  have z_min : mg "min" = none := He.free_ok X G (c.fact_ 11 (f := .free "min") rfl)
  have z_max : mg "max" = none := He.free_ok X G (c.fact_ 12 (f := .free "max") rfl)
  have z_sum : mg "sum" = none := He.free_ok X G (c.fact_ 13 (f := .free "sum") rfl)
  have g_is_whole : mg "is_whole" = some (.ref (He.ga K "is_whole")) := He.glo_ok X G (c.fact_ 14 (f := .glo "is_whole") rfl)
  have g_is_kind : mg "is_kind" = some (.ref (He.ga K "is_kind")) := He.glo_ok X G (c.fact_ 15 (f := .glo "is_kind") rfl)
  have g_is_sequence : mg "is_sequence" = some (.ref (He.ga K "is_sequence")) := He.glo_ok X G (c.fact_ 16 (f := .glo "is_sequence") rfl)
  have g__entries_fault : mg "_entries_fault" = some (.ref (He.ga K "_entries_fault")) := He.glo_ok X G (c.fact_ 17 (f := .glo "_entries_fault") rfl)
  have g_is_mark : mg "is_mark" = some (.ref (He.ga K "is_mark")) := He.glo_ok X G (c.fact_ 18 (f := .glo "is_mark") rfl)
  have g__pattern_of : mg "_pattern_of" = some (.ref (He.ga K "_pattern_of")) := He.glo_ok X G (c.fact_ 19 (f := .glo "_pattern_of") rfl)
  have g__check_lives : mg "_check_lives" = some (.ref (He.ga K "_check_lives")) := He.glo_ok X G (c.fact_ 20 (f := .glo "_check_lives") rfl)
  have g__check_borne : mg "_check_borne" = some (.ref (He.ga K "_check_borne")) := He.glo_ok X G (c.fact_ 21 (f := .glo "_check_borne") rfl)
  have g__law_mix : mg "_law_mix" = some (.ref (He.ga K "_law_mix")) := He.glo_ok X G (c.fact_ 22 (f := .glo "_law_mix") rfl)
  have g__law_hand : mg "_law_hand" = some (.ref (He.ga K "_law_hand")) := He.glo_ok X G (c.fact_ 23 (f := .glo "_law_hand") rfl)
  have g__law_draw : mg "_law_draw" = some (.ref (He.ga K "_law_draw")) := He.glo_ok X G (c.fact_ 24 (f := .glo "_law_draw") rfl)
  have g__law_pick : mg "_law_pick" = some (.ref (He.ga K "_law_pick")) := He.glo_ok X G (c.fact_ 25 (f := .glo "_law_pick") rfl)
  have g__law_classes : mg "_law_classes" = some (.ref (He.ga K "_law_classes")) := He.glo_ok X G (c.fact_ 26 (f := .glo "_law_classes") rfl)
  have g__law_many : mg "_law_many" = some (.ref (He.ga K "_law_many")) := He.glo_ok X G (c.fact_ 27 (f := .glo "_law_many") rfl)
  have g__law_entries : mg "_law_entries" = some (.ref (He.ga K "_law_entries")) := He.glo_ok X G (c.fact_ 28 (f := .glo "_law_entries") rfl)
  have g__law_drawn_lives : mg "_law_drawn_lives" = some (.ref (He.ga K "_law_drawn_lives")) := He.glo_ok X G (c.fact_ 29 (f := .glo "_law_drawn_lives") rfl)
  have g__law_drawn_marks : mg "_law_drawn_marks" = some (.ref (He.ga K "_law_drawn_marks")) := He.glo_ok X G (c.fact_ 30 (f := .glo "_law_drawn_marks") rfl)
  have g__law_person_word : mg "_law_person_word" = some (.ref (He.ga K "_law_person_word")) := He.glo_ok X G (c.fact_ 31 (f := .glo "_law_person_word") rfl)
  have g__law_couple_word : mg "_law_couple_word" = some (.ref (He.ga K "_law_couple_word")) := He.glo_ok X G (c.fact_ 32 (f := .glo "_law_couple_word") rfl)
  have g__law_first : mg "_law_first" = some (.ref (He.ga K "_law_first")) := He.glo_ok X G (c.fact_ 33 (f := .glo "_law_first") rfl)
  have g__law_spoilt : mg "_law_spoilt" = some (.ref (He.ga K "_law_spoilt")) := He.glo_ok X G (c.fact_ 34 (f := .glo "_law_spoilt") rfl)
  have g__law_refusals : mg "_law_refusals" = some (.ref (He.ga K "_law_refusals")) := He.glo_ok X G (c.fact_ 35 (f := .glo "_law_refusals") rfl)
  have g__law_person_right : mg "_law_person_right" = some (.ref (He.ga K "_law_person_right")) := He.glo_ok X G (c.fact_ 36 (f := .glo "_law_person_right") rfl)
  have g__law_couple_right : mg "_law_couple_right" = some (.ref (He.ga K "_law_couple_right")) := He.glo_ok X G (c.fact_ 37 (f := .glo "_law_couple_right") rfl)
  have g_law : mg "law" = some (.ref (He.ga K "law")) := He.glo_ok X G (c.fact_ 38 (f := .glo "law") rfl)
  have g_Pattern : mg "Pattern" = some (.ref (He.ga K "Pattern")) := He.glo_ok X G (c.fact_ 39 (f := .glo "Pattern") rfl)
  have g_PersonState : mg "PersonState" = some (.ref (He.ga K "PersonState")) := He.glo_ok X G (c.fact_ 40 (f := .glo "PersonState") rfl)
  have g_CoupleState : mg "CoupleState" = some (.ref (He.ga K "CoupleState")) := He.glo_ok X G (c.fact_ 41 (f := .glo "CoupleState") rfl)
  have g_BadPattern : mg "BadPattern" = some (.ref (He.ga K "BadPattern")) := He.glo_ok X G (c.fact_ 42 (f := .glo "BadPattern") rfl)
  have g_BadState : mg "BadState" = some (.ref (He.ga K "BadState")) := He.glo_ok X G (c.fact_ 43 (f := .glo "BadState") rfl)
  have g_CustomError : mg "CustomError" = some (.ref (He.ga K "CustomError")) := He.glo_ok X G (c.fact_ 44 (f := .glo "CustomError") rfl)
  have g_KINDS : mg "KINDS" = some (.ref (He.ga K "KINDS")) := He.glo_ok X G (c.fact_ 45 (f := .glo "KINDS") rfl)
  have g_MOST_PLACES : ∃ t, mg "MOST_PLACES" = some (.int 40 t) := He.int_ok X G (c.fact_ 46 (f := .int "MOST_PLACES" 40) rfl)
  have g_MOST_MARK : ∃ t, mg "MOST_MARK" = some (.int 1000 t) := He.int_ok X G (c.fact_ 47 (f := .int "MOST_MARK" 1000) rfl)
  have g_MOST_NUMBER : ∃ t, mg "MOST_NUMBER" = some (.int 3 t) := He.int_ok X G (c.fact_ 48 (f := .int "MOST_NUMBER" 3) rfl)
  have g_NEVER_BORNE : ∃ t, mg "NEVER_BORNE" = some (.int 0 t) := He.int_ok X G (c.fact_ 49 (f := .int "NEVER_BORNE" 0) rfl)
  have g_NOW_BORNE : ∃ t, mg "NOW_BORNE" = some (.int 2 t) := He.int_ok X G (c.fact_ 50 (f := .int "NOW_BORNE" 2) rfl)
  obtain ⟨d_is_whole, F_is_whole⟩ := c.def_ 0 rfl
  obtain ⟨d_is_kind, F_is_kind⟩ := c.def_ 1 rfl
  obtain ⟨d_is_sequence, F_is_sequence⟩ := c.def_ 2 rfl
  obtain ⟨d__entries_fault, F__entries_fault⟩ := c.def_ 3 rfl
  obtain ⟨d_is_mark, F_is_mark⟩ := c.def_ 4 rfl
  obtain ⟨d__pattern_of, F__pattern_of⟩ := c.def_ 5 rfl
  obtain ⟨d__check_lives, F__check_lives⟩ := c.def_ 6 rfl
  obtain ⟨d__check_borne, F__check_borne⟩ := c.def_ 7 rfl
  obtain ⟨d__law_mix, F__law_mix⟩ := c.def_ 8 rfl
  obtain ⟨d__law_hand, F__law_hand⟩ := c.def_ 9 rfl
  obtain ⟨d__law_draw, F__law_draw⟩ := c.def_ 10 rfl
  obtain ⟨d__law_pick, F__law_pick⟩ := c.def_ 11 rfl
  obtain ⟨d__law_classes, F__law_classes⟩ := c.def_ 12 rfl
  obtain ⟨d__law_many, F__law_many⟩ := c.def_ 13 rfl
  obtain ⟨d__law_entries, F__law_entries⟩ := c.def_ 14 rfl
  obtain ⟨d__law_drawn_lives, F__law_drawn_lives⟩ := c.def_ 15 rfl
  obtain ⟨d__law_drawn_marks, F__law_drawn_marks⟩ := c.def_ 16 rfl
  obtain ⟨d__law_person_word, F__law_person_word⟩ := c.def_ 17 rfl
  obtain ⟨d__law_couple_word, F__law_couple_word⟩ := c.def_ 18 rfl
  obtain ⟨d__law_first, F__law_first⟩ := c.def_ 19 rfl
  obtain ⟨d__law_spoilt, F__law_spoilt⟩ := c.def_ 20 rfl
  obtain ⟨d__law_refusals, F__law_refusals⟩ := c.def_ 21 rfl
  obtain ⟨d__law_person_right, F__law_person_right⟩ := c.def_ 22 rfl
  obtain ⟨d__law_couple_right, F__law_couple_right⟩ := c.def_ 23 rfl
  obtain ⟨d_law, F_law⟩ := c.def_ 24 rfl
  obtain ⟨d_BadPattern__init__, F_BadPattern__init__⟩ := c.def_ 25 rfl
  obtain ⟨d_BadState__init__, F_BadState__init__⟩ := c.def_ 26 rfl
  obtain ⟨d_Pattern__init__, F_Pattern__init__⟩ := c.def_ 27 rfl
  obtain ⟨d_PersonState__init__, F_PersonState__init__⟩ := c.def_ 28 rfl
  obtain ⟨d_PersonState__eq__, F_PersonState__eq__⟩ := c.def_ 29 rfl
  obtain ⟨d_CoupleState__init__, F_CoupleState__init__⟩ := c.def_ 30 rfl
  obtain ⟨d_CoupleStatemark_of, F_CoupleStatemark_of⟩ := c.def_ 31 rfl
  obtain ⟨d_CoupleState__eq__, F_CoupleState__eq__⟩ := c.def_ 32 rfl
  have b_is_whole : Binds K d_is_whole ["thing", "low", "high"] [] := FunD.bindsN F_is_whole fun _ _ _ _ _ _ us hl => match us, hl with | [_, _, _], _ => rfl
  have b_is_kind : Binds K d_is_kind ["thing"] [] := FunD.bindsN F_is_kind fun _ _ _ _ _ _ us hl => match us, hl with | [_], _ => rfl
  have b_is_sequence : Binds K d_is_sequence ["thing"] [] := FunD.bindsN F_is_sequence fun _ _ _ _ _ _ us hl => match us, hl with | [_], _ => rfl
  have b__entries_fault : Binds K d__entries_fault ["entries"] [] := FunD.bindsN F__entries_fault fun _ _ _ _ _ _ us hl => match us, hl with | [_], _ => rfl
  have b_is_mark : Binds K d_is_mark ["thing"] [] := FunD.bindsN F_is_mark fun _ _ _ _ _ _ us hl => match us, hl with | [_], _ => rfl
  have b__pattern_of : Binds K d__pattern_of ["names"] [] := FunD.bindsN F__pattern_of fun _ _ _ _ _ _ us hl => match us, hl with | [_], _ => rfl
  have b__check_lives : Binds K d__check_lives ["lives"] [] := FunD.bindsN F__check_lives fun _ _ _ _ _ _ us hl => match us, hl with | [_], _ => rfl
  have b__check_borne : Binds K d__check_borne ["borne", "classes"] [] := FunD.bindsN F__check_borne fun _ _ _ _ _ _ us hl => match us, hl with | [_, _], _ => rfl
  have b__law_mix : Binds K d__law_mix ["_law_number", "_law_turn"] [] := FunD.bindsN F__law_mix fun _ _ _ _ _ _ us hl => match us, hl with | [_, _], _ => rfl
  have b__law_hand : Binds K d__law_hand ["_law_script"] [] := FunD.bindsN F__law_hand fun _ _ _ _ _ _ us hl => match us, hl with | [_], _ => rfl
  have b__law_draw : Binds K d__law_draw ["_law_hand_here", "_law_many_here"] [] := FunD.bindsN F__law_draw fun _ _ _ _ _ _ us hl => match us, hl with | [_, _], _ => rfl
  have b__law_pick : Binds K d__law_pick ["_law_hand_here", "_law_things"] [] := FunD.bindsN F__law_pick fun _ _ _ _ _ _ us hl => match us, hl with | [_, _], _ => rfl
  have b__law_classes : Binds K d__law_classes ["_law_things"] [] := FunD.bindsN F__law_classes fun _ _ _ _ _ _ us hl => match us, hl with | [_], _ => rfl
  have b__law_many : Binds K d__law_many ["_law_names"] [] := FunD.bindsN F__law_many fun _ _ _ _ _ _ us hl => match us, hl with | [_], _ => rfl
  have b__law_entries : Binds K d__law_entries ["_law_hand_here"] [] := FunD.bindsN F__law_entries fun _ _ _ _ _ _ us hl => match us, hl with | [_], _ => rfl
  have b__law_drawn_lives : Binds K d__law_drawn_lives ["_law_hand_here"] [] := FunD.bindsN F__law_drawn_lives fun _ _ _ _ _ _ us hl => match us, hl with | [_], _ => rfl
  have b__law_drawn_marks : Binds K d__law_drawn_marks ["_law_hand_here", "_law_many_here"] [] := FunD.bindsN F__law_drawn_marks fun _ _ _ _ _ _ us hl => match us, hl with | [_, _], _ => rfl
  have b__law_person_word : Binds K d__law_person_word ["_law_kind", "_law_names", "_law_lives", "_law_worth"] [] := FunD.bindsN F__law_person_word fun _ _ _ _ _ _ us hl => match us, hl with | [_, _, _, _], _ => rfl
  have b__law_couple_word : Binds K d__law_couple_word ["_law_names", "_law_lives", "_law_sons", "_law_daughters", "_law_pairs", "_law_both"] [] := FunD.bindsN F__law_couple_word fun _ _ _ _ _ _ us hl => match us, hl with | [_, _, _, _, _, _], _ => rfl
  have b__law_first : Binds K d__law_first ["_law_words"] [] := FunD.bindsN F__law_first fun _ _ _ _ _ _ us hl => match us, hl with | [_], _ => rfl
  have b__law_spoilt : Binds K d__law_spoilt ["_law_hand_here", "_law_good", "_law_bad", "_law_word"] [] := FunD.bindsN F__law_spoilt fun _ _ _ _ _ _ us hl => match us, hl with | [_, _, _, _], _ => rfl
  have b__law_refusals : Binds K d__law_refusals ["_law_hand_here", "_law_names", "_law_lives", "_law_pairs"] [] := FunD.bindsN F__law_refusals fun _ _ _ _ _ _ us hl => match us, hl with | [_, _, _, _], _ => rfl
  have b__law_person_right : Binds K d__law_person_right ["_law_hand_here", "_law_names", "_law_lives"] [] := FunD.bindsN F__law_person_right fun _ _ _ _ _ _ us hl => match us, hl with | [_, _, _], _ => rfl
  have b__law_couple_right : Binds K d__law_couple_right ["_law_names", "_law_lives", "_law_sons", "_law_daughters", "_law_pairs"] [] := FunD.bindsN F__law_couple_right fun _ _ _ _ _ _ us hl => match us, hl with | [_, _, _, _, _], _ => rfl
  have b_BadPattern__init__ : Binds K d_BadPattern__init__ ["self", "index", "what"] [] := FunD.bindsN F_BadPattern__init__ fun _ _ _ _ _ _ us hl => match us, hl with | [_, _, _], _ => rfl
  have b_BadState__init__ : Binds K d_BadState__init__ ["self", "what"] [] := FunD.bindsN F_BadState__init__ fun _ _ _ _ _ _ us hl => match us, hl with | [_, _], _ => rfl
  have b_Pattern__init__ : Binds K d_Pattern__init__ ["self", "entries"] [] := FunD.bindsN F_Pattern__init__ fun _ _ _ _ _ _ us hl => match us, hl with | [_, _], _ => rfl
  have b_PersonState__init__ : Binds K d_PersonState__init__ ["self", "kind", "names", "lives", "mark"] [] := by
    obtain ⟨ds, v, b⟩ := FunD.binds1 (ps := ["self", "kind", "names", "lives", "mark"]) F_PersonState__init__ 5 1 (List.cons_ne_nil _ _) rfl fun T kV doc pm an cdv ct us its h1 h2 => match us, h1, its, h2 with | [_, _, _, _, _], _, [_], _ => ⟨_, rfl, rfl⟩
    have e : ds = [] := by
      have z := v.length
      exact List.eq_nil_of_length_eq_zero z.symm
    subst e
    exact b
  have b_PersonState__eq__ : Binds K d_PersonState__eq__ ["self", "other"] [] := FunD.bindsN F_PersonState__eq__ fun _ _ _ _ _ _ us hl => match us, hl with | [_, _], _ => rfl
  have b_CoupleState__init__ : Binds K d_CoupleState__init__ ["self", "names", "lives", "sons", "daughters", "borne", "marks"] [] := by
    obtain ⟨ds, v, b⟩ := FunD.binds1 (ps := ["self", "names", "lives", "sons", "daughters", "borne", "marks"]) F_CoupleState__init__ 7 1 (List.cons_ne_nil _ _) rfl fun T kV doc pm an cdv ct us its h1 h2 => match us, h1, its, h2 with | [_, _, _, _, _, _, _], _, [_], _ => ⟨_, rfl, rfl⟩
    have e : ds = [] := by
      have z := v.length
      exact List.eq_nil_of_length_eq_zero z.symm
    subst e
    exact b
  obtain ⟨ds5, v5, b5⟩ := FunD.binds1 (ps := ["self", "names", "lives", "sons", "daughters", "borne", "marks"]) F_CoupleState__init__ 6 0 (List.cons_ne_nil _ _) rfl fun T kV doc pm an cdv ct us its h1 h2 => match us, h1, its, h2 with | [_, _, _, _, _, _], _, [_], _ => ⟨_, rfl, rfl⟩
  have b_CoupleStatemark_of : Binds K d_CoupleStatemark_of ["self", "class_number"] [] := FunD.bindsN F_CoupleStatemark_of fun _ _ _ _ _ _ us hl => match us, hl with | [_, _], _ => rfl
  have b_CoupleState__eq__ : Binds K d_CoupleState__eq__ ["self", "other"] [] := FunD.bindsN F_CoupleState__eq__ fun _ _ _ _ _ _ us hl => match us, hl with | [_, _], _ => rfl
  have TPattern : PatC K (He.ga K "Pattern") := ⟨(He.cls_ok (c.fact_ 51 (f := .cls "Pattern") rfl)), (He.noat_ok (c.fact_ 53 (f := .noat "Pattern" "entries") rfl)), (He.noat_ok (c.fact_ 54 (f := .noat "Pattern" "_classes") rfl))⟩
  have TPersonState : PsC K (He.ga K "PersonState") := ⟨(He.cls_ok (c.fact_ 55 (f := .cls "PersonState") rfl)), (He.noat_ok (c.fact_ 57 (f := .noat "PersonState" "kind") rfl)), (He.noat_ok (c.fact_ 58 (f := .noat "PersonState" "names") rfl)), (He.noat_ok (c.fact_ 59 (f := .noat "PersonState" "lives") rfl)), (He.noat_ok (c.fact_ 60 (f := .noat "PersonState" "mark") rfl))⟩
  have TCoupleState : CsC K (He.ga K "CoupleState") := ⟨(He.cls_ok (c.fact_ 61 (f := .cls "CoupleState") rfl)), (He.noat_ok (c.fact_ 63 (f := .noat "CoupleState" "names") rfl)), (He.noat_ok (c.fact_ 64 (f := .noat "CoupleState" "lives") rfl)), (He.noat_ok (c.fact_ 65 (f := .noat "CoupleState" "sons") rfl)), (He.noat_ok (c.fact_ 66 (f := .noat "CoupleState" "daughters") rfl)), (He.noat_ok (c.fact_ 67 (f := .noat "CoupleState" "borne") rfl)), (He.noat_ok (c.fact_ 68 (f := .noat "CoupleState" "marks") rfl)), (He.noat_ok (c.fact_ 69 (f := .noat "CoupleState" "classes") rfl)), (He.noat_ok (c.fact_ 70 (f := .noat "CoupleState" "is_new") rfl))⟩
  obtain ⟨r1, r⟩ := b2 c.rest
  obtain ⟨r2, r⟩ := b2 r
  obtain ⟨r3, r⟩ := b2 r
  obtain ⟨r4, r⟩ := b2 r
  obtain ⟨r5, r⟩ := b2 r
  obtain ⟨r6, r⟩ := b2 r
  obtain ⟨r7, r⟩ := b2 r
  obtain ⟨r8, r⟩ := b2 r
  obtain ⟨r9, r10⟩ := b2 r
  have bP := badB_ok r1
  have bS := badB_ok r2
  obtain ⟨d_count, F_count⟩ := funG c.prop r8
  have b_count : Binds K d_count ["self"] [] := FunD.bindsN F_count fun _ _ _ _ _ _ us hl => match us, hl with | [_], _ => rfl
  obtain ⟨p1, p2⟩ := b2 r5
  obtain ⟨p2, p3⟩ := b2 p2
  obtain ⟨p3, p4⟩ := b2 p3
  obtain ⟨q1, q2⟩ := b2 r6
  obtain ⟨q2, q3⟩ := b2 q2
  obtain ⟨q3, q4⟩ := b2 q3
  have e := hfa.symm.trans g_law
  cases e
  have b_law := FunD.bindsA (ps := ["_law_script"]) F_law fun _ _ _ _ _ _ us hl => match us, hl with | [_], _ => rfl
  refine ⟨d_law, fun s v => b_law s [v] rfl, fun base KX KG => ?_⟩
  have D_is_whole : Df P w K mg base "is_whole" 1 ["thing", "low", "high"] spWhole (He.ga K "is_whole") d_is_whole := ⟨g_is_whole, ok_whole F_is_whole z_int z_bool z_isinstance, b_is_whole, F_is_whole.kp⟩
  have D_is_kind : Df P w K mg base "is_kind" 1 ["thing"] spKind (He.ga K "is_kind") d_is_kind := ⟨g_is_kind, ok_kind F_is_kind z_str z_isinstance g_KINDS (fun H => He.tupB_ok r10 H), b_is_kind, F_is_kind.kp⟩
  have D_is_sequence : Df P w K mg base "is_sequence" 1 ["thing"] spSeq (He.ga K "is_sequence") d_is_sequence := ⟨g_is_sequence, ok_seq F_is_sequence z_list z_tuple z_isinstance, b_is_sequence, F_is_sequence.kp⟩
  have D_seq2 : Df P w K mg base "is_sequence" 1 ["thing"] (spSeq2 K) (He.ga K "is_sequence") d_is_sequence := ⟨g_is_sequence, ok_seq2 F_is_sequence z_list z_tuple z_isinstance, b_is_sequence, F_is_sequence.kp⟩
  have D_is_mark : Df P w K mg base "is_mark" 2 ["thing"] spMark (He.ga K "is_mark") d_is_mark := ⟨g_is_mark, ok_mark F_is_mark g_MOST_MARK D_is_whole, b_is_mark, F_is_mark.kp⟩
  have D__entries_fault : Df P w K mg base "_entries_fault" 2 ["entries"] spEF (He.ga K "_entries_fault") d__entries_fault := ⟨g__entries_fault, ok_ef F__entries_fault z_len z_enumerate z_isinstance z_int z_bool g_MOST_PLACES D_is_sequence, b__entries_fault, F__entries_fault.kp⟩
  have XP : ErrC P w K mg base "BadPattern" ["self", "index", "what"] spPatErr (He.ga K "BadPattern") _ d_BadPattern__init__ := ⟨bP.ox, bP.ini, bP.ty, g_BadPattern, ok_patErr F_BadPattern__init__ bP.ox (He.noat_ok (c.fact_ 72 (f := .noat "BadPattern" "index") rfl)) (He.noat_ok (c.fact_ 73 (f := .noat "BadPattern" "what") rfl)), b_BadPattern__init__⟩
  have XS0 : ErrC P w K mg base "BadState" ["self", "what"] spStErr (He.ga K "BadState") _ d_BadState__init__ := ⟨bS.ox, bS.ini, bS.ty, g_BadState, ok_stErr F_BadState__init__ bS.ox (He.noat_ok (c.fact_ 74 (f := .noat "BadState" "what") rfl)), b_BadState__init__⟩
  have XS : ErrH P w K mg base "BadState" ["self", "what"] spStErr (He.ga K "BadState") _ d_BadState__init__ := ⟨XS0, ok_stErrH F_BadState__init__ bS.ox (He.noat_ok (c.fact_ 74 (f := .noat "BadState" "what") rfl))⟩
  have MP : PatMk P w K mg base (He.ga K "Pattern") (He.ga K "BadPattern") _ d_Pattern__init__ := ⟨(He.mkr_ok (c.fact_ 52 (f := .mkr "Pattern") rfl)), g_Pattern, ok_pat F_Pattern__init__ TPattern z_tuple z_max D__entries_fault XP, b_Pattern__init__, g_BadPattern, (He.exm_ok (c.fact_ 75 (f := .exm "BadPattern" "BadPattern" true) rfl))⟩
  have D__pattern_of : DfX P w K mg base "_pattern_of" 5 ["names"] (spPO (He.ga K "Pattern") (He.ga K "BadState")) (He.ga K "_pattern_of") d__pattern_of := ⟨g__pattern_of, ok_po F__pattern_of MP XS, b__pattern_of, F__pattern_of.kp⟩
  have D__check_lives : DfX P w K mg base "_check_lives" 3 ["lives"] (spLv (He.ga K "BadState")) (He.ga K "_check_lives") d__check_lives := ⟨g__check_lives, ok_cl F__check_lives z_isinstance z_str D_is_sequence XS, b__check_lives, F__check_lives.kp⟩
  have D__check_borne : DfX P w K mg base "_check_borne" 3 ["borne", "classes"] (spBo (He.ga K "BadState")) (He.ga K "_check_borne") d__check_borne := ⟨g__check_borne, ok_cb F__check_borne z_len g_NEVER_BORNE g_NOW_BORNE D_is_sequence D_is_whole XS, b__check_borne, F__check_borne.kp⟩
  have PR : CountP P w K mg base (He.ga K "Pattern") (pA K) (gA K) d_count := ⟨proB_ok r7, ok_count F_count TPattern, b_count⟩
  have OPS := ok_ps (P := P) (w := w) (mg := mg) (base := base) F_PersonState__init__ TPersonState TPattern z_tuple D_is_kind D__pattern_of D__check_lives D_is_mark XS
  have OCS := ok_cs (P := P) (w := w) (mg := mg) (base := base) F_CoupleState__init__ TCoupleState TPattern z_tuple z_len g_MOST_NUMBER g_NEVER_BORNE PR D_seq2 D_is_whole D__pattern_of D__check_lives D__check_borne D_is_mark XS
  have MPS : MkX P w K mg base "PersonState" 6 ["self", "kind", "names", "lives", "mark"] (spPS (He.ga K "PersonState") (He.ga K "BadState")) (He.ga K "PersonState") _ d_PersonState__init__ := ⟨(He.mkr_ok (c.fact_ 56 (f := .mkr "PersonState") rfl)), g_PersonState, OPS, b_PersonState__init__⟩
  have MCX : MkX P w K mg base "CoupleState" 6 ["self", "names", "lives", "sons", "daughters", "borne", "marks"] (spCS K (He.ga K "CoupleState") (He.ga K "BadState")) (He.ga K "CoupleState") _ d_CoupleState__init__ := ⟨(He.mkr_ok (c.fact_ 62 (f := .mkr "CoupleState") rfl)), g_CoupleState, OCS, b_CoupleState__init__⟩
  have MC : MkC P w K mg base (He.ga K "CoupleState") (He.ga K "BadState") _ (tA K) d_CoupleState__init__ ds5 := ⟨MCX, b5, v5, tB0_ok r9⟩
  have EP : EqM P w K mg base (He.ga K "PersonState") (spPEq K (He.ga K "PersonState")) _ d_PersonState__eq__ := ⟨ok_peq F_PersonState__eq__ TPersonState z_type, of_decide_eq_true p1, p2, b_PersonState__eq__, p3, p4⟩
  have EC : EqM P w K mg base (He.ga K "CoupleState") (spCEq K (He.ga K "CoupleState")) _ d_CoupleState__eq__ := ⟨ok_ceq F_CoupleState__eq__ TCoupleState z_type, of_decide_eq_true q1, q2, b_CoupleState__eq__, q3, q4⟩
  have MO : MoM P w K mg base (He.ga K "CoupleState") _ d_CoupleStatemark_of := ⟨(He.meth_ok (c.fact_ 71 (f := .meth "CoupleState" "mark_of") rfl)), ok_mo F_CoupleStatemark_of TCoupleState, b_CoupleStatemark_of⟩
  have SX : StX P w K mg (He.ga K "BadState") (He.ga K "CustomError") := ⟨g_BadState, bS.xf, bS.xc r3, (He.noat_ok (c.fact_ 74 (f := .noat "BadState" "what") rfl)), (He.exm_ok (c.fact_ 76 (f := .exm "BadState" "BadState" true) rfl)), g_CustomError, of_decide_eq_true r4⟩
  have D__law_draw : Df P w K mg base "_law_draw" 2 ["_law_hand_here", "_law_many_here"] spDraw (He.ga K "_law_draw") d__law_draw := ⟨g__law_draw, ok_draw F__law_draw z_int z_len F__law_mix g__law_mix, b__law_draw, F__law_draw.kp⟩
  have D__law_hand : Df P w K mg base "_law_hand" 1 ["_law_script"] (spHand K) (He.ga K "_law_hand") d__law_hand := ⟨g__law_hand, ok_hand F__law_hand z_int z_abs z_enumerate, b__law_hand, F__law_hand.kp⟩
  have D__law_pick : Df P w K mg base "_law_pick" 3 ["_law_hand_here", "_law_things"] (spPick K) (He.ga K "_law_pick") d__law_pick := ⟨g__law_pick, ok_pick F__law_pick z_len D__law_draw, b__law_pick, F__law_pick.kp⟩
  have D__law_classes : Df P w K mg base "_law_classes" 1 ["_law_things"] (spCls K) (He.ga K "_law_classes") d__law_classes := ⟨g__law_classes, ok_cls F__law_classes z_len z_tuple, b__law_classes, F__law_classes.kp⟩
  have D__law_many : Df P w K mg base "_law_many" 1 ["_law_names"] (spMany K) (He.ga K "_law_many") d__law_many := ⟨g__law_many, ok_many F__law_many z_len z_range, b__law_many, F__law_many.kp⟩
  have D__law_entries : Df P w K mg base "_law_entries" 4 ["_law_hand_here"] spEn (He.ga K "_law_entries") d__law_entries := ⟨g__law_entries, ok_en F__law_entries z_range z_list D__law_draw D__law_pick D__law_classes, b__law_entries, F__law_entries.kp⟩
  have D__law_drawn_lives : Df P w K mg base "_law_drawn_lives" 4 ["_law_hand_here"] spLvs (He.ga K "_law_drawn_lives") d__law_drawn_lives := ⟨g__law_drawn_lives, ok_lvs F__law_drawn_lives z_range D__law_draw D__law_pick, b__law_drawn_lives, F__law_drawn_lives.kp⟩
  have D__law_drawn_marks : Df P w K mg base "_law_drawn_marks" 3 ["_law_hand_here", "_law_many_here"] spMks (He.ga K "_law_drawn_marks") d__law_drawn_marks := ⟨g__law_drawn_marks, ok_mks F__law_drawn_marks z_range D__law_draw, b__law_drawn_marks, F__law_drawn_marks.kp⟩
  have D__law_person_word : Df P w K mg base "_law_person_word" 8 ["_law_kind", "_law_names", "_law_lives", "_law_worth"] spPW (He.ga K "_law_person_word") d__law_person_word := ⟨g__law_person_word, ok_pw F__law_person_word z_isinstance SX MPS, b__law_person_word, F__law_person_word.kp⟩
  have D__law_couple_word : Df P w K mg base "_law_couple_word" 8 ["_law_names", "_law_lives", "_law_sons", "_law_daughters", "_law_pairs", "_law_both"] (spCW K) (He.ga K "_law_couple_word") d__law_couple_word := ⟨g__law_couple_word, ok_cw F__law_couple_word z_isinstance SX MCX, b__law_couple_word, F__law_couple_word.kp⟩
  have D__law_first : Df P w K mg base "_law_first" 1 ["_law_words"] spFirst (He.ga K "_law_first") d__law_first := ⟨g__law_first, ok_first F__law_first, b__law_first, F__law_first.kp⟩
  have D__law_spoilt : Df P w K mg base "_law_spoilt" 4 ["_law_hand_here", "_law_good", "_law_bad", "_law_word"] (spSpoilt K) (He.ga K "_law_spoilt") d__law_spoilt := ⟨g__law_spoilt, ok_spoilt F__law_spoilt D__law_draw D__law_pick, b__law_spoilt, F__law_spoilt.kp⟩
  have D__law_refusals : Df P w K mg base "_law_refusals" 9 ["_law_hand_here", "_law_names", "_law_lives", "_law_pairs"] spRef (He.ga K "_law_refusals") d__law_refusals := ⟨g__law_refusals, ok_ref F__law_refusals D__law_draw D__law_pick D__law_spoilt D__law_first D__law_person_word D__law_couple_word, b__law_refusals, F__law_refusals.kp⟩
  have D__law_person_right : Df P w K mg base "_law_person_right" 8 ["_law_hand_here", "_law_names", "_law_lives"] spPR (He.ga K "_law_person_right") d__law_person_right := ⟨g__law_person_right, ok_pr (fD := He.ga K "law") (fdD := d_law) F__law_person_right z_list z_tuple z_isinstance z_bool z_min TPersonState D__law_pick MPS EP, b__law_person_right, F__law_person_right.kp⟩
  have D__law_couple_right : Df P w K mg base "_law_couple_right" 8 ["_law_names", "_law_lives", "_law_sons", "_law_daughters", "_law_pairs"] spCR (He.ga K "_law_couple_right") d__law_couple_right := ⟨g__law_couple_right, ok_cr F__law_couple_right z_list z_tuple z_isinstance z_bool z_sum z_range TCoupleState D__law_many MC EC MO, b__law_couple_right, F__law_couple_right.kp⟩
  exact ok_law F_law z_range D__law_hand D__law_draw D__law_many D__law_entries D__law_drawn_lives D__law_drawn_marks D__law_person_right D__law_couple_right D__law_refusals
end
end K35
open PySem PySem.W PySem.Calls PyProof.Rows
set_option maxRecDepth 100000 in
set_option maxHeartbeats 0 in
theorem PySem.Challenge.cw_namesakes_k35_states_made_and_refused_holds : PySem.Challenge.rw_namesakes_k35_states_made_and_refused.Holds := by
  w_on; o_law
  refine HandSHeadRun.head_any (r := OpenLaw.row PySem.Challenge.rw_namesakes_k35_states_made_and_refused) (q := view (OpenLaw.row PySem.Challenge.rw_namesakes_k35_states_made_and_refused).prog [46]) (H := K35.hookM) (ob := K35.ob) (M := 20000) (loose := K35.looseL)
    (d := HandSHeadRun.topDef (OpenLaw.row PySem.Challenge.rw_namesakes_k35_states_made_and_refused).prog 46) (kwd := []) K35.ob_eq
    (by kernel_rfl) (fun s => by kernel_rfl) K35.run (by kernel_rfl) (by kernel_rfl) (by kernel_rfl) (by rfl) (by first | assumption | decide +kernel) (by decide +kernel) ⟨rfl, rfl, rfl, rfl, rfl, by decide +kernel⟩ ?hw ?hc
  case hw => w_witness2
  case hc =>
    refine L2.walk_ofE (l := PySem.Challenge.rw_namesakes_k35_states_made_and_refused) (n := 63) (k := 10) (x := "_law_script") (CX := L2.CX0) rfl (by decide) (by kernel_rfl) ⟨rfl, by decide, by decide⟩ ?F (fun _ _ _ _ z => z)
    intro w mg fa h Y G hmg0
    obtain ⟨K, KX, c⟩ := Y
    have hmg : mg ("law" : PySem.Str) = some (.ref fa) := by
      have e : (HandSHeadRun.topDef (OpenLaw.row PySem.Challenge.rw_namesakes_k35_states_made_and_refused).prog 46).name = ("law" : PySem.Str) := by kernel_rfl
      rw [← e]
      exact hmg0
    obtain ⟨fd, hb, hF⟩ := K35.facts (P := (PySem.Challenge.rw_namesakes_k35_states_made_and_refused).prog) (w := w) KX G hmg c
    exact ⟨K, fd, K35.spLaw K, KX, hb, fun H a ns hl _ hS => ⟨a, ns, rfl, hS, hl, fun _ => rfl⟩, hF⟩
