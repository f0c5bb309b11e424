import PyProof.Rows.All
import Wide.All
import OpenK.AllK
import Wide.FinOn
import KE.KStateDown
import KE.KExcIs
import HandS.ForMost
import HandS.Exc
import HandS.ExcOwn
import HandS.ExcInit
import HandS.ExcField
import HandS.ExcValue
import HandS.IsInst
import HandS.ExcIs
import HandS.Deep
import HandS.Wide
import HandS.Walk
import HandS.Flow
import HandS.Defaults
import HandS.Words
import HandS.WordsList
import HandS.WordsExc
import HandS.TryOnly
import HandS.Head0
import HandS.Head1
import HandS.Head2
import HandS.HeadEnd
import HandS.HeadHook1
import HandS.HeadHook2
import PySem.Challenge.RW_namesakes_k01_whole_rows_judged_and_refu
import HandS.HeadHook3
import HandS.Text
import HandS.More
import HandS.Iter
import HandS.Dict
import HandS.DictSub
import PyProof.EnumMake
import PyProof.Draws
import KE.GoesMore
import KE.KDictList
import PyProof.TupleOfGen
import HandS.Conv
import HandS.TupAny
import HandS.OwnIter
import HandS.IterNext
import HandS.OwnEq
import HandS.Style
set_option Elab.async false
set_option linter.all false
set_option maxRecDepth 100000
set_option maxHeartbeats 4000000
namespace K01
open PySem PySem.Spec PyProof.Rows L2
def top (i : Nat) : Stmt := PySem.Challenge.pw_namesakes_k01_whole_rows_judged_and_refu.main.body.getD i (.Pass ⟨0, 0, 0, 0⟩)
abbrev FnP (K : PySem.W.Frag) (x : Str) (st : Stmt) (f : Addr) (fd : FuncData) : Prop := FunD K x x (defArgs st) (defBody st) (defScope st) [] [] f fd
abbrev sPWall : Stmt := top 0
abbrev sPIsWhole : Stmt := top 9
abbrev sPIsName : Stmt := top 10
abbrev sPIsLabel : Stmt := top 11
abbrev sPIsKind : Stmt := top 12
abbrev sPIsSequence : Stmt := top 13
abbrev sPIsRow : Stmt := top 14
abbrev sPAreNames : Stmt := top 15
abbrev sPRowFault : Stmt := top 17
abbrev sPComingFault : Stmt := top 18
abbrev sPWeddingFault : Stmt := top 19
abbrev sPBirthFault : Stmt := top 20
abbrev sPWriteRows : Stmt := top 21
abbrev sPRecordFault : Stmt := top 22
abbrev sPAsTuples : Stmt := top 23
abbrev sMix : Stmt := top 26
abbrev sHand : Stmt := top 27
abbrev sDraw : Stmt := top 28
abbrev sPick : Stmt := top 29
abbrev sStart : Stmt := top 30
abbrev sHasMate : Stmt := top 31
abbrev sWord : Stmt := top 32
abbrev sEnter : Stmt := top 33
abbrev sName : Stmt := top 34
abbrev sAnyRow : Stmt := top 35
abbrev sFitting : Stmt := top 36
abbrev sWrongItem : Stmt := top 37
abbrev sSpoilt : Stmt := top 38
abbrev sLabels : Stmt := top 39
abbrev sAsList : Stmt := top 40
abbrev sAsked : Stmt := top 41
abbrev sPlain : Stmt := top 42
abbrev sLaw : Stmt := top 43
end K01

namespace K01
open PySem PySem.Spec PyProof.Rows L2
def oexB (K : PySem.W.Frag) (C : Addr) : Bool := match K.lookup C with
  | some ⟨.type t, _, .cls cd, sl⟩ => decide (t = "type") && (match cd.mro, sl.toList with
    | .ref C' :: bm, [_, _, _, _, some (.builtin n), _] => decide (C' = C) && (decide (n = "ValueError.__new__") && (cd.hasDict && (!cd.hasDel && PySem.HandSPX.refsVE bm)))
    | _, _ => false)
  | _ => false
/-- what isinstance and the reads of fields ask of a class -/
def excB (K : PySem.W.Frag) (D : Addr) : Bool :=
  decide (PySem.W.findIn K (.ref D) "__getattribute__" = some (some (.builtin "BaseException.__getattribute__"))) && (
  decide (PySem.W.findIn K (.ref D) "__getattr__" = some none) && (
  decide (PySem.W.subIn K (.ref D) (.type "BaseException") = some true) && (
  PySem.W.hasDictIn K D && (
  decide (PySem.W.findIn K (.ref D) "__class__" = some (some (.builtin "object.__class__"))) && (
  decide (PySem.W.mroIn K D (.type "object") = some true) && (
  decide (PySem.W.findIn K (.ref D) "__setattr__" = some (some (.builtin "object.__setattr__"))) && (
  decide (PySem.W.typeIn K (.ref D) = some (.type "type")) && (
  PySem.W.keepIn K (.ref D)))))))))
def dunB (K : PySem.W.Frag) : Bool :=
  decide (PySem.W.specialIn K (.builtin "object.__class__") "__get__" = some (some (.builtin "getset_descriptor.__get__"))) && decide (PySem.W.takesIn K (.builtin "object.__class__") = some true)
/-- an error with an own __init__ -/
def badB (K : PySem.W.Frag) (C : Addr) : Bool :=
  oexB K C && (excB K C && (
  decide (PySem.W.findIn K (.ref C) "__init__" = some (some (.ref (He.ma K C "__init__")))) &&
  decide (PySem.W.typeIn K (.ref (He.ma K C "__init__")) = some (.type "function"))))
def restB (K : PySem.W.Frag) : Bool := badB K (He.ga K "BadRecord") && (dunB K && (decide (PySem.W.kitOne K (.ref (He.ga K "BadRecord")) (.ref (He.ga K "BadRecord")) = some true) && (decide (PySem.W.kitOne K (.ref (He.ga K "BadRecord")) (.type "ValueError") = some true) && (
  PySem.W.notFirst K (He.ga K "Record") (.ref (He.ga K "Record")) && He.tupB K "KINDS" [.str "s", .str "d"]))))
def fa : List He.Fa := [.free "int",
  .free "bool",
  .free "isinstance",
  .free "str",
  .free "len",
  .free "all",
  .free "list",
  .free "tuple",
  .free "enumerate",
  .free "range",
  .free "abs",
  .free "type",
  .free "iter",
  .free "ValueError",
  .glo "is_whole",
  .glo "is_name",
  .glo "is_label",
  .glo "is_kind",
  .glo "is_sequence",
  .glo "is_row",
  .glo "_are_names",
  .glo "row_fault",
  .glo "_coming_fault",
  .glo "_wedding_fault",
  .glo "_birth_fault",
  .glo "_write_rows",
  .glo "record_fault",
  .glo "as_tuples",
  .glo "_law_mix",
  .glo "_law_hand",
  .glo "_law_draw",
  .glo "_law_pick",
  .glo "_law_start",
  .glo "_law_has_mate",
  .glo "_law_word",
  .glo "_law_enter",
  .glo "_law_name",
  .glo "_law_any_row",
  .glo "_law_fitting",
  .glo "_law_wrong_item",
  .glo "_law_spoilt",
  .glo "_law_labels",
  .glo "_law_as_list",
  .glo "_law_asked",
  .glo "_law_plain",
  .glo "law",
  .glo "Book",
  .glo "Record",
  .glo "BadRecord",
  .glo "CustomError",
  .glo "KINDS",
  .int "MOST_ROWS" 5000,
  .int "MOST_NAME" (10 ^ 30),
  .int "MOST_WIDTH" 2,
  .cls "Book",
  .mkr "Book",
  .meth "Book" "is_couple",
  .meth "Book" "write",
  .meth "Book" "bring",
  .meth "Book" "wed",
  .meth "Book" "bury",
  .noat "Book" "kinds",
  .noat "Book" "parents",
  .noat "Book" "row_numbers",
  .noat "Book" "dead",
  .noat "Book" "mate_now",
  .noat "Book" "all_mates",
  .noat "Book" "children",
  .cls "Record",
  .mkr "Record",
  .meth "Record" "__eq__",
  .meth "Record" "__len__",
  .meth "Record" "__iter__",
  .noat "Record" "width",
  .noat "Record" "rows",
  .noat "Record" "persons",
  .noat "Record" "founders",
  .noat "Record" "born",
  .noat "Record" "weddings",
  .noat "Record" "couples",
  .noat "Record" "living",
  .noat "Record" "_book",
  .noat "BadRecord" "index",
  .noat "BadRecord" "what",
  .exm "BadRecord" "CustomError" true]
def dG (x : Str) (st : Stmt) : He.DefD := ⟨(x, none), x, x, defArgs st, defBody st, defScope st, [], []⟩
def fn : List He.DefD := [dG "is_whole" sPIsWhole,
  dG "is_name" sPIsName,
  dG "is_label" sPIsLabel,
  dG "is_kind" sPIsKind,
  dG "is_sequence" sPIsSequence,
  dG "is_row" sPIsRow,
  dG "_are_names" sPAreNames,
  dG "row_fault" sPRowFault,
  dG "_coming_fault" sPComingFault,
  dG "_wedding_fault" sPWeddingFault,
  dG "_birth_fault" sPBirthFault,
  dG "_write_rows" sPWriteRows,
  dG "record_fault" sPRecordFault,
  dG "as_tuples" sPAsTuples,
  dG "_law_mix" sMix,
  dG "_law_hand" sHand,
  dG "_law_draw" sDraw,
  dG "_law_pick" sPick,
  dG "_law_start" sStart,
  dG "_law_has_mate" sHasMate,
  dG "_law_word" sWord,
  dG "_law_enter" sEnter,
  dG "_law_name" sName,
  dG "_law_any_row" sAnyRow,
  dG "_law_fitting" sFitting,
  dG "_law_wrong_item" sWrongItem,
  dG "_law_spoilt" sSpoilt,
  dG "_law_labels" sLabels,
  dG "_law_as_list" sAsList,
  dG "_law_asked" sAsked,
  dG "_law_plain" sPlain,
  dG "law" sLaw,
  ⟨("BadRecord", some "__init__"), "__init__", "BadRecord.__init__", defArgs (inClass (top 3) 0), defBody (inClass (top 3) 0), defScope (inClass (top 3) 0), [], []⟩,
  ⟨("Book", some "__init__"), "__init__", "Book.__init__", defArgs (inClass (top 16) 0), defBody (inClass (top 16) 0), defScope (inClass (top 16) 0), [], []⟩,
  ⟨("Book", some "is_couple"), "is_couple", "Book.is_couple", defArgs (inClass (top 16) 1), defBody (inClass (top 16) 1), defScope (inClass (top 16) 1), [], []⟩,
  ⟨("Book", some "write"), "write", "Book.write", defArgs (inClass (top 16) 2), defBody (inClass (top 16) 2), defScope (inClass (top 16) 2), [], []⟩,
  ⟨("Book", some "bring"), "bring", "Book.bring", defArgs (inClass (top 16) 3), defBody (inClass (top 16) 3), defScope (inClass (top 16) 3), [], []⟩,
  ⟨("Book", some "wed"), "wed", "Book.wed", defArgs (inClass (top 16) 4), defBody (inClass (top 16) 4), defScope (inClass (top 16) 4), [], []⟩,
  ⟨("Book", some "bury"), "bury", "Book.bury", defArgs (inClass (top 16) 5), defBody (inClass (top 16) 5), defScope (inClass (top 16) 5), [], []⟩,
  ⟨("Record", some "__init__"), "__init__", "Record.__init__", defArgs (inClass (top 24) 0), defBody (inClass (top 24) 0), defScope (inClass (top 24) 0), [.adr (He.dflAt ("Record", some "__init__") 0)], []⟩,
  ⟨("Record", some "__eq__"), "__eq__", "Record.__eq__", defArgs (inClass (top 24) 16), defBody (inClass (top 24) 16), defScope (inClass (top 24) 16), [], []⟩,
  ⟨("Record", some "__len__"), "__len__", "Record.__len__", defArgs (inClass (top 24) 17), defBody (inClass (top 24) 17), defScope (inClass (top 24) 17), [], []⟩,
  ⟨("Record", some "__iter__"), "__iter__", "Record.__iter__", defArgs (inClass (top 24) 18), defBody (inClass (top 24) 18), defScope (inClass (top 24) 18), [], []⟩]
/-! ### the Hook -/
abbrev AlM : Type := Bool × List He.FnW
def obsM (K : PySem.W.Frag) : AlM := ((fa.all fun f => f.ok K) && (restB K && fn.all fun d => d.ok K), fn.map fun d => He.fnW K d.at_)
def valM : AlM := (true, fn.map He.DefD.val)
def SaysM (K : PySem.W.Frag) : Prop := obsM K = valM
end K01

namespace K01
open PySem PySem.Spec PyProof.Rows L2
def refs1 (o : Obj) : List Addr := match o.data with
  | .dict es _ => es.toList.flatMap fun e => He.refV e.val
  | .func fd => He.refV fd.code ++ He.refV fd.defaults
  | .cls cd => [cd.ns]
  | _ => []
def nxt (g : Addr → Option Obj) (as : List Addr) : List Addr := as.flatMap fun a => match g a with
  | some o => refs1 o
  | none => []
def asM (g : Addr → Option Obj) : List Addr := mainGlobals :: (nxt g [mainGlobals] ++ (nxt g (nxt g [mainGlobals]) ++ (nxt g (nxt g (nxt g [mainGlobals])) ++ nxt g (nxt g (nxt g (nxt g [mainGlobals]))))))
def obsMG (g : Addr → Option Obj) : AlM := obsM (He.frG g (asM g))
def hookM : PySem.W.Hook where
  α := AlM
  obs := fun s => obsMG s.heap.get?
  val := fun _ => valM
  says := fun _ h => ∃ K : PySem.W.Frag, K.In h ∧ SaysM K
  of := fun _ _ e => ⟨_, He.frG_in, e⟩
  keeps := fun _ _ _ ⟨K, hK, c⟩ k => ⟨K, PySem.W.Frag.In.keeps hK k, c⟩
abbrev R : PySem.W.OpenRow := PySem.W.OpenLaw.row PySem.Challenge.rw_namesakes_k01_whole_rows_judged_and_refu
def ob (s : PySem.W.SharedT) : AlM := obsMG (HandSHeadRun.getT s)
theorem ob_eq (s : PySem.W.SharedT) : ob s = hookM.obs s.abs := by
  have e : HandSHeadRun.getT s = s.abs.heap.get? := funext (HandSHeadRun.getT_eq s)
  show obsMG (HandSHeadRun.getT s) = obsMG s.abs.heap.get?
  rw [e]
def looseL : List Str := [("_wall" : Str), ("CustomError" : Str), ("BadRecord" : Str), ("MOST_ROWS" : Str), ("MOST_NAME" : Str), ("MOST_WIDTH" : Str), ("KINDS" : Str), ("Book" : Str), ("Record" : Str), ("is_whole" : Str), ("is_name" : Str), ("is_label" : Str), ("is_kind" : Str), ("is_sequence" : Str), ("is_row" : Str), ("_are_names" : Str), ("row_fault" : Str), ("_coming_fault" : Str), ("_wedding_fault" : Str), ("_birth_fault" : Str), ("_write_rows" : Str), ("record_fault" : Str), ("as_tuples" : Str), ("_law_mix" : Str), ("_law_hand" : Str), ("_law_draw" : Str), ("_law_pick" : Str), ("_law_start" : Str), ("_law_has_mate" : Str), ("_law_word" : Str), ("_law_enter" : Str), ("_law_name" : Str), ("_law_any_row" : Str), ("_law_fitting" : Str), ("_law_wrong_item" : Str), ("_law_spoilt" : Str), ("_law_labels" : Str), ("_law_as_list" : Str), ("_law_asked" : Str), ("_law_plain" : Str)]
theorem run (w : World) : HandSHeadRun.RunEq R (PySem.W.view R.prog [43]) hookM ob 20000 looseL w := by
  intro os
  kernel_rfl
end K01

namespace K01
open PySem PySem.Spec PyProof.Rows L2
/-! ### the hand from which a script is drawn -/
/-- what the hand's list holds: the cells' list, how many are taken, the rest of a great cell, the running number -/
abbrev handO (l : Addr) (i r t : Int) : HO := .lst [.ref l, .int i, .int r, .int t]
structure HandOk (cells : List Int) (i r t : Int) : Prop where
  len : cells.length ≤ 63
  pos : ∀ c ∈ cells, 0 ≤ c
  i0 : 0 ≤ i
  i1 : i ≤ 63
  r0 : 0 ≤ r
  t0 : 0 ≤ t
  t1 : t < 2147483629
def HandAt (H : Hp) (p l : Addr) (cells : List Int) (i r t : Int) : Prop := H p = some (handO l i r t) ∧ H l = some (.lst (cells.map V.int)) ∧ HandOk cells i r t
/-! ### promises -/
def spMix : Sp := fun vs H Q _ => ∃ n k : Int, vs = [.int n, .int k] ∧ 0 ≤ n ∧ n < 2147483647 ∧ 0 ≤ k ∧ k ≤ 64 ∧ ∀ d : Int, 0 ≤ d → Q (.int d) H
def spDraw : Sp := fun vs H Q _ => ∃ (p l : Addr) (cells : List Int) (i r t m : Int), vs = [.ref p, .int m] ∧ HandAt H p l cells i r t ∧ 0 < m ∧ m.natAbs < 2 ^ 8000 ∧
  ∀ d i' r' t' : Int, 0 ≤ d → d < m → HandOk cells i' r' t' → Q (.int d) (upd H p (handO l i' r' t'))
section
variable {P : Program} {w : World} {K : PySem.W.Frag} {mg : Str → Option Value} {base : Heap}
theorem scMix : FnScope ["_law_number", "_law_turn", "_law_once", "_law_twice"] ["_law_number", "_law_turn"] (defScope sMix) := ⟨rfl, rfl, rfl, by decide +kernel, rfl, by decide +kernel, by decide +kernel⟩
theorem pp31 : (2147483647 : Int) < 2 ^ 64 := by decide
theorem ok_mix {f : Addr} {fd : FuncData} (F : FnP K "_law_mix" sMix f fd) (zi : mg "int" = none) : FnOk P w K mg base CX0 1 f fd ["_law_number", "_law_turn"] spMix := by
  refine F.ok scMix (fun vs H Q E h => ?_) (fun cdv A outer s H vs Q E hr h => ?_)
  · obtain ⟨n, k, rfl, _⟩ := h
    rfl
  · obtain ⟨n, k, rfl, n0, n1, k0, k1, q⟩ := h
    refine ⟨_, PSs.nox (pss_cons (ps_set (i := 2) scMix.nd rfl (.inl rfl)
        (pe_op op_mod (pe_callTy call_int1 (by rfl) zi (by decide +kernel) (pa_cons
          (pe_op op_add (pe_op op_add (pe_op op_mul (pv 0) pe_int) (pe_op op_mul (pv 1) pe_int)) pe_int) pa_nil)) pe_int))
      (pss_cons (ps_set (i := 3) scMix.nd rfl (.inl rfl)
        (pe_op op_mod (pe_callTy call_int1 (by rfl) zi (by decide +kernel) (pa_cons
          (pe_op op_add (pe_op op_add (pe_op op_mul (pv 2) (pv 2)) (pe_op op_mul (pe_op op_fdiv (pv 2) pe_int) pe_int)) (pe_op op_mul (pv 1) pe_int)) pa_nil)) pe_int))
      (pss_one (ps_ret (pe_op op_fdiv (pe_op op_mod (pe_callTy call_int1 (by rfl) zi (by decide +kernel) (pa_cons
          (pe_op op_add (pe_op op_fdiv (pe_op op_mul (pv 3) (pv 3)) pe_int) (pv 2)) pa_nil)) pe_int) pe_int))))), ?_⟩
    refine ⟨_, rfl, _, _, rfl, rfl, .inl ⟨by omega, by omega⟩, _, rfl, _, _, rfl, rfl, .inl ⟨by omega, by omega⟩, _, _, rfl, rfl, _, _, rfl, rfl, .inl ⟨_, rfl, _, _, rfl, rfl, (by show (0 : Int) < 2147483647; decide), ?_⟩⟩
    refine ⟨_, rfl, _, rfl, _, _, rfl, rfl, .inl ⟨by omega, by omega⟩, _, rfl, _, _, rfl, rfl, ⟨by decide, by decide⟩, _, _, rfl, rfl, .inr ⟨by decide, by decide⟩, _, _, rfl, rfl, _, rfl, _, _, rfl, rfl, .inl ⟨by omega, by omega⟩, _, _, rfl, rfl, .inl ⟨_, rfl, _, _, rfl, rfl, (by show (0 : Int) < 2147483399; decide), ?_⟩⟩
    refine ⟨_, rfl, _, rfl, _, _, rfl, rfl, .inl ⟨by omega, by omega⟩, _, _, rfl, rfl, ⟨by decide, by decide⟩, _, rfl, _, _, rfl, rfl, .inl ⟨_, rfl, _, _, rfl, rfl, (by show (0 : Int) < 2147483563; decide), _, _, rfl, rfl, ⟨by decide, by decide⟩, ?_⟩⟩
    refine q _ ?_
    omega
theorem scDraw : FnScope ["_law_hand_here", "_law_many", "_law_cell", "_law_rest"] ["_law_hand_here", "_law_many"] (defScope sDraw) := ⟨rfl, rfl, rfl, by decide +kernel, rfl, by decide +kernel, by decide +kernel⟩
theorem ok_draw {f fM : Addr} {fd fdM : FuncData} (F : FnP K "_law_draw" sDraw f fd) (zi : mg "int" = none) (zl : mg "len" = none) (FM : FnP K "_law_mix" sMix fM fdM) (gM : mg "_law_mix" = some (.ref fM)) : FnOk P w K mg base CX0 2 f fd ["_law_hand_here", "_law_many"] spDraw := by
  have GM : FnOk P w K mg base CX0 1 fM fdM ["_law_number", "_law_turn"] spMix := ok_mix FM zi
  have bM : Binds K fdM ["_law_number", "_law_turn"] [] := FM.bindsN fun _ _ _ _ _ _ us hl => match us, hl with | [_, _], _ => rfl
  refine F.ok scDraw (fun vs H Q E h => ?_) (fun cdv A outer s H vs Q E hr h => ?_)
  · obtain ⟨p, l, cells, i, r, t, m, rfl, _⟩ := h
    rfl
  · obtain ⟨p, l, cells, i, r, t, m, rfl, ⟨hp, hl, ok⟩, m0, m1, q⟩ := h
    refine ⟨_, PSs.nox (pss_cons (ps_if (PW.pt (pw_and (pt_cmpR op_eq (pe_ix ix_list (pv 0) pe_int (fun _ _ => rfl)) pe_int (nomark _)) (pw_and1 (pt_cmpR op_lt (pe_ix ix_list (pv 0) pe_int (fun _ _ => rfl)) (pe_callB call_len_seq (by rfl) zl boot_len (pa_cons (pe_ix ix_list (pv 0) pe_int (fun _ _ => rfl)) pa_nil)) (nomark _)))))
          (pss_cons (ps_set (i := 2) scDraw.nd rfl (.inl rfl) (pe_ix ix_list (pe_ix ix_list (pv 0) pe_int (fun _ _ => rfl)) (pe_ix ix_list (pv 0) pe_int (fun _ _ => rfl)) (fun _ _ => rfl)))
          (pss_cons (ps_asg (pe_op op_add (pe_ix ix_list (pv 0) pe_int (fun _ _ => rfl)) pe_int) (pg_sub (pv 0) pe_int set_list))
          (pss_cons (ps_if (pt_cmpR op_lt (pv 2) (pe_op op_pow pe_int pe_int) (nomark _))
            (pss_one (ps_ret (pe_op op_mod (pe_callTy call_int1 (by rfl) zi (by decide +kernel) (pa_cons (pe_call GM hr (by rfl) gM FM.kp bM .nil pass0 (pa_cons (pe_op op_mod (pe_callTy call_int1 (by rfl) zi (by decide +kernel) (pa_cons (pv 2) pa_nil)) pe_int) (pa_cons (pe_ix ix_list (pv 0) pe_int (fun _ _ => rfl)) pa_nil))) pa_nil)) (pv 1)))) pss_nil)
          (pss_one (ps_asg (pv 2) (pg_sub (pv 0) pe_int set_list)))))) pss_nil)
      (pss_cons (ps_if (pt_cmpR op_gt (pe_ix ix_list (pv 0) pe_int (fun _ _ => rfl)) pe_int (nomark _))
          (pss_cons (ps_set (i := 3) scDraw.nd rfl (.inl rfl) (pe_ix ix_list (pv 0) pe_int (fun _ _ => rfl)))
          (pss_cons (ps_asg (pe_op op_fdivW (pv 3) (pv 1)) (pg_sub (pv 0) pe_int set_list))
          (pss_one (ps_ret (pe_op op_mod (pe_callTy call_int1 (by rfl) zi (by decide +kernel) (pa_cons (pv 3) pa_nil)) (pv 1)))))) pss_nil)
      (pss_cons (ps_asg (pe_op op_mod (pe_callTy call_int1 (by rfl) zi (by decide +kernel) (pa_cons (pe_op op_add (pe_ix ix_list (pv 0) pe_int (fun _ _ => rfl)) pe_int) pa_nil)) pe_int) (pg_sub (pv 0) pe_int set_list))
      (pss_one (ps_ret (pe_op op_mod (pe_callTy call_int1 (by rfl) zi (by decide +kernel) (pa_cons (pe_call GM hr (by rfl) gM FM.kp bM .nil pass0 (pa_cons (pe_ix ix_list (pv 0) pe_int (fun _ _ => rfl)) (pa_cons (pe_ix ix_list (pv 0) pe_int (fun _ _ => rfl)) pa_nil))) pa_nil)) (pv 1))))))), ?_⟩
    refine ⟨_, rfl, _, _, _, _, rfl, rfl, SqL.of hp, rfl, rfl, _, rfl, ?_⟩
    have mlog : m.natAbs.log2 < 9000 := Nat.lt_of_lt_of_le (PySem.Flt.log2_lt_of (by decide) m1) (by decide)
    have fin : ∀ (d i' r' t' : Int) (H2 : Hp), 0 ≤ d → d < m → HandOk cells i' r' t' → H2 = upd H p (handO l i' r' t') → Q (.int d) H2 := fun d i' r' t' H2 d0 d1 o e => by
      subst e
      exact q d i' r' t' d0 d1 o
    have npl : l ≠ p := fun z => by
      rw [z, hp] at hl
      have h2 := Option.some.inj hl
      injection h2 with h3
      have h4 := congrArg List.head? h3
      cases cells with
      | nil => cases h4
      | cons c cs => cases h4
    refine ite2 (fun e => ?_) (fun e => ?_)
    · refine ⟨_, rfl, _, _, _, _, rfl, rfl, SqL.of hp, rfl, _, rfl, _, _, _, _, rfl, rfl, SqL.of hp, rfl, _, _, rfl, .inl (SqL.of hl), _, _, rfl, rfl, _, rfl, ?_⟩
      refine ite2 (fun e1 => ?_) (fun e1 => ?_)
      · have HP0 := hp
        have hi0 : 0 ≤ i := ok.i0
        have hlen : ((cells.map V.int).length : Int) = (cells.length : Int) := by rw [List.length_map]
        have hlt : i < (cells.length : Int) := by
          have z : i < ((cells.map V.int).length : Int) := of_decide_eq_true e1
          omega
        have hnat : i.toNat < cells.length := by omega
        have hget : atI (cells.map V.int) i = some (.int cells[i.toNat]) := by
          have z := atI_nat (xs := cells.map V.int) (j := i.toNat) (v := .int cells[i.toNat]) (by rw [List.getElem?_map, List.getElem?_eq_getElem hnat]; rfl)
          rw [Int.toNat_of_nonneg hi0] at z
          exact z
        have c0 : 0 ≤ cells[i.toNat] := ok.pos _ (List.getElem_mem hnat)
        have hl63 := ok.len
        refine ⟨_, rfl, _, _, _, _, rfl, rfl, SqL.of hp, rfl, _, rfl, _, _, _, _, rfl, rfl, SqL.of hp, rfl, _, _, _, _, rfl, rfl, SqL.of hl, hget, ?_⟩
        generalize cells[i.toNat] = c at c0
        refine ⟨_, rfl, _, _, _, _, rfl, rfl, SqL.of hp, rfl, _, _, rfl, rfl, _, rfl, _, _, _, _, rfl, rfl, hp, rfl, ?_⟩
        have ok2 : HandOk cells (i + 1) c t := ⟨ok.len, ok.pos, by omega, by omega, c0, ok.t0, ok.t1⟩
        refine ⟨_, rfl, _, _, rfl, rfl, ⟨by decide, by decide, by decide⟩, _, _, rfl, rfl, _, rfl, ?_⟩
        refine ite2 (fun e2 => ?_) (fun e2 => ?_)
        · refine ⟨_, rfl, .inl ⟨_, rfl, _, _, rfl, rfl, (by show (0 : Int) < 2147483647; decide), _, rfl, _, _, _, _, rfl, rfl, SqL.of upd_same, rfl, _, _, rfl, Int.emod_nonneg _ (by decide), Int.emod_lt_of_pos _ (by decide), by omega, by omega, fun d d0 => ?_⟩⟩
          refine .inl ⟨_, rfl, _, rfl, _, _, rfl, rfl, m0, ?_⟩
          exact fin _ _ _ _ _ (Int.emod_nonneg _ (Int.ne_of_gt m0)) (Int.emod_lt_of_pos _ m0) ⟨ok.len, ok.pos, ok2.i0, ok2.i1, ok.r0, ok.t0, ok.t1⟩ (by simp only [upd_upd]; rfl)
        · refine ⟨_, rfl, _, rfl, _, _, _, _, rfl, rfl, upd_same, rfl, ?_⟩
          have HP : (upd (upd H p (.lst ([V.ref l, .int i, .int r, .int t].set 1 (.int (i + 1))))) p (.lst (([V.ref l, .int i, .int r, .int t].set 1 (.int (i + 1))).set 2 (.int c)))) p = some (handO l (i + 1) c t) := upd_same
          refine ⟨_, rfl, _, _, _, _, rfl, rfl, SqL.of HP, rfl, _, _, rfl, rfl, _, rfl, ?_⟩
          refine ite2 (fun e3 => ?_) (fun e3 => ?_)
          · refine ⟨_, rfl, _, _, _, _, rfl, rfl, SqL.of HP, rfl, ?_⟩
            refine ⟨_, rfl, _, rfl, _, _, rfl, rfl, ⟨m0, mlog⟩, _, rfl, _, _, _, _, rfl, rfl, HP, rfl, ?_⟩
            refine ⟨_, rfl, .inl ⟨_, rfl, _, rfl, _, _, rfl, rfl, m0, ?_⟩⟩
            exact fin _ _ _ _ _ (Int.emod_nonneg _ (Int.ne_of_gt m0)) (Int.emod_lt_of_pos _ m0) ⟨ok2.len, ok2.pos, ok2.i0, ok2.i1, Int.ediv_nonneg ok2.r0 (Int.le_of_lt m0), ok2.t0, ok2.t1⟩ (by simp only [upd_upd]; rfl)
          · refine ⟨_, rfl, _, _, _, _, rfl, rfl, SqL.of HP, rfl, _, _, rfl, rfl, .inl ⟨_, rfl, _, _, rfl, rfl, (by show (0 : Int) < 2147483629; decide), _, rfl, _, _, _, _, rfl, rfl, HP, rfl, ?_⟩⟩
            have u0 := ok2.i0
            have u1 := ok2.i1
            refine ⟨_, rfl, _, _, _, _, rfl, rfl, SqL.of upd_same, rfl, _, rfl, _, _, _, _, rfl, rfl, SqL.of upd_same, rfl, _, _, rfl, by omega, by omega, by omega, by omega, fun d d0 => ?_⟩
            refine .inl ⟨_, rfl, _, rfl, _, _, rfl, rfl, m0, ?_⟩
            exact fin _ _ _ _ _ (Int.emod_nonneg _ (Int.ne_of_gt m0)) (Int.emod_lt_of_pos _ m0) ⟨ok2.len, ok2.pos, ok2.i0, ok2.i1, ok2.r0, Int.emod_nonneg (t + 1) (show (2147483629 : Int) ≠ 0 by decide), Int.emod_lt_of_pos (t + 1) (show (0 : Int) < 2147483629 by decide)⟩ (by simp only [upd_upd]; rfl)
      · have HP := hp
        refine ⟨_, rfl, _, _, _, _, rfl, rfl, SqL.of HP, rfl, _, _, rfl, rfl, _, rfl, ?_⟩
        refine ite2 (fun e2 => ?_) (fun e2 => ?_)
        · refine ⟨_, rfl, _, _, _, _, rfl, rfl, SqL.of HP, rfl, ?_⟩
          refine ⟨_, rfl, _, rfl, _, _, rfl, rfl, ⟨m0, mlog⟩, _, rfl, _, _, _, _, rfl, rfl, HP, rfl, ?_⟩
          refine ⟨_, rfl, .inl ⟨_, rfl, _, rfl, _, _, rfl, rfl, m0, ?_⟩⟩
          exact fin _ _ _ _ _ (Int.emod_nonneg _ (Int.ne_of_gt m0)) (Int.emod_lt_of_pos _ m0) ⟨ok.len, ok.pos, ok.i0, ok.i1, Int.ediv_nonneg ok.r0 (Int.le_of_lt m0), ok.t0, ok.t1⟩ (by simp only [upd_upd]; rfl)
        · refine ⟨_, rfl, _, _, _, _, rfl, rfl, SqL.of HP, rfl, _, _, rfl, rfl, .inl ⟨_, rfl, _, _, rfl, rfl, (by show (0 : Int) < 2147483629; decide), _, rfl, _, _, _, _, rfl, rfl, HP, rfl, ?_⟩⟩
          have u0 := ok.i0
          have u1 := ok.i1
          refine ⟨_, rfl, _, _, _, _, rfl, rfl, SqL.of upd_same, rfl, _, rfl, _, _, _, _, rfl, rfl, SqL.of upd_same, rfl, _, _, rfl, by omega, by omega, by omega, by omega, fun d d0 => ?_⟩
          refine .inl ⟨_, rfl, _, rfl, _, _, rfl, rfl, m0, ?_⟩
          exact fin _ _ _ _ _ (Int.emod_nonneg _ (Int.ne_of_gt m0)) (Int.emod_lt_of_pos _ m0) ⟨ok.len, ok.pos, ok.i0, ok.i1, ok.r0, Int.emod_nonneg (t + 1) (show (2147483629 : Int) ≠ 0 by decide), Int.emod_lt_of_pos (t + 1) (show (0 : Int) < 2147483629 by decide)⟩ (by simp only [upd_upd]; rfl)
    · have HP := hp
      refine ⟨_, rfl, _, _, _, _, rfl, rfl, SqL.of HP, rfl, _, _, rfl, rfl, _, rfl, ?_⟩
      refine ite2 (fun e2 => ?_) (fun e2 => ?_)
      · refine ⟨_, rfl, _, _, _, _, rfl, rfl, SqL.of HP, rfl, ?_⟩
        refine ⟨_, rfl, _, rfl, _, _, rfl, rfl, ⟨m0, mlog⟩, _, rfl, _, _, _, _, rfl, rfl, HP, rfl, ?_⟩
        refine ⟨_, rfl, .inl ⟨_, rfl, _, rfl, _, _, rfl, rfl, m0, ?_⟩⟩
        exact fin _ _ _ _ _ (Int.emod_nonneg _ (Int.ne_of_gt m0)) (Int.emod_lt_of_pos _ m0) ⟨ok.len, ok.pos, ok.i0, ok.i1, Int.ediv_nonneg ok.r0 (Int.le_of_lt m0), ok.t0, ok.t1⟩ (by simp only [upd_upd]; rfl)
      · refine ⟨_, rfl, _, _, _, _, rfl, rfl, SqL.of HP, rfl, _, _, rfl, rfl, .inl ⟨_, rfl, _, _, rfl, rfl, (by show (0 : Int) < 2147483629; decide), _, rfl, _, _, _, _, rfl, rfl, HP, rfl, ?_⟩⟩
        have u0 := ok.i0
        have u1 := ok.i1
        refine ⟨_, rfl, _, _, _, _, rfl, rfl, SqL.of upd_same, rfl, _, rfl, _, _, _, _, rfl, rfl, SqL.of upd_same, rfl, _, _, rfl, by omega, by omega, by omega, by omega, fun d d0 => ?_⟩
        refine .inl ⟨_, rfl, _, rfl, _, _, rfl, rfl, m0, ?_⟩
        exact fin _ _ _ _ _ (Int.emod_nonneg _ (Int.ne_of_gt m0)) (Int.emod_lt_of_pos _ m0) ⟨ok.len, ok.pos, ok.i0, ok.i1, ok.r0, Int.emod_nonneg (t + 1) (show (2147483629 : Int) ≠ 0 by decide), Int.emod_lt_of_pos (t + 1) (show (0 : Int) < 2147483629 by decide)⟩ (by simp only [upd_upd]; rfl)
/-! ### the hand is made -/
def absI (c : Int) : Int := if c < 0 then -c else c
theorem absI_nonneg (c : Int) : 0 ≤ absI c := by
  unfold absI
  split <;> omega
theorem same_upd {H : Hp} {p : Addr} {o : HO} (h : H p = none) : Same H (upd H p o) := fun b x e => by
  rw [upd_ne (ne_of_none e h)]
  exact e
def spHand (K : PySem.W.Frag) : Sp := fun vs H Q _ => ∃ (a : Addr) (ns : List Int), vs = [.ref a] ∧ SqL K H a (ns.map V.int) ∧ ns.length ≤ 63 ∧
  ∀ (H' : Hp) (p l : Addr) (t : Int), Same H H' → H p = none → HandAt H' p l (ns.map absI) 0 0 t → Q (.ref p) H'
theorem scHand : FnScope ["_law_script", "_law_total", "_law_k", "_law_cell"] ["_law_script"] (defScope sHand) := ⟨rfl, rfl, rfl, by decide +kernel, rfl, by decide +kernel, by decide +kernel⟩
theorem ok_hand {f : Addr} {fd : FuncData} (F : FnP K "_law_hand" sHand f fd) (zi : mg "int" = none) (za : mg "abs" = none) (ze : mg "enumerate" = none) : FnOk P w K mg base CX0 1 f fd ["_law_script"] (spHand K) := by
  refine F.ok scHand (fun vs H Q E h => ?_) (fun cdv A outer s H vs Q E hr h => ?_)
  · obtain ⟨a, ns, rfl, _⟩ := h
    rfl
  · obtain ⟨a, ns, rfl, hS, hlen, q⟩ := h
    refine ⟨_, PSs.nox (pss_cons (ps_set (i := 1) scHand.nd rfl (.inl rfl) pe_int)
      (pss_cons (ps_for PassesOwn.never rfl (pi_enum (by rfl) ze (pa_cons (pv 0) pa_nil))
          (pg_tup (by rfl) (pgs_cons (pg_name (i := 2) scHand.nd rfl (.inl rfl)) (pgs_cons (pg_name (i := 3) scHand.nd rfl (.inl rfl)) pgs_nil)))
        (pss_one (ps_set (i := 1) scHand.nd rfl (.inl rfl) (pe_op op_mod (pe_callTy call_int1 (by rfl) zi (by decide +kernel) (pa_cons
          (pe_op op_add (pe_op op_mul (pv 1) pe_int) (pe_op op_mul (pe_callTy call_int1 (by rfl) zi (by decide +kernel) (pa_cons (pv 3) pa_nil)) (pe_op op_add (pv 2) pe_int))) pa_nil)) pe_int))))
      (pss_one (ps_ret (pe_lst (pa_cons
        (pe_lc (own := [("_law_cell", 3)]) (g := gName 3) (tt := tYes) rfl scHand.nd (pi_list (pv 0)) (blkOk_by (N := ["_law_script", "_law_total", "_law_k", "_law_cell"]) (sc := defScope sHand) (by decide +kernel)) (fun _ _ _ _ _ => pg_name (i := 3) scHand.nd rfl (Or.inl rfl)) (fun _ _ _ _ _ => pts_nil)
          (fun _ _ _ _ _ => pe_callB call_abs (by rfl) za (by decide +kernel) (pa_cons (pe_callTy call_int1 (by rfl) zi (by decide +kernel) (pa_cons (pv 3) pa_nil)) pa_nil)))
        (pa_cons pe_int (pa_cons pe_int (pa_cons (pv 1) pa_nil))))))))), ?_⟩
    refine ⟨_, rfl, a, _, rfl, hS, for_it walk_enum (fun _ σ H' => ∃ (t : Int) (x y : Option V), σ = [some (.ref a), some (.int t), x, y] ∧ 0 ≤ t ∧ t < 2147483629 ∧ Same H H') ⟨0, none, none, rfl, by decide, by decide, fun _ _ e => e⟩
      (fun i σ H' _ ⟨_, _, _, _, _, _, sm⟩ => sm.seq hS) ?_ ?_⟩
    · rintro i x σ H1 H2 hi ⟨t, x1, x2, rfl, t0, t1, sm⟩ ⟨T, u, v, rfl, nT, rfl, eu, ev⟩
      have hi' : i < ns.length := by
        rw [List.length_map] at hi
        exact hi
      obtain rfl : u = .int (i : Int) := (Option.some.inj eu).symm
      obtain rfl : v = .int ns[i] := by
        have e2 : (ns.map V.int)[i]? = some (.int ns[i]) := by rw [List.getElem?_map, List.getElem?_eq_getElem hi']; rfl
        exact Option.some.inj (ev.symm.trans e2)
      refine ⟨T, _, rfl, .inl (.inl upd_same), rfl, _, _, rfl, _, _, rfl, rfl, ?_⟩
      refine ⟨_, rfl, _, _, rfl, rfl, .inl ⟨by omega, by omega⟩, _, rfl, .inl ⟨_, rfl, _, rfl, _, _, rfl, rfl, _, _, rfl, rfl, .inr ⟨by omega, by omega⟩, _, _, rfl, rfl, .inl ⟨_, rfl, _, _, rfl, rfl, (by show (0 : Int) < 2147483629; decide), ?_⟩⟩⟩
      exact ⟨_, _, _, rfl, Int.emod_nonneg _ (by decide), Int.emod_lt_of_pos _ (by decide), fun b o e => same_upd nT _ _ (sm _ _ e)⟩
    · rintro σ H1 ⟨t, x1, x2, rfl, t0, t1, sm⟩
      refine ⟨_, rfl, a, rfl, ⟨_, sm.seq hS⟩, fun D nD => lc_it walk_list (fun i H' => Same H1 H' ∧ H' D = some (.lst (((ns.map absI).take i).map V.int))) ⟨same_upd nD, upd_same⟩
        (fun i H' _ ⟨s2, _⟩ => s2.seq (sm.seq hS)) ?_ ?_⟩
      · rintro i x H2 H3 hi ⟨s2, eD⟩ ⟨rfl, ex⟩
        have hi' : i < ns.length := by
          rw [List.length_map] at hi
          exact hi
        obtain rfl : x = .int ns[i] := by
          have e2 : (ns.map V.int)[i]? = some (.int ns[i]) := by rw [List.getElem?_map, List.getElem?_eq_getElem hi']; rfl
          exact Option.some.inj (ex.symm.trans e2)
        refine ⟨rfl, ?_⟩
        refine ⟨_, rfl, .inl ⟨_, rfl, _, rfl, _, eD, ?_, ?_⟩⟩
        · rw [List.length_map, List.length_take]
          exact Nat.lt_of_le_of_lt (Nat.min_le_left _ _) (Nat.lt_of_lt_of_le (Nat.lt_of_lt_of_le hi' hlen) (by decide))
        · refine ⟨fun b o e => ?_, ?_⟩
          · have nb : b ≠ D := ne_of_none e nD
            rw [upd_ne nb]
            exact s2 _ _ e
          · rw [upd_same, List.take_add_one, List.getElem?_map, List.getElem?_eq_getElem hi', List.map_append]
            rfl
      · rintro H2 ⟨s2, eD⟩
        have eall : ((ns.map absI).take (ns.map V.int).length) = ns.map absI := List.take_of_length_le (by rw [List.length_map, List.length_map]; exact Nat.le_refl _)
        rw [eall] at eD
        refine ⟨_, rfl, (by show 4 ≤ sizeLine; decide), fun p np => ?_⟩
        have npD : D ≠ p := ne_of_none eD np
        refine q _ p D t (fun b o e => same_upd np _ _ (s2 _ _ (sm _ _ e))) ?_ ⟨upd_same, ?_, ?_⟩
        · cases e : H p with
          | none => rfl
          | some o =>
            have e2 := s2 _ _ (sm _ _ e)
            rw [np] at e2
            cases e2
        · rw [upd_ne npD]
          exact eD
        · exact ⟨by rw [List.length_map]; exact hlen, fun c hc => by
            obtain ⟨y, _, rfl⟩ := List.mem_map.mp hc
            exact absI_nonneg y, by decide, by decide, by decide, t0, t1⟩
end
end K01

/-! the questions: is it a whole number, a name, a label, a kind, a way; the law's own -/
namespace K01
open PySem PySem.Spec PyProof.Rows L2
/-- any thing that the law draws: its type's name -/
inductive Odd (H : Hp) : V → String → Prop where
  | int (i : Int) : Odd H (.int i) "int"
  | bl (b : Bool) : Odd H (.bl b) "bool"
  | non : Odd H .non "NoneType"
  | str (x : Str) (hx : x.length ≤ 1000) (hs : (PyData.str x).canLay0 = true) : Odd H (.str x) "str"
  | tup {a : Addr} {xs : List V} (h : H a = some (.tup xs)) : Odd H (.ref a) "tuple"
  | lst {a : Addr} {xs : List V} (h : H a = some (.lst xs)) : Odd H (.ref a) "list"
  | dic {a : Addr} {kvs : List (Key × V)} (h : H a = some (.dK kvs)) : Odd H (.ref a) "dict"
theorem Odd.ty {K : PySem.W.Frag} {H : Hp} {v : V} {t : String} (o : Odd H v t) : TyX K H v (.type t) := by
  cases o with
  | int i => exact .base (.int i)
  | bl b => exact .base (.bl b)
  | non => exact .base .non
  | str x _ _ => exact .base (.str x)
  | tup h => exact .base (.tup h)
  | lst h => exact .base (.lst h)
  | dic h => exact .base (.dK h)
def wholeV (v : V) (lo hi : Int) : Bool := match v with
  | .int i => decide (lo ≤ i) && decide (i ≤ hi)
  | _ => false
def spWhole : Sp := fun vs H Q _ => ∃ (v : V) (t : String) (lo hi : Int), vs = [v, .int lo, .int hi] ∧ Odd H v t ∧ Q (.bl (wholeV v lo hi)) H
section
variable {P : Program} {w : World} {K : PySem.W.Frag} {mg : Str → Option Value} {base : Heap}
theorem scWhole : FnScope ["thing", "low", "high"] ["thing", "low", "high"] (defScope sPIsWhole) := ⟨rfl, rfl, rfl, by decide +kernel, rfl, by decide +kernel, by decide +kernel⟩
theorem ok_whole {f : Addr} {fd : FuncData} (F : FnP K "is_whole" sPIsWhole f fd) (zi : mg "int" = none) (zb : mg "bool" = none) (zs : mg "isinstance" = none) : FnOk P w K mg base CX0 1 f fd ["thing", "low", "high"] spWhole := by
  refine F.ok scWhole (fun vs H Q E h => ?_) (fun cdv A outer s H vs Q E hr h => ?_)
  · obtain ⟨v, t, lo, hi, rfl, _⟩ := h
    rfl
  · obtain ⟨v, t, lo, hi, rfl, o, q⟩ := h
    refine ⟨_, PSs.nox (pss_one (ps_ret (pe_and (pe_callB call_isi (by rfl) zs (by decide +kernel) (pa_cons (pv 0) (pa_cons (pe_bltn (by rfl) zi (by decide +kernel) (v := .ty "int") rfl) pa_nil)))
      (pe_and (pe_not (pe_callB call_isi (by rfl) zs (by decide +kernel) (pa_cons (pv 0) (pa_cons (pe_bltn (by rfl) zb (by decide +kernel) (v := .ty "bool") rfl) pa_nil)))) (pe_one (pe_chain op_le op_le (pv 1) (pv 0) (pv 2))))))), ?_⟩
    have ty := o.ty (K := K)
    cases o with
    | int i =>
      refine ⟨_, rfl, _, _, _, _, true, rfl, .ty _, ty, kit_ty (by decide +kernel), _, rfl, iteT ⟨_, rfl, _, _, _, _, false, rfl, .ty _, ty, kit_ty (by decide +kernel), _, rfl, _, rfl, iteT ⟨_, rfl, _, rfl, _, _, rfl, rfl, _, rfl, ?_⟩⟩⟩
      have e : wholeV (.int i) lo hi = (decide (lo ≤ i) && decide (i ≤ hi)) := rfl
      rw [e] at q
      refine ite2 (fun h => ?_) (fun h => ?_)
      · rw [h, Bool.true_and] at q
        exact ⟨_, rfl, _, _, rfl, rfl, q⟩
      · rw [Bool.eq_false_iff.mpr h, Bool.false_and] at q
        exact q
    | bl b => exact ⟨_, rfl, _, _, _, _, true, rfl, .ty _, ty, kit_ty (by decide +kernel), _, rfl, iteT ⟨_, rfl, _, _, _, _, true, rfl, .ty _, ty, kit_ty (by decide +kernel), _, rfl, _, rfl, iteF q⟩⟩
    | _ => exact ⟨_, rfl, _, _, _, _, false, rfl, .ty _, ty, kit_ty (by decide +kernel), _, rfl, iteF q⟩
/-! ### names, kinds, sequences -/
def spName : Sp := fun vs H Q _ => ∃ (v : V) (t : String), vs = [v] ∧ Odd H v t ∧ Q (.bl (wholeV v 0 (10 ^ 30))) H
theorem scName : FnScope ["thing"] ["thing"] (defScope sPIsName) := ⟨rfl, rfl, rfl, by decide +kernel, rfl, by decide +kernel, by decide +kernel⟩
theorem ok_name {f fW : Addr} {fd fdW : FuncData} (F : FnP K "is_name" sPIsName f fd) (GW : FnOk P w K mg base CX0 1 fW fdW ["thing", "low", "high"] spWhole) (bW : Binds K fdW ["thing", "low", "high"] []) (kW : PySem.W.keepIn K (.ref fW) = true) (gW : mg "is_whole" = some (.ref fW))
    (gN : ∃ t, mg "MOST_NAME" = some (.int (10 ^ 30) t)) : FnOk P w K mg base CX0 2 f fd ["thing"] spName := by
  obtain ⟨tk, gN⟩ := gN
  refine F.ok scName (fun vs H Q E h => ?_) (fun cdv A outer s H vs Q E hr h => ?_)
  · obtain ⟨v, t, rfl, _⟩ := h
    rfl
  · obtain ⟨v, t, rfl, o, q⟩ := h
    refine ⟨_, PSs.nox (pss_one (ps_ret (pe_call GW hr (by rfl) gW kW bW .nil pass0 (pa_cons (pv 0) (pa_cons pe_int (pa_cons (pe_glob (by rfl) gN (v := .int (10 ^ 30)) ⟨_, rfl⟩) pa_nil)))))), ?_⟩
    exact ⟨_, rfl, v, t, 0, _, rfl, o, q⟩
def kindV (v : V) : Bool := match v with
  | .str x => inV (.str x) [.str "s", .str "d"]
  | _ => false
def spKind : Sp := fun vs H Q _ => ∃ (v : V) (t : String), vs = [v] ∧ Odd H v t ∧ Q (.bl (kindV v)) H
theorem scKind : FnScope ["thing"] ["thing"] (defScope sPIsKind) := ⟨rfl, rfl, rfl, by decide +kernel, rfl, by decide +kernel, by decide +kernel⟩
theorem ok_kind {f a : Addr} {fd : FuncData} (F : FnP K "is_kind" sPIsKind f fd) (zt : mg "str" = none) (zs : mg "isinstance" = none) (gK : mg "KINDS" = some (.ref a)) (hK : ∀ H, SqT K H a [.str "s", .str "d"]) : FnOk P w K mg base CX0 1 f fd ["thing"] spKind := by
  refine F.ok scKind (fun vs H Q E h => ?_) (fun cdv A outer s H vs Q E hr h => ?_)
  · obtain ⟨v, t, rfl, _⟩ := h
    rfl
  · obtain ⟨v, t, rfl, o, q⟩ := h
    refine ⟨_, PSs.nox (pss_one (ps_ret (pe_and (pe_callB call_isi (by rfl) zs (by decide +kernel) (pa_cons (pv 0) (pa_cons (pe_bltn (by rfl) zt (by decide +kernel) (v := .ty "str") rfl) pa_nil)))
      (pe_one (pe_cmpR op_in_seq (pv 0) (pe_glob (by rfl) gK (v := .ref a) rfl) (by rfl)))))), ?_⟩
    have ty := o.ty (K := K)
    cases o with
    | str x hx hs => exact ⟨_, rfl, _, _, _, _, true, rfl, .ty _, ty, kit_ty (by decide +kernel), _, rfl, iteT ⟨_, rfl, _, _, rfl, .inr (hK H), rfl, rfl, q⟩⟩
    | _ => exact ⟨_, rfl, _, _, _, _, false, rfl, .ty _, ty, kit_ty (by decide +kernel), _, rfl, iteF q⟩
def seqT (t : String) : Bool := t == "list" || t == "tuple"
def spSeq : Sp := fun vs H Q _ => ∃ (v : V) (t : String), vs = [v] ∧ Odd H v t ∧ ∀ p, H p = none → Q (.bl (seqT t)) (upd H p (.tup [.ty "list", .ty "tuple"]))
theorem kit_seq {K : PySem.W.Frag} {t : String} {b1 b2 r : Bool} (h1 : kitB t "list" = some b1) (h2 : kitB t "tuple" = some b2) (e : (b1 || b2) = r) : PySem.W.kitAny K (.type t) [.type "list", .type "tuple"] = some r := by
  subst e
  refine kitAny_cons (kit_ty h1) (fun e1 => ?_) (fun e1 => by rw [e1]; rfl)
  subst e1
  refine kitAny_cons (kit_ty h2) (fun e2 => ?_) (fun e2 => by rw [e2]; rfl)
  subst e2
  exact kitAny_nil
theorem scSeq : FnScope ["thing"] ["thing"] (defScope sPIsSequence) := ⟨rfl, rfl, rfl, by decide +kernel, rfl, by decide +kernel, by decide +kernel⟩
theorem Odd.same {H H' : Hp} {v : V} {t : String} (o : Odd H v t) (s : Same H H') : Odd H' v t := by
  cases o with
  | int i => exact .int i
  | bl b => exact .bl b
  | non => exact .non
  | str x hx hs => exact .str x hx hs
  | tup h => exact .tup (s _ _ h)
  | lst h => exact .lst (s _ _ h)
  | dic h => exact .dic (s _ _ h)
theorem ok_seq {f : Addr} {fd : FuncData} (F : FnP K "is_sequence" sPIsSequence f fd) (zl : mg "list" = none) (zt : mg "tuple" = none) (zs : mg "isinstance" = none) : FnOk P w K mg base CX0 1 f fd ["thing"] spSeq := by
  refine F.ok scSeq (fun vs H Q E h => ?_) (fun cdv A outer s H vs Q E hr h => ?_)
  · obtain ⟨v, t, rfl, _⟩ := h
    rfl
  · obtain ⟨v, t, rfl, o, q⟩ := h
    refine ⟨_, PSs.nox (pss_one (ps_ret (pe_callB call_isiT (by rfl) zs (by decide +kernel) (pa_cons (pv 0) (pa_cons (pe_tup (pa_cons (pe_bltn (by rfl) zl (by decide +kernel) (v := .ty "list") rfl) (pa_cons (pe_bltn (by rfl) zt (by decide +kernel) (v := .ty "tuple") rfl) pa_nil))) pa_nil))))), ?_⟩
    refine ⟨_, rfl, (by show 2 ≤ sizeLine; decide), fun p np => ⟨_, p, _, _, [.type "list", .type "tuple"], seqT t, rfl, upd_same, .cons (.ty _) (.cons (.ty _) .nil), (o.same (same_upd np)).ty, ?_, q p np⟩⟩
    cases o with
    | tup _ => exact kit_seq (b1 := false) (b2 := true) (by decide +kernel) (by decide +kernel) (by decide +kernel)
    | lst _ => exact kit_seq (b1 := true) (b2 := false) (by decide +kernel) (by decide +kernel) (by decide +kernel)
    | _ => exact kit_seq (b1 := false) (b2 := false) (by decide +kernel) (by decide +kernel) (by decide +kernel)
/-! ### labels and ways -/
/-- "a" <= letter <= "z" -/
def lowC (c : Nat) : Bool := !decide ([c] < [97]) && !decide ([122] < [c])
def labelV (v : V) : Bool := match v with
  | .str x => (decide ((1 : Int) ≤ x.length) && decide ((x.length : Int) ≤ 6)) && x.cps.toList.all lowC
  | _ => false
def spLabel : Sp := fun vs H Q _ => ∃ (v : V) (t : String), vs = [v] ∧ Odd H v t ∧ ∀ H', Same H H' → Q (.bl (labelV v)) H'
theorem not_t {b : Bool} (h : (!b) = true) : b = false := by
  cases b with
  | false => rfl
  | true => cases h
theorem not_f {b : Bool} (h : ¬ (!b) = true) : b = true := by
  cases b with
  | true => rfl
  | false => exact absurd rfl h
theorem scLabel : FnScope ["thing", "letter"] ["thing"] (defScope sPIsLabel) := ⟨rfl, rfl, rfl, by decide +kernel, rfl, by decide +kernel, by decide +kernel⟩
theorem ok_label {f : Addr} {fd : FuncData} (F : FnP K "is_label" sPIsLabel f fd) (zt : mg "str" = none) (zs : mg "isinstance" = none) (zl : mg "len" = none) (za : mg "all" = none) : FnOk P w K mg base CX0 1 f fd ["thing"] spLabel := by
  refine F.ok scLabel (fun vs H Q E h => ?_) (fun cdv A outer s H vs Q E hr h => ?_)
  · obtain ⟨v, t, rfl, _⟩ := h
    rfl
  · obtain ⟨v, t, rfl, o, q⟩ := h
    refine ⟨_, PSs.nox (pss_cons (ps_if (PW.pt (pw_or (pt_not (pt_val (pe_callB call_isi (by rfl) zs (by decide +kernel) (pa_cons (pv 0) (pa_cons (pe_bltn (by rfl) zt (by decide +kernel) (v := .ty "str") rfl) pa_nil)))))
        (pw_or1 (pt_not (pt_chain op_le op_le pe_int (pe_callB call_len_str (by rfl) zl boot_len (pa_cons (pv 0) pa_nil)) pe_int))))) (pss_one (ps_ret pe_bl)) pss_nil)
      (pss_one (ps_ret (pe_callB (cr_all rfl) (by rfl) za (by decide +kernel) (pa_cons (pe_lc (own := [("letter", 1)]) (g := gName 1) (tt := tYes) rfl scLabel.nd (pi_str (pv 0)) (blkOk_by (N := ["thing", "letter"]) (sc := defScope sPIsLabel) (by decide +kernel))
          (fun _ _ _ _ _ => pg_name (i := 1) scLabel.nd rfl (Or.inl rfl)) (fun _ _ _ _ _ => pts_nil) (fun _ _ _ _ _ => pe_chain op_le_str op_le_str pe_str (pv 1) pe_str)) pa_nil))))), ?_⟩
    have ty := o.ty (K := K)
    cases o with
    | str x hx hs =>
      have e : labelV (.str x) = ((decide ((1 : Int) ≤ x.length) && decide ((x.length : Int) ≤ 6)) && x.cps.toList.all lowC) := rfl
      rw [e] at q
      refine ⟨_, rfl, _, _, _, _, true, rfl, .ty _, ty, kit_ty (by decide +kernel), _, rfl, iteF ?_⟩
      refine ⟨_, rfl, _, rfl, Nat.le_trans hx (by decide), _, _, rfl, rfl, _, rfl, ?_⟩
      refine ite2 (fun h1 => ?_) (fun h1 => ?_)
      · rw [h1, Bool.true_and] at q
        refine ⟨_, _, rfl, rfl, _, rfl, ?_⟩
        refine ite2 (fun h2 => ?_) (fun h2 => ?_)
        · rw [not_t h2, Bool.false_and] at q
          exact q H (Same.refl H)
        · rw [not_f h2, Bool.true_and] at q
          refine ⟨_, rfl, x, rfl, fun D nD => lc_it walk_str (fun i H' => Same H H' ∧ H' D = some (.lst (((x.cps.toList.take i).map lowC).map V.bl))) ⟨same_upd nD, upd_same⟩ (fun _ _ _ _ => trivial) ?_ ?_⟩
          · rintro i y H2 H3 hi ⟨s2, eD⟩ ⟨rfl, c, hc, rfl⟩
            have hi' : i < x.cps.toList.length := by
              rw [Array.length_toList]
              exact hi
            have hc' : x.cps.toList[i]? = some c := by
              rw [Array.getElem?_toList]
              exact hc
            have nx : ∀ b : Bool, b = lowC c → ∃ acc, H3 D = some (.lst acc) ∧ acc.length < sizeLine ∧ (Same H (upd H3 D (.lst (acc ++ [V.bl b]))) ∧ (upd H3 D (.lst (acc ++ [V.bl b]))) D = some (.lst (((x.cps.toList.take (i + 1)).map lowC).map V.bl))) := fun b eb => by
              subst eb
              refine ⟨_, eD, ?_, fun b' o' e' => ?_, ?_⟩
              · rw [List.length_map, List.length_map, List.length_take]
                exact Nat.lt_of_le_of_lt (Nat.min_le_left _ _) (Nat.lt_of_lt_of_le hi (Nat.le_trans hx (by decide)))
              · rw [upd_ne (ne_of_none e' nD)]
                exact s2 _ _ e'
              · rw [upd_same, List.take_add_one, hc', List.map_append, List.map_append]
                rfl
            refine ⟨rfl, ?_⟩
            refine ⟨_, rfl, _, _, rfl, rfl, _, rfl, ?_⟩
            refine ite2 (fun g1 => ?_) (fun g1 => ?_)
            · exact ⟨_, _, rfl, rfl, nx _ (by unfold lowC; rw [show (!decide ([c] < [97])) = true from g1, Bool.true_and]; rfl)⟩
            · exact nx _ (by unfold lowC; rw [show (!decide ([c] < [97])) = false from Bool.eq_false_iff.mpr g1, Bool.false_and])
          · rintro H2 ⟨s2, eD⟩
            have eall : x.cps.toList.take x.cps.size = x.cps.toList := List.take_of_length_le (by rw [Array.length_toList]; exact Nat.le_refl _)
            rw [eall] at eD
            refine ⟨D, _, rfl, SqL.of eD, ?_⟩
            rw [show ((x.cps.toList.map lowC).all id) = x.cps.toList.all lowC by rw [List.all_map]; rfl]
            exact q H2 s2
      · rw [Bool.eq_false_iff.mpr h1, Bool.false_and, Bool.false_and] at q
        exact ⟨_, rfl, iteT (q H (Same.refl H))⟩
    | _ => exact ⟨_, rfl, _, _, _, _, false, rfl, .ty _, ty, kit_ty (by decide +kernel), _, rfl, iteT (q H (Same.refl H))⟩
end
abbrev lettersS : Str := "abcdefghijklmnopqrstuvwxyz"
theorem letters_are : lettersS.cps.toList = (List.range 26).map (· + 97) := by decide +kernel
theorem lt_one (a b : Nat) : decide ([a] < [b]) = decide (a < b) := by
  refine decide_eq_decide.mpr ⟨fun h => ?_, fun h => ?_⟩
  · cases h with
    | rel h => exact h
    | cons h => cases h
  · exact List.Lex.rel h
theorem low_mem (c : Nat) : lowC c = decide (c ∈ lettersS.cps.toList) := by
  rw [letters_are]
  unfold lowC
  rw [lt_one, lt_one]
  by_cases h : 97 ≤ c ∧ c ≤ 122
  · have m : c ∈ (List.range 26).map (· + 97) := List.mem_map.mpr ⟨c - 97, List.mem_range.mpr (by omega), by omega⟩
    rw [decide_eq_true m, decide_eq_false (by omega), decide_eq_false (by omega)]
    rfl
  · have m : ¬ c ∈ (List.range 26).map (· + 97) := fun z => by
      obtain ⟨d, hd, e⟩ := List.mem_map.mp z
      have := List.mem_range.mp hd
      omega
    rw [decide_eq_false m]
    by_cases h2 : c < 97
    · rw [decide_eq_true h2]
      rfl
    · rw [decide_eq_true (show 122 < c by omega), decide_eq_false h2]
      rfl
structure Df (P : Program) (w : World) (K : PySem.W.Frag) (mg : Str → Option Value) (base : Heap) (x : Str) (k : Nat) (ps : List Str) (sp : Sp) (f : Addr) (fd : FuncData) : Prop where
  gl : mg x = some (.ref f)
  ok : FnOk P w K mg base CX0 k f fd ps sp
  bi : Binds K fd ps []
  kp : PySem.W.keepIn K (.ref f) = true
theorem and_kind {K : PySem.W.Frag} {σ : L2.St} {H : Hp} {v : V} {t : String} {Qc : V → Hp → Prop} (o : Odd H v t) (e0 : σ[0]? = some (some v)) (k : ∀ H', Same H H' → Qc (.bl (kindV v)) H') :
    tAndV (tCB (rIsi K) (tCons (tVar 0) (tCons (tC (.ty "str")) tNil))) (tOp (rIn K false) (tVar 0) (tLst (tCons (tC (.str "s")) (tCons (tC (.str "d")) tNil)))) σ H Qc := by
  have ty := o.ty (K := K)
  cases o with
  | str x hx hs => exact ⟨_, e0, _, _, _, _, true, rfl, .ty _, ty, kit_ty (by decide +kernel), _, rfl, iteT ⟨_, e0, (by show 2 ≤ sizeLine; decide), fun q nq => ⟨q, _, rfl, .inl (SqL.of upd_same), rfl, rfl, k _ (same_upd nq)⟩⟩⟩
  | _ => exact ⟨_, e0, _, _, _, _, false, rfl, .ty _, ty, kit_ty (by decide +kernel), _, rfl, iteF (k _ (Same.refl _))⟩
abbrev nmQ : List Str := ["_law_thing", "_law_low", "_law_high", "_law_letters", "_law_told", "_law_due", "_law_k"]
end K01

/-! odd things are drawn -/
namespace K01
open PySem PySem.Spec PyProof.Rows L2
def Kept (p : Addr) (H H' : Hp) : Prop := ∀ b o, b ≠ p → H b = some o → H' b = some o
theorem Kept.upd {p : Addr} {H : Hp} {o : HO} : Kept p H (upd H p o) := fun b u n e => by
  rw [upd_ne n]
  exact e
theorem Kept.refl {p : Addr} {H : Hp} : Kept p H H := fun b u n e => e
theorem Kept.trans {p : Addr} {H H1 H2 : Hp} (a : Kept p H H1) (b : Kept p H1 H2) : Kept p H H2 := fun c o n e => b c o n (a c o n e)
theorem Kept.same {p : Addr} {H H1 : Hp} (a : Same H H1) : Kept p H H1 := fun c o _ e => a c o e
theorem Kept.seq {p : Addr} {H H1 : Hp} {K : PySem.W.Frag} {a : Addr} {xs : List V} (k : Kept p H H1) (n : a ≠ p) (h : SqL K H a xs) : SqL K H1 a xs := by
  rcases h with (h | ⟨o, h⟩) | h
  · exact .inl (.inl (k _ _ n h))
  · exact .inl (.inr ⟨o, k _ _ n h⟩)
  · exact .inr h
theorem hand_apart {H : Hp} {p l : Addr} {cells : List Int} {i r t : Int} (h : HandAt H p l cells i r t) : l ≠ p := fun z => by
  have h1 := h.1
  have h2 := h.2.1
  rw [z, h1] at h2
  have h3 := Option.some.inj h2
  injection h3 with h4
  have h5 := congrArg List.head? h4
  cases cells with
  | nil => cases h5
  | cons c cs => cases h5
theorem hand_upd {H : Hp} {p l : Addr} {cells : List Int} {i r t i' r' t' : Int} (h : HandAt H p l cells i r t) (o : HandOk cells i' r' t') : HandAt (upd H p (handO l i' r' t')) p l cells i' r' t' := by
  refine ⟨upd_same, ?_, o⟩
  rw [upd_ne (hand_apart h)]
  exact h.2.1
theorem hand_same {H H' : Hp} {p l : Addr} {cells : List Int} {i r t : Int} (h : HandAt H p l cells i r t) (s : Same H H') : HandAt H' p l cells i r t := ⟨s _ _ h.1, s _ _ h.2.1, h.2.2⟩
theorem callR_or {X : Cx} {f : Value} {r1 r2 : List V → Hp → VK → Prop} (h1 : CallR X f r1) (h2 : CallR X f r2) : CallR X f (fun xs H Q => r1 xs H Q ∨ r2 xs H Q) := fun pins s σ H xs us Q I rv h => h.elim (h1 pins s σ H xs us Q I rv) (h2 pins s σ H xs us Q I rv)
/-- a list's item, or a text's sign -/
def spPick (K : PySem.W.Frag) : Sp := fun vs H Q _ => ∃ (p l : Addr) (cells : List Int) (i r t : Int), HandAt H p l cells i r t ∧
  ((∃ (a : Addr) (xs : List V), vs = [.ref p, .ref a] ∧ SqL K H a xs ∧ a ≠ p ∧ 0 < xs.length ∧ xs.length ≤ 1000 ∧ ∀ (v : V) (i' r' t' : Int), v ∈ xs → HandOk cells i' r' t' → Q v (upd H p (handO l i' r' t'))) ∨
   (∃ z : Str, vs = [.ref p, .str z] ∧ 0 < z.length ∧ z.length ≤ 1000 ∧ ∀ (c : Nat) (i' r' t' : Int), c ∈ z.cps.toList → HandOk cells i' r' t' → Q (.str ⟨#[c]⟩) (upd H p (handO l i' r' t'))))
section
variable {P : Program} {w : World} {K : PySem.W.Frag} {mg : Str → Option Value} {base : Heap}
theorem scPick : FnScope ["_law_hand_here", "_law_things"] ["_law_hand_here", "_law_things"] (defScope sPick) := ⟨rfl, rfl, rfl, by decide +kernel, rfl, by decide +kernel, by decide +kernel⟩
theorem ok_pick {f fD : Addr} {fd fdD : FuncData} (F : FnP K "_law_pick" sPick f fd) (zl : mg "len" = none) (dD : Df P w K mg base "_law_draw" 2 ["_law_hand_here", "_law_many"] spDraw fD fdD) : FnOk P w K mg base CX0 3 f fd ["_law_hand_here", "_law_things"] (spPick K) := by
  refine F.ok scPick (fun vs H Q E h => ?_) (fun cdv A outer s H vs Q E hr h => ?_)
  · obtain ⟨p, l, cells, i, r, t, hh, (⟨a, xs, rfl, _⟩ | ⟨z, rfl, _⟩)⟩ := h <;> rfl
  · obtain ⟨p, l, cells, i, r, t, hh, h⟩ := h
    refine ⟨_, PSs.nox (pss_one (ps_ret (pe_ix ix_seq (pv 1) (pe_call dD.ok hr (by rfl) dD.gl dD.kp dD.bi .nil pass0 (pa_cons (pv 0) (pa_cons (pe_callB (callR_or call_len_seq call_len_str) (by rfl) zl boot_len (pa_cons (pv 1) pa_nil)) pa_nil))) (fun _ _ => rfl)))), ?_⟩
    rcases h with ⟨a, xs, rfl, hS, nap, h0, h1, q⟩ | ⟨z, rfl, h0, h1, q⟩
    · refine ⟨_, rfl, _, rfl, _, rfl, .inl ⟨_, _, rfl, .inl hS, p, l, cells, i, r, t, _, rfl, hh, by omega, ?_, fun d i' r' t' d0 d1 ok' => ?_⟩⟩
      · have e : ((xs.length : Int)).natAbs = xs.length := by omega
        rw [e]
        exact Nat.lt_of_le_of_lt h1 (Nat.lt_of_lt_of_le (m := 2 ^ 20) (by decide) (Nat.pow_le_pow_right (by decide) (by decide)))
      · have hd : d.toNat < xs.length := by omega
        have hget : atI xs d = some xs[d.toNat] := by
          have z := atI_nat (xs := xs) (j := d.toNat) (v := xs[d.toNat]) (List.getElem?_eq_getElem hd)
          rw [Int.toNat_of_nonneg d0] at z
          exact z
        exact .inl ⟨_, _, _, _, rfl, rfl, Kept.upd.seq nap hS, hget, q _ i' r' t' (List.getElem_mem hd) ok'⟩
    · refine ⟨_, rfl, _, rfl, _, rfl, .inr ⟨z, rfl, Nat.le_trans h1 (by decide), p, l, cells, i, r, t, _, rfl, hh, by omega, ?_, fun d i' r' t' d0 d1 ok' => ?_⟩⟩
      · have e : ((z.length : Int)).natAbs = z.length := by omega
        rw [e]
        exact Nat.lt_of_le_of_lt h1 (Nat.lt_of_lt_of_le (m := 2 ^ 20) (by decide) (Nat.pow_le_pow_right (by decide) (by decide)))
      · have hl : z.cps.toList.length = z.length := Array.length_toList
        have hd : d.toNat < z.cps.toList.length := by omega
        have hget : atI z.cps.toList d = some (z.cps.toList[d.toNat]) := by
          have y := atI_nat (xs := z.cps.toList) (j := d.toNat) (v := z.cps.toList[d.toNat]) (List.getElem?_eq_getElem hd)
          rw [Int.toNat_of_nonneg d0] at y
          exact y
        exact .inr (.inr ⟨z, d, _, rfl, rfl, Nat.le_trans h1 (by decide), hget, q _ i' r' t' (List.getElem_mem hd) ok'⟩)
def layS (x : Str) : Prop := (PyData.str x).canLay0 = true
theorem lay_app {x : Str} {c : Nat} (h : layS x) (hc : c < 0x110000) : layS (x ++ ⟨#[c]⟩) := by
  have h1 : x.cps.all (fun c => decide (c < 0x110000)) = true := h
  show (x.cps ++ #[c]).all (fun c => decide (c < 0x110000)) = true
  rw [← Array.all_toList] at h1 ⊢
  rw [Array.toList_append, List.all_append, h1, Bool.true_and]
  show (List.all [c] _) = true
  rw [List.all_cons, decide_eq_true hc]
  rfl
theorem len_app {x : Str} {c : Nat} : (x ++ (⟨#[c]⟩ : Str)).length = x.length + 1 := by
  show (x.cps ++ #[c]).size = x.cps.size + 1
  rw [Array.size_append]
  rfl
theorem small2 {m : Int} (h : m.natAbs < 2 ^ 200) : m.natAbs < 2 ^ 8000 := Nat.lt_of_lt_of_le h (Nat.pow_le_pow_right (by decide) (by decide))
end
end K01

/-! things as data, rows -/
namespace K01
open PySem PySem.Spec PyProof.Rows L2
mutual
/-- d stands at v, all its objects are in S -/
inductive Dt (S : Addr → Prop) (H : Hp) : V → PyData → Prop
  | non : Dt S H .non .none
  | bl (b : Bool) : Dt S H (.bl b) (.bool b)
  | int (i : Int) : Dt S H (.int i) (.int i)
  | str (x : Str) (hx : x.length ≤ 1000) (hs : (PyData.str x).canLay0 = true) : Dt S H (.str x) (.str x)
  | lst {a : Addr} {xs : List V} {ds : List PyData} : S a → H a = some (.lst xs) → DtAll S H xs ds → Dt S H (.ref a) (.list ds)
  | tup {a : Addr} {xs : List V} {ds : List PyData} : S a → H a = some (.tup xs) → DtAll S H xs ds → Dt S H (.ref a) (.tuple ds)
inductive DtAll (S : Addr → Prop) (H : Hp) : List V → List PyData → Prop
  | nil : DtAll S H [] []
  | cons {v : V} {vs : List V} {d : PyData} {ds : List PyData} : Dt S H v d → DtAll S H vs ds → DtAll S H (v :: vs) (d :: ds)
end
section
variable {S S' : Addr → Prop} {H H' : Hp} {K : PySem.W.Frag}
mutual
theorem Dt.dp {v : V} {d : PyData} (h : Dt S H v d) : Dp K H v d := by
  cases h with
  | non => exact .non
  | bl b => exact .bl b
  | int i => exact .int i
  | str x _ _ => exact .str x
  | lst _ e r => exact .lst (SqL.of e) r.dp
  | tup _ e r => exact .tup (SqT.of e) r.dp
theorem DtAll.dp {vs : List V} {ds : List PyData} (h : DtAll S H vs ds) : DpAll K H vs ds := by
  cases h with
  | nil => exact .nil
  | cons a b => exact .cons a.dp b.dp
end
mutual
/-- carried to another heap -/
theorem Dt.to {v : V} {d : PyData} (h : Dt S H v d) (hS : ∀ a, S a → S' a) (k : ∀ a o, S a → H a = some o → H' a = some o) : Dt S' H' v d := by
  cases h with
  | non => exact .non
  | bl b => exact .bl b
  | int i => exact .int i
  | str x h1 h2 => exact .str x h1 h2
  | lst s e r => exact .lst (hS _ s) (k _ _ s e) (r.to hS k)
  | tup s e r => exact .tup (hS _ s) (k _ _ s e) (r.to hS k)
theorem DtAll.to {vs : List V} {ds : List PyData} (h : DtAll S H vs ds) (hS : ∀ a, S a → S' a) (k : ∀ a o, S a → H a = some o → H' a = some o) : DtAll S' H' vs ds := by
  cases h with
  | nil => exact .nil
  | cons a b => exact .cons (a.to hS k) (b.to hS k)
end
theorem Dt.same {v : V} {d : PyData} (h : Dt S H v d) (s : Same H H') : Dt S H' v d := h.to (fun _ z => z) fun a o _ e => s _ _ e
theorem DtAll.same {vs : List V} {ds : List PyData} (h : DtAll S H vs ds) (s : Same H H') : DtAll S H' vs ds := h.to (fun _ z => z) fun a o _ e => s _ _ e
abbrev Any : Addr → Prop := fun _ => True
theorem Dt.any {v : V} {d : PyData} (h : Dt S H v d) : Dt Any H v d := h.to (fun _ _ => trivial) fun _ _ _ e => e
theorem DtAll.any {vs : List V} {ds : List PyData} (h : DtAll S H vs ds) : DtAll Any H vs ds := h.to (fun _ _ => trivial) fun _ _ _ e => e
/-- another place than p, changed -/
theorem Dt.kept {v : V} {d : PyData} {p : Addr} (h : Dt S H v d) (np : ¬ S p) (k : Kept p H H') : Dt S H' v d := h.to (fun _ z => z) fun a o s e => k _ _ (fun z => np (z ▸ s)) e
theorem DtAll.kept {vs : List V} {ds : List PyData} {p : Addr} (h : DtAll S H vs ds) (np : ¬ S p) (k : Kept p H H') : DtAll S H' vs ds := h.to (fun _ z => z) fun a o s e => k _ _ (fun z => np (z ▸ s)) e
theorem DtAll.len {vs : List V} {ds : List PyData} (h : DtAll S H vs ds) : vs.length = ds.length := by
  induction ds generalizing vs with
  | nil => cases h; rfl
  | cons d ds ih => cases h with | cons a b => exact congrArg Nat.succ (ih b)
theorem DtAll.get {vs : List V} {ds : List PyData} (h : DtAll S H vs ds) {i : Nat} {v : V} (e : vs[i]? = some v) : ∃ d, ds[i]? = some d ∧ Dt S H v d := by
  induction ds generalizing vs i with
  | nil => cases h; cases e
  | cons d ds ih =>
    cases h with
    | cons a b =>
      cases i with
      | zero => cases e; exact ⟨d, rfl, a⟩
      | succ i => exact ih b e
theorem DtAll.app {vs us : List V} {ds es : List PyData} (h : DtAll S H vs ds) (g : DtAll S H us es) : DtAll S H (vs ++ us) (ds ++ es) := by
  induction ds generalizing vs with
  | nil => cases h; exact g
  | cons d ds ih => cases h with | cons a b => exact .cons a (ih b)
theorem DtAll.take {vs : List V} {ds : List PyData} (h : DtAll S H vs ds) (n : Nat) : DtAll S H (vs.take n) (ds.take n) := by
  induction ds generalizing vs n with
  | nil => cases h; cases n <;> exact .nil
  | cons d ds ih =>
    cases h with
    | cons a b =>
      cases n with
      | zero => exact .nil
      | succ n => exact .cons a (ih b n)
theorem DtAll.drop {vs : List V} {ds : List PyData} (h : DtAll S H vs ds) (n : Nat) : DtAll S H (vs.drop n) (ds.drop n) := by
  induction ds generalizing vs n with
  | nil => cases h; cases n <;> exact .nil
  | cons d ds ih =>
    cases h with
    | cons a b =>
      cases n with
      | zero => exact .cons a b
      | succ n => exact ih b n
def tyD : PyData → String
  | .none => "NoneType"
  | .bool _ => "bool"
  | .int _ => "int"
  | .str _ => "str"
  | .list _ => "list"
  | .tuple _ => "tuple"
  | .dict _ => "dict"
theorem Dt.odd {v : V} {d : PyData} (h : Dt S H v d) : Odd H v (tyD d) := by
  cases h with
  | non => exact .non
  | bl b => exact .bl b
  | int i => exact .int i
  | str x h1 h2 => exact .str x h1 h2
  | lst _ e r => exact .lst e
  | tup _ e r => exact .tup e
/-- a list or a tuple -/
def Sq (H : Hp) (a : Addr) (xs : List V) : Prop := H a = some (.lst xs) ∨ H a = some (.tup xs)
theorem Sq.same {a : Addr} {xs : List V} (h : Sq H a xs) (s : Same H H') : Sq H' a xs := h.elim (fun e => .inl (s _ _ e)) fun e => .inr (s _ _ e)
theorem Sq.or {a : Addr} {xs : List V} (h : Sq H a xs) : SqL K H a xs ∨ SqT K H a xs := h.elim (fun h => .inl (SqL.of h)) fun h => .inr (SqT.of h)
theorem Sq.ix {a : Addr} {xs : List V} (h : Sq H a xs) : SqL K H a xs ∨ SqT K H a xs := h.or
def seqD : PyData → Option (List PyData)
  | .list xs => some xs
  | .tuple xs => some xs
  | _ => none
theorem seq_ty (d : PyData) : seqT (tyD d) = (seqD d).isSome := by
  cases d with
  | none => exact (by decide : seqT "NoneType" = false)
  | bool _ => exact (by decide : seqT "bool" = false)
  | int _ => exact (by decide : seqT "int" = false)
  | str _ => exact (by decide : seqT "str" = false)
  | list _ => exact (by decide : seqT "list" = true)
  | tuple _ => exact (by decide : seqT "tuple" = true)
  | dict _ => exact (by decide : seqT "dict" = false)
theorem Dt.seq {v : V} {d : PyData} {ds : List PyData} (h : Dt S H v d) (e : seqD d = some ds) : ∃ a xs, v = .ref a ∧ S a ∧ Sq H a xs ∧ DtAll S H xs ds := by
  cases h with
  | lst s e1 r => cases e; exact ⟨_, _, rfl, s, .inl e1, r⟩
  | tup s e1 r => cases e; exact ⟨_, _, rfl, s, .inr e1, r⟩
  | _ => cases e
theorem Dt.of_seq {a : Addr} {xs : List V} {ds : List PyData} (s : S a) (h : Sq H a xs) (r : DtAll S H xs ds) : ∃ d, seqD d = some ds ∧ Dt S H (.ref a) d := h.elim (fun e => ⟨_, rfl, .lst s e r⟩) fun e => ⟨_, rfl, .tup s e r⟩
theorem Dt.str_inv {v : V} {x : Str} (h : Dt S H v (.str x)) : v = .str x ∧ x.length ≤ 1000 ∧ (PyData.str x).canLay0 = true := by cases h; exact ⟨rfl, by assumption, by assumption⟩
theorem Dt.int_inv {v : V} {i : Int} (h : Dt S H v (.int i)) : v = .int i := by cases h; rfl
end
/-! ### what is asked of a thing -/
def labelD : PyData → Bool
  | .str x => labelV (.str x)
  | _ => false
def kindD : PyData → Bool
  | .str x => kindV (.str x)
  | _ => false
def nameD : PyData → Bool
  | .int i => decide (0 ≤ i) && decide (i ≤ 10 ^ 30)
  | _ => false
def namesD (d : PyData) : Bool := match seqD d with
  | some xs => xs.all nameD
  | none => false
theorem Dt.label {S : Addr → Prop} {H : Hp} {v : V} {d : PyData} (h : Dt S H v d) : labelV v = labelD d := by cases h <;> rfl
theorem Dt.kind {S : Addr → Prop} {H : Hp} {v : V} {d : PyData} (h : Dt S H v d) : kindV v = kindD d := by cases h <;> rfl
theorem Dt.name {S : Addr → Prop} {H : Hp} {v : V} {d : PyData} (h : Dt S H v d) : wholeV v 0 (10 ^ 30) = nameD d := by cases h <;> rfl
def isRowT (z : Str) (rest : List PyData) : Bool :=
    if z = "comes" then (match rest with | [a, b, c, e] => labelD a && (kindD b && (nameD c && namesD e)) | _ => false)
    else if z = "weds" then (match rest with | [a, b] => labelD a && labelD b | _ => false)
    else if z = "born" then (match rest with | [a, b, k, l, c] => (labelD a && (labelD b && labelD l)) && (kindD k && nameD c) | _ => false)
    else if z = "dies" then (match rest with | [a] => labelD a | _ => false) else false
def isRowL : List PyData → Bool
  | .str z :: rest => isRowT z rest
  | _ => false
def isRowD (d : PyData) : Bool := match seqD d with
  | some xs => isRowL xs
  | none => false
/-- a row -/
inductive Rw where
  | comes (l k : Str) (n : Int) (hs : List Int)
  | weds (f m : Str)
  | born (f m k l : Str) (n : Int)
  | dies (l : Str)
def nameI (n : Int) : Prop := 0 ≤ n ∧ n ≤ 10 ^ 30
inductive RwL : List PyData → Rw → Prop where
  | comes {l k : Str} {n : Int} {hs : List Int} {e : PyData} (hl : labelV (.str l) = true) (hk : kindV (.str k) = true) (hn : nameI n) (he : seqD e = some (hs.map PyData.int)) (hh : ∀ x ∈ hs, nameI x) : RwL [.str "comes", .str l, .str k, .int n, e] (.comes l k n hs)
  | weds {f m : Str} (hf : labelV (.str f) = true) (hm : labelV (.str m) = true) : RwL [.str "weds", .str f, .str m] (.weds f m)
  | born {f m k l : Str} {n : Int} (hf : labelV (.str f) = true) (hm : labelV (.str m) = true) (hk : kindV (.str k) = true) (hl : labelV (.str l) = true) (hn : nameI n) : RwL [.str "born", .str f, .str m, .str k, .str l, .int n] (.born f m k l n)
  | dies {l : Str} (hl : labelV (.str l) = true) : RwL [.str "dies", .str l] (.dies l)
theorem label_inv {d : PyData} (h : labelD d = true) : ∃ x, d = .str x ∧ labelV (.str x) = true := by
  cases d with
  | str x => exact ⟨x, rfl, h⟩
  | _ => cases h
theorem kind_inv {d : PyData} (h : kindD d = true) : ∃ x, d = .str x ∧ kindV (.str x) = true := by
  cases d with
  | str x => exact ⟨x, rfl, h⟩
  | _ => cases h
theorem name_inv {d : PyData} (h : nameD d = true) : ∃ n, d = .int n ∧ nameI n := by
  cases d with
  | int n =>
    obtain ⟨a, b⟩ := Bool.and_eq_true_iff.mp (show (decide (0 ≤ n) && decide (n ≤ 10 ^ 30)) = true from h)
    exact ⟨n, rfl, of_decide_eq_true a, of_decide_eq_true b⟩
  | _ => cases h
theorem name_of {n : Int} (h : nameI n) : nameD (.int n) = true := Bool.and_eq_true_iff.mpr ⟨decide_eq_true h.1, decide_eq_true h.2⟩
theorem names_inv : ∀ {xs : List PyData}, xs.all nameD = true → ∃ hs : List Int, xs = hs.map PyData.int ∧ ∀ x ∈ hs, nameI x
  | [], _ => ⟨[], rfl, fun _ h => by cases h⟩
  | x :: xs, h => by
    obtain ⟨a, b⟩ := Bool.and_eq_true_iff.mp (show (nameD x && xs.all nameD) = true from h)
    obtain ⟨n, rfl, hn⟩ := name_inv a
    obtain ⟨hs, rfl, hh⟩ := names_inv b
    exact ⟨n :: hs, rfl, fun y hy => (List.mem_cons.mp hy).elim (fun e => e ▸ hn) (hh y)⟩
theorem names_of : ∀ {hs : List Int}, (∀ x ∈ hs, nameI x) → (hs.map PyData.int).all nameD = true
  | [], _ => rfl
  | x :: hs, h => Bool.and_eq_true_iff.mpr ⟨name_of (h x List.mem_cons_self), names_of fun y hy => h y (List.mem_cons_of_mem _ hy)⟩
theorem namesD_inv {d : PyData} (h : namesD d = true) : ∃ hs : List Int, seqD d = some (hs.map PyData.int) ∧ ∀ x ∈ hs, nameI x := by
  unfold namesD at h
  cases e : seqD d with
  | none => rw [e] at h; cases h
  | some xs =>
    rw [e] at h
    obtain ⟨hs, rfl, hh⟩ := names_inv h
    exact ⟨hs, rfl, hh⟩
theorem row_of {xs : List PyData} (h : isRowL xs = true) : ∃ r, RwL xs r := by
  unfold isRowL at h
  split at h
  · rename_i z rest
    unfold isRowT at h
    split at h
    · rename_i e
      subst e
      split at h
      · rename_i a b c e
        obtain ⟨h1, h⟩ := Bool.and_eq_true_iff.mp h
        obtain ⟨h2, h⟩ := Bool.and_eq_true_iff.mp h
        obtain ⟨h3, h4⟩ := Bool.and_eq_true_iff.mp h
        obtain ⟨l, rfl, hl⟩ := label_inv h1
        obtain ⟨k, rfl, hk⟩ := kind_inv h2
        obtain ⟨n, rfl, hn⟩ := name_inv h3
        obtain ⟨hs, he, hh⟩ := namesD_inv h4
        exact ⟨_, .comes hl hk hn he hh⟩
      · cases h
    · split at h
      · rename_i e
        subst e
        split at h
        · obtain ⟨h1, h2⟩ := Bool.and_eq_true_iff.mp h
          obtain ⟨f, rfl, hf⟩ := label_inv h1
          obtain ⟨m, rfl, hm⟩ := label_inv h2
          exact ⟨_, .weds hf hm⟩
        · cases h
      · split at h
        · rename_i e
          subst e
          split at h
          · obtain ⟨h1, h2⟩ := Bool.and_eq_true_iff.mp h
            obtain ⟨h3, h4⟩ := Bool.and_eq_true_iff.mp h1
            obtain ⟨h5, h6⟩ := Bool.and_eq_true_iff.mp h4
            obtain ⟨h7, h8⟩ := Bool.and_eq_true_iff.mp h2
            obtain ⟨f, rfl, hf⟩ := label_inv h3
            obtain ⟨m, rfl, hm⟩ := label_inv h5
            obtain ⟨l, rfl, hl⟩ := label_inv h6
            obtain ⟨k, rfl, hk⟩ := kind_inv h7
            obtain ⟨n, rfl, hn⟩ := name_inv h8
            exact ⟨_, .born hf hm hk hl hn⟩
          · cases h
        · split at h
          · rename_i e
            subst e
            split at h
            · obtain ⟨l, rfl, hl⟩ := label_inv h
              exact ⟨_, .dies hl⟩
            · cases h
          · cases h
  · cases h
theorem row_is {xs : List PyData} {r : Rw} (h : RwL xs r) : isRowL xs = true := by
  cases h with
  | @comes l k n hs e hl hk hn he hh =>
    show (labelD (.str l) && (kindD (.str k) && (nameD (.int n) && namesD e))) = true
    have e4 : namesD e = true := by
      unfold namesD
      rw [he]
      exact names_of hh
    rw [e4, show labelD (.str l) = true from hl, show kindD (.str k) = true from hk, name_of hn]
    rfl
  | @weds f m hf hm =>
    show (labelD (.str f) && labelD (.str m)) = true
    rw [show labelD (.str f) = true from hf, show labelD (.str m) = true from hm]
    rfl
  | @born f m k l n hf hm hk hl hn =>
    show ((labelD (.str f) && (labelD (.str m) && labelD (.str l))) && (kindD (.str k) && nameD (.int n))) = true
    rw [show labelD (.str f) = true from hf, show labelD (.str m) = true from hm, show labelD (.str l) = true from hl, show kindD (.str k) = true from hk, name_of hn]
    rfl
  | @dies l hl => exact (show labelD (.str l) = true from hl)
/-- what a thing is as a row -/
inductive RowD : PyData → Option Rw → Prop where
  | no {d : PyData} (h : isRowD d = false) : RowD d none
  | row {d : PyData} {xs : List PyData} {r : Rw} (e : seqD d = some xs) (h : RwL xs r) : RowD d (some r)
theorem RowD.is {d : PyData} {o : Option Rw} (h : RowD d o) : isRowD d = o.isSome := by
  cases h with
  | no h => exact h
  | row e h =>
    unfold isRowD
    rw [e]
    exact row_is h
theorem rowD_any (d : PyData) : ∃ o, RowD d o := by
  cases h : isRowD d with
  | false => exact ⟨none, .no h⟩
  | true =>
    have h2 := h
    unfold isRowD at h2
    cases e : seqD d with
    | none => rw [e] at h2; cases h2
    | some xs =>
      rw [e] at h2
      obtain ⟨r, hr⟩ := row_of h2
      exact ⟨some r, .row e hr⟩
/-- none of its parts is long -/
def okD (d : PyData) : Prop := ∀ xs, seqD d = some xs → xs.length ≤ 1000 ∧ ∀ x ∈ xs, ∀ ys, seqD x = some ys → ys.length ≤ 1000
theorem row_comes (r : List PyData) : isRowL (.str "comes" :: r) = (match r with | [a, b, c, e] => labelD a && (kindD b && (nameD c && namesD e)) | _ => false) := by
  show isRowT "comes" r = _
  unfold isRowT
  rw [if_pos rfl]
theorem row_weds (r : List PyData) : isRowL (.str "weds" :: r) = (match r with | [a, b] => labelD a && labelD b | _ => false) := by
  show isRowT "weds" r = _
  unfold isRowT
  rw [if_neg (by decide), if_pos rfl]
theorem row_born (r : List PyData) : isRowL (.str "born" :: r) = (match r with | [a, b, k, l, c] => (labelD a && (labelD b && labelD l)) && (kindD k && nameD c) | _ => false) := by
  show isRowT "born" r = _
  unfold isRowT
  rw [if_neg (by decide), if_neg (by decide), if_pos rfl]
theorem row_dies (r : List PyData) : isRowL (.str "dies" :: r) = (match r with | [a] => labelD a | _ => false) := by
  show isRowT "dies" r = _
  unfold isRowT
  rw [if_neg (by decide), if_neg (by decide), if_neg (by decide), if_pos rfl]
theorem row_comes_no {r : List PyData} (h : r.length ≠ 4) : isRowL (.str "comes" :: r) = false := by
  rw [row_comes]
  split
  · exact absurd rfl h
  · rfl
theorem row_weds_no {r : List PyData} (h : r.length ≠ 2) : isRowL (.str "weds" :: r) = false := by
  rw [row_weds]
  split
  · exact absurd rfl h
  · rfl
theorem row_born_no {r : List PyData} (h : r.length ≠ 5) : isRowL (.str "born" :: r) = false := by
  rw [row_born]
  split
  · exact absurd rfl h
  · rfl
theorem row_dies_no {r : List PyData} (h : r.length ≠ 1) : isRowL (.str "dies" :: r) = false := by
  rw [row_dies]
  split
  · exact absurd rfl h
  · rfl
theorem row_other {z : Str} {r : List PyData} (h1 : z ≠ "comes") (h2 : z ≠ "weds") (h3 : z ≠ "born") (h4 : z ≠ "dies") : isRowL (.str z :: r) = false := by
  show isRowT z r = false
  unfold isRowT
  rw [if_neg h1, if_neg h2, if_neg h3, if_neg h4]
/-- the row as its record keeps it -/
def Rw.data : Rw → PyData
  | .comes l k n hs => .tuple [.str "comes", .str l, .str k, .int n, .tuple (hs.map PyData.int)]
  | .weds f m => .tuple [.str "weds", .str f, .str m]
  | .born f m k l n => .tuple [.str "born", .str f, .str m, .str k, .str l, .int n]
  | .dies l => .tuple [.str "dies", .str l]
mutual
/-- no list in it -/
def noL : PyData → Bool
  | .list _ => false
  | .dict _ => false
  | .tuple xs => noLAll xs
  | _ => true
def noLAll : List PyData → Bool
  | [] => true
  | x :: xs => noL x && noLAll xs
end
theorem noL_ints : ∀ hs : List Int, noLAll (hs.map PyData.int) = true
  | [] => rfl
  | _ :: hs => noL_ints hs
theorem Rw.noL (r : Rw) : K01.noL r.data = true := by
  cases r with
  | comes l k n hs => exact (show (K01.noLAll (hs.map PyData.int) && true) = true by rw [noL_ints]; rfl)
  | _ => rfl
section
variable {S : Addr → Prop} {H H' : Hp}
mutual
/-- tuples alone must stay -/
theorem Dt.tups {v : V} {d : PyData} (h : Dt S H v d) (n : noL d = true) (k : ∀ a xs, S a → H a = some (.tup xs) → H' a = some (.tup xs)) : Dt S H' v d := by
  cases h with
  | non => exact .non
  | bl b => exact .bl b
  | int i => exact .int i
  | str x h1 h2 => exact .str x h1 h2
  | lst s e r => cases n
  | tup s e r => exact .tup s (k _ _ s e) (r.tups n k)
theorem DtAll.tups {vs : List V} {ds : List PyData} (h : DtAll S H vs ds) (n : noLAll ds = true) (k : ∀ a xs, S a → H a = some (.tup xs) → H' a = some (.tup xs)) : DtAll S H' vs ds := by
  cases h with
  | nil => exact .nil
  | cons a b =>
    obtain ⟨n1, n2⟩ := Bool.and_eq_true_iff.mp n
    exact .cons (a.tups n1 k) (b.tups n2 k)
end
end
theorem noLAll_app : ∀ {xs ys : List PyData}, noLAll xs = true → noLAll ys = true → noLAll (xs ++ ys) = true
  | [], _, _, h => h
  | x :: xs, ys, h, g => by
    obtain ⟨n1, n2⟩ := Bool.and_eq_true_iff.mp (show (noL x && noLAll xs) = true from h)
    exact Bool.and_eq_true_iff.mpr ⟨n1, noLAll_app n2 g⟩
end K01

/-! is it a row -/
namespace K01
open PySem PySem.Spec PyProof.Rows L2
/-- an item of a list or a tuple -/
def rSq : R2 := fun x y H Q => ∃ (p : Addr) (xs : List V) (i : Int) (v : V), x = .ref p ∧ y = .int i ∧ Sq H p xs ∧ atI xs i = some v ∧ Q v H
theorem ixS {X : Cx} : IxR X rSq := fun vl sl pins s σ H x y v u Q I rx ry q hs => by
  obtain ⟨p, xs, i, z, e1, e2, hS, e3, k⟩ := q
  exact ix_seq vl sl pins s σ H x y v u Q I rx ry (hS.elim (fun h => .inl ⟨p, xs, i, z, e1, e2, SqL.of h, e3, k⟩) fun h => .inr (.inl ⟨p, xs, i, z, e1, e2, SqT.of h, e3, k⟩)) hs
theorem atI_at {xs : List V} {v : V} (j : Nat) (h : xs[j]? = some v) : atI xs (j : Int) = some v := atI_nat h
def spNames : Sp := fun vs H Q _ => ∃ (v : V) (d : PyData), vs = [v] ∧ Dt Any H v d ∧ (∀ xs, seqD d = some xs → xs.length ≤ 1000) ∧ ∀ H', Same H H' → Q (.bl (namesD d)) H'
def spRow : Sp := fun vs H Q _ => ∃ (v : V) (d : PyData), vs = [v] ∧ Dt Any H v d ∧ okD d ∧ ∀ H', Same H H' → Q (.bl (isRowD d)) H'
/-- a list walked, or a tuple -/
theorem seq_any {K : PySem.W.Frag} {σ : L2.St} {H : Hp} {R : It → Hp → Prop} {te : TE} {a : Addr} {xs : List V} (he : ∀ Q : VK, Q (.ref a) H → te σ H Q) (hS : Sq H a xs)
    (key : ∀ (it : It) (G : Hp → Prop), Walk it xs.length G (YAt xs) → (∀ H', Same H H' → G H') → R it H) :
    iList K te σ H R ∨ iTup K te σ H R := by
  rcases hS with h | h
  · exact .inl (he _ ⟨a, rfl, ⟨_, SqL.of h⟩, key _ _ walk_list fun H' s => SqL.of (s _ _ h)⟩)
  · exact .inr (he _ ⟨a, rfl, ⟨_, SqT.of h⟩, key _ _ walk_tup fun H' s => SqT.of (s _ _ h)⟩)
theorem pi_or {X : Cx} {tg it : Expr} {w1 w2 : TI} (h1 : PI X tg it w1) (h2 : PI X tg it w2) : PI X tg it (fun σ H R => w1 σ H R ∨ w2 σ H R) :=
  ⟨fun pins s σ H R I h => h.elim (h1.run pins s σ H R I) (h2.run pins s σ H R I)⟩
section
variable {P : Program} {w : World} {K : PySem.W.Frag} {mg : Str → Option Value} {base : Heap}
theorem scNames : FnScope ["thing", "name"] ["thing"] (defScope sPAreNames) := ⟨rfl, rfl, rfl, by decide +kernel, rfl, by decide +kernel, by decide +kernel⟩
theorem all_take {xs : List PyData} {i : Nat} {d : PyData} (h : xs[i]? = some d) : (xs.take (i + 1)).map nameD = (xs.take i).map nameD ++ [nameD d] := by
  rw [List.take_add_one, h, List.map_append]
  rfl
theorem ok_names {f fS fN : Addr} {fd fdS fdN : FuncData} (F : FnP K "_are_names" sPAreNames f fd) (za : mg "all" = none) (dS : Df P w K mg base "is_sequence" 1 ["thing"] spSeq fS fdS) (dN : Df P w K mg base "is_name" 2 ["thing"] spName fN fdN) :
    FnOk P w K mg base CX0 3 f fd ["thing"] spNames := by
  refine F.ok scNames (fun vs H Q E h => ?_) (fun cdv A outer s H vs Q E hr h => ?_)
  · obtain ⟨e, d, rfl, _⟩ := h
    rfl
  · obtain ⟨v, d, rfl, hd, hlen, q⟩ := h
    refine ⟨_, PSs.nox (pss_one (ps_ret (pe_and (pe_call dS.ok (hr.mono (by decide)) (by rfl) dS.gl dS.kp dS.bi .nil pass0 (pa_cons (pv 0) pa_nil))
      (pe_one (pe_callB (cr_all rfl) (by rfl) za (by decide +kernel) (pa_cons (pe_lc (own := [("name", 1)]) (g := gName 1) (tt := tYes) rfl scNames.nd (pi_or (pi_list (pv 0)) (pi_tup (pv 0))) (blkOk_by (N := ["thing", "name"]) (sc := defScope sPAreNames) (by decide +kernel))
          (fun _ _ _ _ _ => pg_name (i := 1) scNames.nd rfl (Or.inl rfl)) (fun _ _ _ _ _ => pts_nil) (fun _ _ _ _ _ => pe_call dN.ok hr (by rfl) dN.gl dN.kp dN.bi .nil pass0 (pa_cons (pv 1) pa_nil))) pa_nil)))))), ?_⟩
    refine ⟨_, rfl, _, _, rfl, hd.odd, fun p np => ?_⟩
    have sp := same_upd (o := .tup [.ty "list", .ty "tuple"]) np
    rw [seq_ty]
    cases e : seqD d with
    | none =>
      have e2 : namesD d = false := by
        unfold namesD
        rw [e]
      rw [e2] at q
      exact ⟨_, rfl, iteF (q _ sp)⟩
    | some ds =>
      obtain ⟨a, xs, rfl, _, hS, hxs⟩ := hd.seq e
      have e2 : namesD d = ds.all nameD := by
        unfold namesD
        rw [e]
      have hl := hlen ds e
      have el := hxs.len
      have hS1 := hS.same sp
      have hxs1 := hxs.same sp
      refine ⟨true, rfl, iteT ?_⟩
      refine seq_any (fun Q q => ⟨_, rfl, q⟩) hS1 fun it G wk keep D nD => lc_it wk (fun i H' => Same (upd H p (.tup [.ty "list", .ty "tuple"])) H' ∧ H' D = some (.lst (((ds.take i).map nameD).map V.bl))) ⟨same_upd nD, upd_same⟩ (fun i H' _ h => keep _ h.1) ?_ ?_
      · rintro i y H2 H3 hi ⟨s2, eD⟩ ⟨rfl, ev⟩
        obtain ⟨z, ez, hz⟩ := hxs1.get ev
        refine ⟨rfl, ?_⟩
        refine ⟨_, rfl, y, _, rfl, (hz.same s2).odd, ?_⟩
        rw [hz.name]
        refine ⟨_, eD, ?_, fun b' o' e' => ?_, ?_⟩
        · rw [List.length_map, List.length_map, List.length_take]
          exact Nat.lt_of_le_of_lt (Nat.min_le_right _ _) (Nat.lt_of_le_of_lt hl (by decide))
        · rw [upd_ne (ne_of_none e' nD)]
          exact s2 _ _ e'
        · rw [upd_same, all_take ez, List.map_append]
          rfl
      · rintro H2 ⟨s2, eD⟩
        rw [el, List.take_of_length_le (Nat.le_refl _)] at eD
        refine ⟨D, _, rfl, SqL.of eD, ?_⟩
        rw [show ((ds.map nameD).all id) = namesD d by rw [e2, List.all_map]; rfl]
        exact q H2 (sp.trans s2)
theorem scRow : FnScope ["row", "labels"] ["row"] (defScope sPIsRow) := ⟨rfl, rfl, rfl, by decide +kernel, rfl, by decide +kernel, by decide +kernel⟩
theorem ok_row {f fS fL fK fN fA : Addr} {fd fdS fdL fdK fdN fdA : FuncData} (F : FnP K "is_row" sPIsRow f fd) (z_isinstance : mg "isinstance" = none) (z_str : mg "str" = none) (z_len : mg "len" = none)
    (dS : Df P w K mg base "is_sequence" 1 ["thing"] spSeq fS fdS) (dL : Df P w K mg base "is_label" 1 ["thing"] spLabel fL fdL) (dK : Df P w K mg base "is_kind" 1 ["thing"] spKind fK fdK)
    (dN : Df P w K mg base "is_name" 2 ["thing"] spName fN fdN) (dA : Df P w K mg base "_are_names" 3 ["thing"] spNames fA fdA) : FnOk P w K mg base CX0 4 f fd ["row"] spRow := by
  refine F.ok scRow (fun vs H Q E h => ?_) (fun cdv A outer s H vs Q E hr3 h => ?_)
  · obtain ⟨v, b, rfl, _⟩ := h
    rfl
  · obtain ⟨v, d, rfl, hd, ok, q⟩ := h
    have hr1 := hr3.mono (show 1 ≤ 3 by decide)
    have hr2 := hr3.mono (show 2 ≤ 3 by decide)
    refine ⟨_, PSs.nox (pss_cons (ps_if (PW.pt (pw_or (pt_not (pt_val (pe_call dS.ok hr1 (by rfl) dS.gl dS.kp dS.bi .nil pass0 (pa_cons (pv 0) pa_nil)))) (pw_or (pt_not (pt_truth (pv 0) (fun _ => rfl))) (pw_or1 (pt_not (pt_val (pe_callB call_isi (by rfl) z_isinstance (by decide +kernel) (pa_cons (pe_ix ixS (pv 0) pe_int (fun _ _ => rfl)) (pa_cons (pe_bltn (by rfl) z_str (by decide +kernel) (v := .ty "str") rfl) pa_nil)))))))))
      (pss_one (ps_ret pe_bl))
      pss_nil)
    (pss_cons (ps_if (pt_cmpR op_eq (pe_ix ixS (pv 0) pe_int (fun _ _ => rfl)) pe_str (nomark _))
      (pss_one (ps_ret (pe_and (pe_cmpR op_eq (pe_callB call_len_seq (by rfl) z_len boot_len (pa_cons (pv 0) pa_nil)) pe_int (nomark _)) (pe_and (pe_call dL.ok hr1 (by rfl) dL.gl dL.kp dL.bi .nil pass0 (pa_cons (pe_ix ixS (pv 0) pe_int (fun _ _ => rfl)) pa_nil)) (pe_and (pe_call dK.ok hr1 (by rfl) dK.gl dK.kp dK.bi .nil pass0 (pa_cons (pe_ix ixS (pv 0) pe_int (fun _ _ => rfl)) pa_nil)) (pe_and (pe_call dN.ok hr2 (by rfl) dN.gl dN.kp dN.bi .nil pass0 (pa_cons (pe_ix ixS (pv 0) pe_int (fun _ _ => rfl)) pa_nil)) (pe_one (pe_call dA.ok hr3 (by rfl) dA.gl dA.kp dA.bi .nil pass0 (pa_cons (pe_ix ixS (pv 0) pe_int (fun _ _ => rfl)) pa_nil)))))))))
      pss_nil)
    (pss_cons (ps_if (pt_cmpR op_eq (pe_ix ixS (pv 0) pe_int (fun _ _ => rfl)) pe_str (nomark _))
      (pss_one (ps_ret (pe_and (pe_cmpR op_eq (pe_callB call_len_seq (by rfl) z_len boot_len (pa_cons (pv 0) pa_nil)) pe_int (nomark _)) (pe_and (pe_call dL.ok hr1 (by rfl) dL.gl dL.kp dL.bi .nil pass0 (pa_cons (pe_ix ixS (pv 0) pe_int (fun _ _ => rfl)) pa_nil)) (pe_one (pe_call dL.ok hr1 (by rfl) dL.gl dL.kp dL.bi .nil pass0 (pa_cons (pe_ix ixS (pv 0) pe_int (fun _ _ => rfl)) pa_nil)))))))
      pss_nil)
    (pss_cons (ps_if (pt_cmpR op_eq (pe_ix ixS (pv 0) pe_int (fun _ _ => rfl)) pe_str (nomark _))
      (pss_cons (ps_set (i := 1) scRow.nd rfl (.inl rfl) (pe_and (pe_cmpR op_eq (pe_callB call_len_seq (by rfl) z_len boot_len (pa_cons (pv 0) pa_nil)) pe_int (nomark _)) (pe_and (pe_call dL.ok hr1 (by rfl) dL.gl dL.kp dL.bi .nil pass0 (pa_cons (pe_ix ixS (pv 0) pe_int (fun _ _ => rfl)) pa_nil)) (pe_and (pe_call dL.ok hr1 (by rfl) dL.gl dL.kp dL.bi .nil pass0 (pa_cons (pe_ix ixS (pv 0) pe_int (fun _ _ => rfl)) pa_nil)) (pe_one (pe_call dL.ok hr1 (by rfl) dL.gl dL.kp dL.bi .nil pass0 (pa_cons (pe_ix ixS (pv 0) pe_int (fun _ _ => rfl)) pa_nil)))))))
      (pss_one (ps_ret (pe_and (pv 1) (pe_and (pe_call dK.ok hr1 (by rfl) dK.gl dK.kp dK.bi .nil pass0 (pa_cons (pe_ix ixS (pv 0) pe_int (fun _ _ => rfl)) pa_nil)) (pe_one (pe_call dN.ok hr2 (by rfl) dN.gl dN.kp dN.bi .nil pass0 (pa_cons (pe_ix ixS (pv 0) pe_int (fun _ _ => rfl)) pa_nil))))))))
      pss_nil)
    (pss_one (ps_ret (pe_and (pe_cmpR op_eq (pe_ix ixS (pv 0) pe_int (fun _ _ => rfl)) pe_str (nomark _)) (pe_and (pe_cmpR op_eq (pe_callB call_len_seq (by rfl) z_len boot_len (pa_cons (pv 0) pa_nil)) pe_int (nomark _)) (pe_one (pe_call dL.ok hr1 (by rfl) dL.gl dL.kp dL.bi .nil pass0 (pa_cons (pe_ix ixS (pv 0) pe_int (fun _ _ => rfl)) pa_nil))))))))))), ?_⟩
    refine ⟨_, rfl, _, _, rfl, hd.odd, fun p np => ?_⟩
    have sp := same_upd (o := .tup [.ty "list", .ty "tuple"]) np
    rw [seq_ty]
    cases e : seqD d with
    | none =>
      have e2 : isRowD d = false := by
        unfold isRowD
        rw [e]
      rw [e2] at q
      exact ⟨_, rfl, iteT (q _ sp)⟩
    | some ds =>
    obtain ⟨a, xs, rfl, _, hS0, hxs0⟩ := hd.seq e
    have e2 : isRowD d = isRowL ds := by
      unfold isRowD
      rw [e]
    rw [e2] at q
    obtain ⟨ok1, ok2⟩ := ok ds e
    have hS := hS0.same sp
    have hxs := hxs0.same sp
    replace q : ∀ H', Same (upd H p (.tup [.ty "list", .ty "tuple"])) H' → Q (.bl (isRowL ds)) H' := fun H' s' => q H' (sp.trans s')
    clear hS0 hxs0 e e2
    generalize upd H p (.tup [.ty "list", .ty "tuple"]) = H0 at hS hxs q
    clear sp hd
    refine ⟨_, rfl, iteF ?_⟩
    cases hxs with
    | nil =>
      refine ⟨_, rfl, false, hS.elim (fun h => .inl ⟨_, SqL.of h, rfl⟩) (fun h => .inr (.inl ⟨_, SqT.of h, rfl⟩)), iteT ?_⟩
      exact q _ (Same.refl _)
    | @cons v0 vs d0 ds hv hvs =>
    refine ⟨_, rfl, true, hS.elim (fun h => .inl ⟨_, SqL.of h, rfl⟩) (fun h => .inr (.inl ⟨_, SqT.of h, rfl⟩)), iteF ?_⟩
    have el := hvs.len
    have a0 : atI (v0 :: vs) 0 = some v0 := atI_nat (j := 0) rfl
    refine ⟨_, rfl, _, _, _, v0, rfl, rfl, hS, a0, ?_⟩
    have nostr : (∀ z, d0 ≠ .str z) → isRowL (d0 :: ds) = false := fun n => by
      unfold isRowL
      split
      · rename_i z rest e
        injection e with e1 e3
        exact absurd e1 (n z)
      · rfl
    cases hv with
    | non => exact ⟨_, _, _, _, false, rfl, .ty _, .base .non, kit_ty (by decide +kernel), _, rfl, iteT (by rw [nostr fun z y => by cases y] at q; exact q _ (Same.refl _))⟩
    | bl b => exact ⟨_, _, _, _, false, rfl, .ty _, .base (.bl b), kit_ty (by decide +kernel), _, rfl, iteT (by rw [nostr fun z y => by cases y] at q; exact q _ (Same.refl _))⟩
    | int i => exact ⟨_, _, _, _, false, rfl, .ty _, .base (.int i), kit_ty (by decide +kernel), _, rfl, iteT (by rw [nostr fun z y => by cases y] at q; exact q _ (Same.refl _))⟩
    | lst _ e _ => exact ⟨_, _, _, _, false, rfl, .ty _, .base (.lst e), kit_ty (by decide +kernel), _, rfl, iteT (by rw [nostr fun z y => by cases y] at q; exact q _ (Same.refl _))⟩
    | tup _ e _ => exact ⟨_, _, _, _, false, rfl, .ty _, .base (.tup e), kit_ty (by decide +kernel), _, rfl, iteT (by rw [nostr fun z y => by cases y] at q; exact q _ (Same.refl _))⟩
    | str z hz1 hz2 =>
    refine ⟨_, _, _, _, true, rfl, .ty _, .base (.str z), kit_ty (by decide +kernel), _, rfl, iteF ?_⟩
    -- comes
    refine ⟨_, rfl, _, _, _, _, rfl, rfl, hS, a0, rfl, _, rfl, ite2 (fun g => ?_) (fun g1 => ?_)⟩
    · obtain rfl : z = "comes" := V.str.inj (of_decide_eq_true g)
      refine ⟨_, rfl, _, _, rfl, hS.or, rfl, _, rfl, ite2 (fun g => ?_) (fun g => ?_)⟩
      · have g := V.int.inj (of_decide_eq_true g)
        have n4 : ds.length = 4 := by rw [List.length_cons] at g; omega
        match vs, ds, n4, hvs, ok2, q with
        | _, [a1, a2, a3, a4], _, .cons (v := v1) h1 (.cons (v := v2) h2 (.cons (v := v3) h3 (.cons (v := v4) h4 .nil))), ok2, q =>
        replace q : ∀ H', Same H0 H' → Q (.bl (labelD a1 && (kindD a2 && (nameD a3 && namesD a4)))) H' := fun H' s' => by
          have z := q H' s'
          rw [row_comes] at z
          exact z
        refine ⟨_, rfl, _, _, _, _, rfl, rfl, hS, rfl, _, _, rfl, h1.odd, fun H1 s1 => ?_⟩
        rw [h1.label]
        cases e1 : labelD a1 with
        | false =>
          rw [e1] at q
          exact ⟨false, rfl, iteF (q _ s1)⟩
        | true =>
        refine ⟨true, rfl, iteT ?_⟩
        have hS1 := hS.same s1
        refine ⟨_, rfl, _, _, _, _, rfl, rfl, hS1, rfl, _, _, rfl, (h2.same s1).odd, ?_⟩
        rw [h2.kind]
        cases e2 : kindD a2 with
        | false =>
          rw [e1, e2] at q
          exact ⟨false, rfl, iteF (q _ s1)⟩
        | true =>
        refine ⟨true, rfl, iteT ?_⟩
        refine ⟨_, rfl, _, _, _, _, rfl, rfl, hS1, rfl, _, _, rfl, (h3.same s1).odd, ?_⟩
        rw [h3.name]
        cases e3 : nameD a3 with
        | false =>
          rw [e1, e2, e3] at q
          exact ⟨false, rfl, iteF (q _ s1)⟩
        | true =>
        refine ⟨true, rfl, iteT ?_⟩
        refine ⟨_, rfl, _, _, _, _, rfl, rfl, hS1, rfl, _, _, rfl, h4.same s1, ok2 a4 (by simp), fun H2 s2 => ?_⟩
        rw [e1, e2, e3] at q
        exact q _ (s1.trans s2)
      · have n4 : ds.length ≠ 4 := fun n => g (decide_eq_true (by rw [List.length_cons, el, n]; rfl))
        rw [row_comes_no n4] at q
        exact q _ (Same.refl _)
    have g1 : z ≠ "comes" := fun y => g1 (decide_eq_true (by rw [y]))
    -- weds
    refine ⟨_, rfl, _, _, _, _, rfl, rfl, hS, a0, rfl, _, rfl, ite2 (fun g => ?_) (fun g2 => ?_)⟩
    · obtain rfl : z = "weds" := V.str.inj (of_decide_eq_true g)
      refine ⟨_, rfl, _, _, rfl, hS.or, rfl, _, rfl, ite2 (fun g => ?_) (fun g => ?_)⟩
      · have g := V.int.inj (of_decide_eq_true g)
        have n4 : ds.length = 2 := by rw [List.length_cons] at g; omega
        match vs, ds, n4, hvs, ok2, q with
        | _, [a1, a2], _, .cons (v := v1) h1 (.cons (v := v2) h2 .nil), ok2, q =>
        replace q : ∀ H', Same H0 H' → Q (.bl (labelD a1 && labelD a2)) H' := fun H' s' => by
          have z := q H' s'
          rw [row_weds] at z
          exact z
        refine ⟨_, rfl, _, _, _, _, rfl, rfl, hS, rfl, _, _, rfl, h1.odd, fun H1 s1 => ?_⟩
        rw [h1.label]
        cases e1 : labelD a1 with
        | false =>
          rw [e1] at q
          exact ⟨false, rfl, iteF (q _ s1)⟩
        | true =>
        refine ⟨true, rfl, iteT ?_⟩
        refine ⟨_, rfl, _, _, _, _, rfl, rfl, hS.same s1, rfl, _, _, rfl, (h2.same s1).odd, fun H2 s2 => ?_⟩
        rw [h2.label]
        rw [e1] at q
        exact q _ (s1.trans s2)
      · have n4 : ds.length ≠ 2 := fun n => g (decide_eq_true (by rw [List.length_cons, el, n]; rfl))
        rw [row_weds_no n4] at q
        exact q _ (Same.refl _)
    have g2 : z ≠ "weds" := fun y => g2 (decide_eq_true (by rw [y]))
    -- born
    refine ⟨_, rfl, _, _, _, _, rfl, rfl, hS, a0, rfl, _, rfl, ite2 (fun g => ?_) (fun g3 => ?_)⟩
    · obtain rfl : z = "born" := V.str.inj (of_decide_eq_true g)
      refine ⟨_, rfl, _, _, rfl, hS.or, rfl, _, rfl, ite2 (fun g => ?_) (fun g => ?_)⟩
      · have g := V.int.inj (of_decide_eq_true g)
        have n4 : ds.length = 5 := by rw [List.length_cons] at g; omega
        match vs, ds, n4, hvs, ok2, q with
        | _, [a1, a2, a3, a4, a5], _, .cons (v := v1) h1 (.cons (v := v2) h2 (.cons (v := v3) h3 (.cons (v := v4) h4 (.cons (v := v5) h5 .nil)))), ok2, q =>
        replace q : ∀ H', Same H0 H' → Q (.bl ((labelD a1 && (labelD a2 && labelD a4)) && (kindD a3 && nameD a5))) H' := fun H' s' => by
          have z := q H' s'
          rw [row_born] at z
          exact z
        refine ⟨_, rfl, _, _, _, _, rfl, rfl, hS, rfl, _, _, rfl, h1.odd, fun H1 s1 => ?_⟩
        rw [h1.label]
        cases e1 : labelD a1 with
        | false =>
          rw [e1] at q
          exact ⟨false, rfl, iteF ⟨_, rfl, _, rfl, iteF (q _ s1)⟩⟩
        | true =>
        refine ⟨true, rfl, iteT ?_⟩
        have hS1 := hS.same s1
        refine ⟨_, rfl, _, _, _, _, rfl, rfl, hS1, rfl, _, _, rfl, (h2.same s1).odd, fun H2 s2 => ?_⟩
        have s12 := s1.trans s2
        rw [h2.label]
        cases e2 : labelD a2 with
        | false =>
          rw [e1, e2] at q
          exact ⟨false, rfl, iteF ⟨_, rfl, _, rfl, iteF (q _ s12)⟩⟩
        | true =>
        refine ⟨true, rfl, iteT ?_⟩
        refine ⟨_, rfl, _, _, _, _, rfl, rfl, hS.same s12, rfl, _, _, rfl, (h4.same s12).odd, fun H3 s3 => ?_⟩
        have s13 := s12.trans s3
        rw [h4.label]
        cases e4 : labelD a4 with
        | false =>
          rw [e1, e2, e4] at q
          exact ⟨_, rfl, _, rfl, iteF (q _ s13)⟩
        | true =>
        refine ⟨_, rfl, _, rfl, iteT ?_⟩
        refine ⟨_, rfl, _, _, _, _, rfl, rfl, hS.same s13, rfl, _, _, rfl, (h3.same s13).odd, ?_⟩
        rw [h3.kind]
        cases e3 : kindD a3 with
        | false =>
          rw [e1, e2, e4, e3] at q
          exact ⟨false, rfl, iteF (q _ s13)⟩
        | true =>
        refine ⟨true, rfl, iteT ?_⟩
        refine ⟨_, rfl, _, _, _, _, rfl, rfl, hS.same s13, rfl, _, _, rfl, (h5.same s13).odd, ?_⟩
        rw [h5.name]
        rw [e1, e2, e4, e3] at q
        exact q _ s13
      · have n4 : ds.length ≠ 5 := fun n => g (decide_eq_true (by rw [List.length_cons, el, n]; rfl))
        rw [row_born_no n4] at q
        exact ⟨_, rfl, _, rfl, iteF (q _ (Same.refl _))⟩
    have g3 : z ≠ "born" := fun y => g3 (decide_eq_true (by rw [y]))
    -- dies
    refine ⟨_, rfl, _, _, _, _, rfl, rfl, hS, a0, rfl, _, rfl, ite2 (fun g => ?_) (fun g4 => ?_)⟩
    · obtain rfl : z = "dies" := V.str.inj (of_decide_eq_true g)
      refine ⟨_, rfl, _, _, rfl, hS.or, rfl, _, rfl, ite2 (fun g => ?_) (fun g => ?_)⟩
      · have g := V.int.inj (of_decide_eq_true g)
        have n4 : ds.length = 1 := by rw [List.length_cons] at g; omega
        match vs, ds, n4, hvs, ok2, q with
        | _, [a1], _, .cons (v := v1) h1 .nil, ok2, q =>
        replace q : ∀ H', Same H0 H' → Q (.bl (labelD a1)) H' := fun H' s' => by
          have z := q H' s'
          rw [row_dies] at z
          exact z
        refine ⟨_, rfl, _, _, _, _, rfl, rfl, hS, rfl, _, _, rfl, h1.odd, fun H1 s1 => ?_⟩
        rw [h1.label]
        exact q _ s1
      · have n4 : ds.length ≠ 1 := fun n => g (decide_eq_true (by rw [List.length_cons, el, n]; rfl))
        rw [row_dies_no n4] at q
        exact q _ (Same.refl _)
    · have g4 : z ≠ "dies" := fun y => g4 (decide_eq_true (by rw [y]))
      rw [row_other g1 g2 g3 g4] at q
      exact q _ (Same.refl _)
end
end K01

/-! the book as plain lists; its making -/
namespace K01
open PySem PySem.Spec PyProof.Rows L2
structure Bk where
  kinds : List (Str × Str)
  dead : List Str
  now : List (Str × Str)
  pairs : List (Str × Str)
abbrev Bk.new : Bk := ⟨[], [], [], []⟩
def look (l : List (Str × Str)) (x : Str) : Option Str := (l.find? fun p => decide (p.1 = x)).map (·.2)
def encK (l : List (Str × Str)) : List (Key × V) := l.map fun p => (Sum.inr p.1, V.str p.2)
def keyT (p : Str × Str) : List Key := [Sum.inr p.1, Sum.inr p.2]
theorem valV_enc (l : List (Str × Str)) (x : Str) : valV (encK l) (Sum.inr x) = (look l x).map V.str := by
  induction l with
  | nil => rfl
  | cons p l ih =>
    unfold valV look encK at ih ⊢
    rw [List.map_cons, List.find?_cons, List.find?_cons]
    by_cases h : p.1 = x
    · rw [decide_eq_true (show (Sum.inr p.1 : Key) = Sum.inr x by rw [h]), decide_eq_true h]
      rfl
    · rw [decide_eq_false (show ¬ (Sum.inr p.1 : Key) = Sum.inr x from fun e => h (Sum.inr.inj e)), decide_eq_false h]
      exact ih
theorem valV_keys {κ : Type} [DecidableEq κ] (kvs : List (κ × V)) (k : κ) : (valV kvs k).isSome = decide (k ∈ kvs.map (·.1)) := by
  induction kvs with
  | nil => rfl
  | cons p l ih =>
    unfold valV at ih ⊢
    rw [List.find?_cons]
    by_cases h : p.1 = k
    · rw [decide_eq_true h, decide_eq_true (show k ∈ (p :: l).map (·.1) by rw [List.map_cons, h]; exact List.mem_cons_self)]
      rfl
    · rw [decide_eq_false h]
      rw [show decide (k ∈ (p :: l).map (·.1)) = decide (k ∈ l.map (·.1)) from decide_eq_decide.mpr ⟨fun z => (List.mem_cons.mp z).elim (fun e => absurd e.symm h) id, fun z => List.mem_cons_of_mem _ z⟩]
      exact ih
theorem valV_in {κ : Type} [DecidableEq κ] {kvs : List (κ × V)} {k : κ} (h : k ∈ kvs.map (·.1)) : (valV kvs k).isSome = true := by rw [valV_keys]; exact decide_eq_true h
theorem valV_out {κ : Type} [DecidableEq κ] {kvs : List (κ × V)} {k : κ} (h : (valV kvs k).isSome = true) : k ∈ kvs.map (·.1) := by rw [valV_keys] at h; exact of_decide_eq_true h
theorem put_enc {l : List (Str × Str)} {x : Str} (k : Str) (h : look l x = none) : putK (encK l) (Sum.inr x) (.str k) = encK (l ++ [(x, k)]) := by
  rw [putK_new _ (by rw [valV_enc, h]; rfl)]
  unfold encK
  rw [List.map_append]
  rfl
theorem drop_enc (l : List (Str × Str)) (x : Str) : dropK (encK l) (Sum.inr x) = encK (l.filter fun p => decide (p.1 ≠ x)) := by
  unfold dropK encK
  rw [List.filter_map]
  congr 1
  refine List.filter_congr fun p _ => ?_
  show decide ((Sum.inr p.1 : Key) ≠ Sum.inr x) = decide (p.1 ≠ x)
  exact decide_eq_decide.mpr ⟨fun h e => h (by rw [e]), fun h e => h (Sum.inr.inj e)⟩
theorem put_keys {κ : Type} [DecidableEq κ] (kvs : List (κ × V)) (k : κ) (v : V) : (putK kvs k v).map (·.1) = if k ∈ kvs.map (·.1) then kvs.map (·.1) else kvs.map (·.1) ++ [k] := by
  by_cases h : k ∈ kvs.map (·.1)
  · rw [if_pos h]
    have e : (valV kvs k).isSome = true := by rw [valV_keys, decide_eq_true h]
    have hany : kvs.any (fun kv => decide (kv.1 = k)) = true := by
      obtain ⟨kv, hkv, ek⟩ := List.mem_map.mp h
      exact List.any_eq_true.mpr ⟨kv, hkv, decide_eq_true ek⟩
    unfold putK
    rw [if_pos hany, List.map_map]
    refine List.map_congr_left fun kv _ => ?_
    show (if kv.1 = k then (kv.1, v) else kv).1 = kv.1
    by_cases h2 : kv.1 = k
    · rw [if_pos h2]
    · rw [if_neg h2]
  · rw [if_neg h, putK_new _ (by
      cases e : valV kvs k with
      | none => rfl
      | some z =>
        have y := valV_keys kvs k
        rw [e, decide_eq_false h] at y
        cases y), List.map_append]
    rfl
theorem put_mem {κ : Type} [DecidableEq κ] {kvs : List (κ × V)} {k : κ} {v : V} {kv : κ × V} (h : kv ∈ putK kvs k v) : kv ∈ kvs ∨ kv.2 = v := by
  unfold putK at h
  split at h
  · obtain ⟨y, hy, e⟩ := List.mem_map.mp h
    by_cases h2 : y.1 = k
    · rw [if_pos h2] at e
      exact .inr (by rw [← e])
    · rw [if_neg h2] at e
      exact .inl (e ▸ hy)
  · rcases List.mem_append.mp h with h | h
    · exact .inl h
    · rw [List.mem_singleton] at h
      exact .inr (by rw [h])
theorem valV_put {κ : Type} [DecidableEq κ] (kvs : List (κ × V)) (k j : κ) (v : V) : ((valV (putK kvs k v) j).isSome = true) ↔ ((valV kvs j).isSome = true ∨ j = k) := by
  rw [valV_keys, valV_keys, put_keys]
  by_cases h : k ∈ kvs.map (·.1)
  · rw [if_pos h]
    refine ⟨fun z => .inl z, fun z => z.elim id fun e => decide_eq_true (e ▸ h)⟩
  · rw [if_neg h]
    refine ⟨fun z => ?_, fun z => decide_eq_true (List.mem_append.mpr ?_)⟩
    · rcases List.mem_append.mp (of_decide_eq_true z) with y | y
      · exact .inl (decide_eq_true y)
      · exact .inr (List.mem_singleton.mp y)
    · exact z.elim (fun y => .inl (of_decide_eq_true y)) fun e => .inr (List.mem_singleton.mpr e)
theorem valV_mem {κ : Type} [DecidableEq κ] {kvs : List (κ × V)} {k : κ} {v : V} (h : valV kvs k = some v) : ∃ kv ∈ kvs, kv.2 = v := by
  unfold valV at h
  cases e : kvs.find? fun kv => decide (kv.1 = k) with
  | none => rw [e] at h; cases h
  | some kv =>
    rw [e] at h
    exact ⟨kv, List.mem_of_find?_eq_some e, Option.some.inj h⟩
abbrev sBInit : Stmt := inClass (top 16) 0
abbrev sBCouple : Stmt := inClass (top 16) 1
abbrev sBWrite : Stmt := inClass (top 16) 2
abbrev sBBring : Stmt := inClass (top 16) 3
abbrev sBWed : Stmt := inClass (top 16) 4
abbrev sBBury : Stmt := inClass (top 16) 5
/-- the class of books -/
structure BookC (K : PySem.W.Frag) (CB : Addr) : Prop where
  cl : Cls K CB
  nKinds : NoAttr K CB "kinds"
  nParents : NoAttr K CB "parents"
  nRows : NoAttr K CB "row_numbers"
  nDead : NoAttr K CB "dead"
  nNow : NoAttr K CB "mate_now"
  nAll : NoAttr K CB "all_mates"
  nKids : NoAttr K CB "children"
/-- where its dicts stand -/
structure Ads where
  (k p r d m a c : Addr)
abbrev Ads.fs (A : Ads) : List (Str × V) := [("kinds", .ref A.k), ("parents", .ref A.p), ("row_numbers", .ref A.r), ("dead", .ref A.d), ("mate_now", .ref A.m), ("all_mates", .ref A.a), ("children", .ref A.c)]
/-- the values are lists, new ones -/
def Lsts {κ : Type} (n : Nat) (H0 H : Hp) (kvs : List (κ × V)) : Prop := ∀ kv ∈ kvs, ∃ (l : Addr) (xs : List V), kv.2 = .ref l ∧ H l = some (.lst xs) ∧ xs.length ≤ n ∧ H0 l = none
theorem Lsts.mono {κ : Type} {n m : Nat} {H0 H H' : Hp} {kvs : List (κ × V)} (h : Lsts n H0 H kvs) (hn : n ≤ m) (k : ∀ l xs, H l = some (.lst xs) → H0 l = none → ∃ ys, H' l = some (.lst ys) ∧ ys.length + n ≤ xs.length + m) : Lsts m H0 H' kvs := fun kv hkv => by
  obtain ⟨l, xs, e1, e2, e3, e4⟩ := h kv hkv
  obtain ⟨ys, y1, y2⟩ := k l xs e2 e4
  exact ⟨l, ys, e1, y1, by omega, e4⟩
/-- at b stands a book of B -/
structure BkAt (CB : Addr) (B : Bk) (n : Nat) (H0 H : Hp) (b dx : Addr) (A : Ads) : Prop where
  hb : H b = some (.ins CB dx A.fs)
  hk : H A.k = some (.dK (encK B.kinds))
  hp : ∃ ps, H A.p = some (.dK ps) ∧ ps.length ≤ n
  hr : ∃ rs, H A.r = some (.dK rs) ∧ rs.length ≤ n
  hd : ∃ ds, H A.d = some (.dK ds) ∧ ds.map (·.1) = B.dead.map Sum.inr ∧ ds.length ≤ n
  hm : H A.m = some (.dK (encK B.now))
  ha : ∃ as, H A.a = some (.dK as) ∧ (∀ x, (look B.kinds x).isSome = true → (valV as (Sum.inr x)).isSome = true) ∧ Lsts n H0 H as ∧ as.length ≤ n
  hc : ∃ cs, H A.c = some (.dT cs) ∧ cs.map (·.1) = B.pairs.map keyT ∧ Lsts n H0 H cs ∧ cs.length ≤ n
  nd : [A.k, A.p, A.r, A.d, A.m, A.a].Nodup
  n0 : ∀ x ∈ [A.k, A.p, A.r, A.d, A.m, A.a, A.c], H0 x = none
  sm : Same H0 H
  lk : B.kinds.length ≤ n
  lm : B.now.length ≤ n
theorem BkAt.same {CB : Addr} {B : Bk} {n m : Nat} {H0 H H' : Hp} {b dx : Addr} {A : Ads} (h : BkAt CB B n H0 H b dx A) (s : Same H H') (hn : n ≤ m) : BkAt CB B m H0 H' b dx A := by
  obtain ⟨hb, hk, ⟨ps, p1, p2⟩, ⟨rs, r1, r2⟩, ⟨ds, d1, d2, d3⟩, hm, ⟨as, a1, a2, a3, a4⟩, ⟨cs, c1, c2, c3, c4⟩, nd, n0, sm, lk, lm⟩ := h
  exact ⟨s _ _ hb, s _ _ hk, ⟨ps, s _ _ p1, Nat.le_trans p2 hn⟩, ⟨rs, s _ _ r1, Nat.le_trans r2 hn⟩, ⟨ds, s _ _ d1, d2, Nat.le_trans d3 hn⟩, s _ _ hm, ⟨as, s _ _ a1, a2, a3.mono hn (fun l xs e _ => ⟨xs, s _ _ e, by omega⟩), Nat.le_trans a4 hn⟩,
    ⟨cs, s _ _ c1, c2, c3.mono hn (fun l xs e _ => ⟨xs, s _ _ e, by omega⟩), Nat.le_trans c4 hn⟩, nd, n0, sm.trans s, Nat.le_trans lk hn, Nat.le_trans lm hn⟩
def Ini (H0 H : Hp) (b CB dx : Addr) (fs : List (Str × V)) (as : List Addr) : Prop :=
  H b = some (.ins CB dx fs) ∧ as.Nodup ∧ (∀ x ∈ as, H x = some (.dK []) ∧ H0 x = none) ∧ ∀ x o, H0 x = some o → x ≠ b → H x = some o
theorem Ini.put {H0 H : Hp} {b CB dx p : Addr} {fs fs' : List (Str × V)} {as : List Addr} (I : Ini H0 H b CB dx fs as) (np : H p = none) : Ini H0 (upd (upd H p (.dK [])) b (.ins CB dx fs')) b CB dx fs' (as ++ [p]) := by
  obtain ⟨h1, h2, h3, h4⟩ := I
  have npb : p ≠ b := Ne.symm (ne_of_none h1 np)
  refine ⟨upd_same, List.nodup_append.mpr ⟨h2, List.nodup_cons.mpr ⟨by simp, List.nodup_nil⟩, fun x hx y hy e => ?_⟩, fun x hx => ?_, fun x o e ne => ?_⟩
  · rw [List.mem_singleton] at hy
    subst hy
    subst e
    rw [(h3 _ hx).1] at np
    cases np
  · rcases List.mem_append.mp hx with h | h
    · obtain ⟨e, e0⟩ := h3 x h
      refine ⟨?_, e0⟩
      rw [upd_ne (ne_of e h1 (by intro z; cases z)), upd_ne (ne_of_none e np)]
      exact e
    · rw [List.mem_singleton] at h
      subst h
      refine ⟨by rw [upd_ne npb, upd_same], ?_⟩
      cases e : H0 x with
      | none => rfl
      | some o =>
        rw [h4 x o e npb] at np
        cases np
  · rw [upd_ne ne, upd_ne (ne_of_none (h4 x o e ne) np)]
    exact h4 x o e ne
theorem Ini.at_ {H0 H : Hp} {b CB dx p : Addr} {fs : List (Str × V)} {as : List Addr} {u : HO} (I : Ini H0 H b CB dx fs as) (np : H p = none) : upd H p u b = some (.ins CB dx fs) := by
  rw [upd_ne (ne_of_none I.1 np)]
  exact I.1
theorem none_of {H H' : Hp} {y : Addr} (s : Same H H') (h : H' y = none) : H y = none := by
  cases e : H y with
  | none => rfl
  | some o =>
    rw [s y o e] at h
    cases h
def spBInit (CB : Addr) : Sp := fun vs H Q _ => ∃ (b dx : Addr) (H0 : Hp), vs = [.ref b] ∧ H b = some (.ins CB dx []) ∧ H0 b = none ∧ Same H0 H ∧ ∀ (H' : Hp) (A : Ads), BkAt CB Bk.new 0 H0 H' b dx A → Q .non H'
section
variable {P : Program} {w : World} {K : PySem.W.Frag} {mg : Str → Option Value} {base : Heap}
theorem scBInit : FnScope ["self"] ["self"] (defScope sBInit) := ⟨rfl, rfl, rfl, by decide +kernel, rfl, by decide +kernel, by decide +kernel⟩
theorem ok_binit {f CB : Addr} {fd : FuncData} (F : FunD K "__init__" "Book.__init__" (defArgs sBInit) (defBody sBInit) (defScope sBInit) [] [] f fd) (T : BookC K CB) : FnOk P w K mg base CX0 1 f fd ["self"] (spBInit CB) := by
  refine F.ok scBInit (fun vs H Q E h => ?_) (fun cdv A outer s H vs Q E hr h => ?_)
  · obtain ⟨b, dx, H0, rfl, _⟩ := h
    rfl
  · obtain ⟨b, dx, H0, rfl, hb, nb0, s0, q⟩ := h
    refine ⟨_, PSs.nox (pss_cons (ps_fld (pv 0) pe_dnewK rfl) (pss_cons (ps_fld (pv 0) pe_dnewK rfl) (pss_cons (ps_fld (pv 0) pe_dnewK rfl) (pss_cons (ps_fld (pv 0) pe_dnewK rfl) (pss_cons (ps_fld (pv 0) pe_dnewK rfl) (pss_cons (ps_fld (pv 0) pe_dnewK rfl) (pss_one (ps_fld (pv 0) pe_dnewT rfl)))))))), ?_⟩
    have I0 : Ini H H b CB dx [] [] := ⟨hb, List.nodup_nil, (fun _ h => by cases h), fun _ _ e _ => e⟩
    intro k nk
    have I1 := I0.put (fs' := putF "kinds" (.ref k) []) nk
    refine ⟨_, rfl, b, CB, dx, _, rfl, I0.at_ nk, T.cl, T.nKinds, by decide, ?_⟩
    intro p np
    have I2 := I1.put (fs' := putF "parents" (.ref p) (putF "kinds" (.ref k) [])) np
    refine ⟨_, rfl, b, CB, dx, _, rfl, I1.at_ np, T.cl, T.nParents, (show 1 < 1000 by decide), ?_⟩
    intro r nr
    have I3 := I2.put (fs' := putF "row_numbers" (.ref r) (putF "parents" (.ref p) (putF "kinds" (.ref k) []))) nr
    refine ⟨_, rfl, b, CB, dx, _, rfl, I2.at_ nr, T.cl, T.nRows, (show 2 < 1000 by decide), ?_⟩
    intro d nd
    have I4 := I3.put (fs' := putF "dead" (.ref d) (putF "row_numbers" (.ref r) (putF "parents" (.ref p) (putF "kinds" (.ref k) [])))) nd
    refine ⟨_, rfl, b, CB, dx, _, rfl, I3.at_ nd, T.cl, T.nDead, (show 3 < 1000 by decide), ?_⟩
    intro m nm
    have I5 := I4.put (fs' := putF "mate_now" (.ref m) (putF "dead" (.ref d) (putF "row_numbers" (.ref r) (putF "parents" (.ref p) (putF "kinds" (.ref k) []))))) nm
    refine ⟨_, rfl, b, CB, dx, _, rfl, I4.at_ nm, T.cl, T.nNow, (show 4 < 1000 by decide), ?_⟩
    intro a na
    have I6 := I5.put (fs' := putF "all_mates" (.ref a) (putF "mate_now" (.ref m) (putF "dead" (.ref d) (putF "row_numbers" (.ref r) (putF "parents" (.ref p) (putF "kinds" (.ref k) [])))))) na
    refine ⟨_, rfl, b, CB, dx, _, rfl, I5.at_ na, T.cl, T.nAll, (show 5 < 1000 by decide), ?_⟩
    intro c nc
    refine ⟨_, rfl, b, CB, dx, _, rfl, I6.at_ nc, T.cl, T.nKids, (show 6 < 1000 by decide), ?_⟩
    obtain ⟨h1, h2, h3, h4⟩ := I6
    have ncb : c ≠ b := Ne.symm (ne_of_none h1 nc)
    generalize upd (upd _ a (.dK [])) b (.ins CB dx (putF "all_mates" (.ref a) (putF "mate_now" (.ref m) (putF "dead" (.ref d) (putF "row_numbers" (.ref r) (putF "parents" (.ref p) (putF "kinds" (.ref k) []))))))) = H6 at h1 h3 h4 nc
    have st : ∀ {z : Addr} {o : HO}, z ≠ b → H6 z = some o → upd (upd H6 c (.dT [])) b (.ins CB dx (Ads.fs ⟨k, p, r, d, m, a, c⟩)) z = some o := fun {z o} n e => by
      rw [upd_ne n, upd_ne (ne_of_none e nc)]
      exact e
    have hn : ∀ x ∈ ([] : List Addr) ++ [k] ++ [p] ++ [r] ++ [d] ++ [m] ++ [a], H0 x = none := fun x hx => none_of s0 (h3 x hx).2
    have ne6 : ∀ x ∈ ([] : List Addr) ++ [k] ++ [p] ++ [r] ++ [d] ++ [m] ++ [a], x ≠ b := fun x hx e => by
      have z := (h3 x hx).1
      rw [e, h1] at z
      cases z
    have g : ∀ x ∈ ([] : List Addr) ++ [k] ++ [p] ++ [r] ++ [d] ++ [m] ++ [a], upd (upd H6 c (.dT [])) b (.ins CB dx (Ads.fs ⟨k, p, r, d, m, a, c⟩)) x = some (.dK []) := fun x hx => st (ne6 x hx) (h3 x hx).1
    have c0 : H0 c = none := by
      cases e : H0 c with
      | none => rfl
      | some o =>
        rw [h4 c o (s0 _ _ e) ncb] at nc
        cases nc
    refine q _ ⟨k, p, r, d, m, a, c⟩ ⟨upd_same, g k (by simp), ⟨[], g p (by simp), Nat.le_refl _⟩, ⟨[], g r (by simp), Nat.le_refl _⟩, ⟨[], g d (by simp), rfl, Nat.le_refl _⟩, g m (by simp), ⟨[], g a (by simp), (fun x hx => by cases hx), (fun kv h => by cases h), Nat.le_refl _⟩,
      ⟨[], (upd_ne ncb).trans upd_same, rfl, (fun kv h => by cases h), Nat.le_refl _⟩, h2, fun x hx => ?_, fun x o e => st (fun y => by rw [y, nb0] at e; cases e) (h4 _ _ (s0 _ _ e) (fun y => by rw [y, nb0] at e; cases e)), Nat.le_refl _, Nat.le_refl _⟩
    simp only [List.mem_cons, List.not_mem_nil, or_false] at hx
    rcases hx with rfl | rfl | rfl | rfl | rfl | rfl | rfl
    · exact hn _ (by simp)
    · exact hn _ (by simp)
    · exact hn _ (by simp)
    · exact hn _ (by simp)
    · exact hn _ (by simp)
    · exact hn _ (by simp)
    · exact c0
end
end K01

/-! a row judged by a book, and written; what a change leaves of a book -/
namespace K01
open PySem PySem.Spec PyProof.Rows L2
def coupleB (B : Bk) (f m : Str) : Bool := decide ((f, m) ∈ B.pairs) && decide (look B.now f = some m)
def lacks (B : Bk) (x : Str) : Bool := (look B.kinds x).isNone
abbrev sonK : Str := "s"
abbrev dauK : Str := "d"
def jPc (B : Bk) (wd : Int) (l : Str) (hs : List Int) : Option Str := if lacks B l = true then (if (hs.length : Int) = wd then none else some ("width" : Str)) else some ("label" : Str)
def jPw (B : Bk) (f m : Str) : Option Str := if (lacks B f || lacks B m) = true then some ("person" : Str) else if look B.kinds f ≠ some sonK ∨ look B.kinds m ≠ some dauK then some ("kind" : Str) else if f ∈ B.dead ∨ m ∈ B.dead then some ("dead" : Str) else if ((look B.now f).isSome || (look B.now m).isSome) = true then some ("wed" : Str) else none
def jPb (B : Bk) (f m l : Str) : Option Str := if (lacks B f || lacks B m) = true then some ("person" : Str) else if coupleB B f m = true then (if lacks B l = true then none else some ("label" : Str)) else some ("couple" : Str)
def jPd (B : Bk) (l : Str) : Option Str := if lacks B l = true then some ("person" : Str) else if l ∈ B.dead then some ("dead" : Str) else none
def jP (B : Bk) (wd : Int) : Rw → Option Str
  | .comes l _ _ hs => jPc B wd l hs
  | .weds f m => jPw B f m
  | .born f m _ l _ => jPb B f m l
  | .dies l => jPd B l
def without (l : List (Str × Str)) (x : Str) : List (Str × Str) := l.filter fun p => decide (p.1 ≠ x)
def wP (B : Bk) : Rw → Bk
  | .comes l k _ _ => { B with kinds := B.kinds ++ [(l, k)] }
  | .weds f m => { B with pairs := if (f, m) ∈ B.pairs then B.pairs else B.pairs ++ [(f, m)], now := B.now ++ [(f, m)] ++ [(m, f)] }
  | .born _ _ k l _ => { B with kinds := B.kinds ++ [(l, k)] }
  | .dies l => { B with dead := B.dead ++ [l], now := match look B.now l with
    | none => B.now
    | some y => without (without B.now y) l }
/-- mates are mates of one another -/
structure BkOk (B : Bk) : Prop where
  sym : ∀ x y, look B.now x = some y → look B.now y = some x
  ne : ∀ x y, look B.now x = some y → x ≠ y
theorem look_app {l : List (Str × Str)} {x k y : Str} : look (l ++ [(x, k)]) y = match look l y with | some z => some z | none => if x = y then some k else none := by
  unfold look
  rw [List.find?_append]
  cases e : l.find? fun p => decide (p.1 = y) with
  | some p => rfl
  | none =>
    show ((none : Option (Str × Str)).or ([(x, k)].find? fun p => decide (p.1 = y))).map (·.2) = _
    rw [Option.none_or, List.find?_cons]
    by_cases h : x = y
    · rw [decide_eq_true (show ((x, k) : Str × Str).1 = y from h), if_pos h]
      rfl
    · rw [decide_eq_false (show ¬ ((x, k) : Str × Str).1 = y from h), if_neg h]
      rfl
theorem look_without {l : List (Str × Str)} {x y : Str} : look (without l x) y = if y = x then none else look l y := by
  induction l with
  | nil => by_cases h : y = x <;> simp [look, without, h]
  | cons p l ih =>
    unfold look without at ih ⊢
    rw [List.filter_cons]
    by_cases h : p.1 = x
    · rw [if_neg (by simp [h]), ih]
      by_cases h2 : y = x
      · rw [if_pos h2, if_pos h2]
      · rw [if_neg h2, if_neg h2, List.find?_cons, decide_eq_false (fun e => h2 (e.symm.trans h))]
    · rw [if_pos (by simp [h]), List.find?_cons, List.find?_cons]
      by_cases h3 : p.1 = y
      · rw [decide_eq_true h3, if_neg (fun e => h (h3.trans e))]
      · rw [decide_eq_false h3]
        exact ih
theorem BkOk.new : BkOk Bk.new := ⟨(fun x y h => by cases h), (fun x y h => by cases h)⟩
theorem jP_weds {B : Bk} {wd : Int} {f m : Str} (h : jP B wd (.weds f m) = none) : (∃ a, look B.kinds f = some a) ∧ (∃ a, look B.kinds m = some a) ∧ look B.kinds f = some sonK ∧ look B.kinds m = some dauK ∧ ¬ f ∈ B.dead ∧ ¬ m ∈ B.dead ∧ look B.now f = none ∧ look B.now m = none ∧ f ≠ m := by
  replace h : jPw B f m = none := h
  unfold jPw at h
  split at h
  · cases h
  · split at h
    · cases h
    · split at h
      · cases h
      · split at h
        · cases h
        · rename_i h2 h3 h4
          have h2a : look B.kinds f = some sonK := Decidable.byContradiction fun z => h2 (.inl z)
          have h2b : look B.kinds m = some dauK := Decidable.byContradiction fun z => h2 (.inr z)
          refine ⟨⟨_, h2a⟩, ⟨_, h2b⟩, h2a, h2b, fun z => h3 (.inl z), fun z => h3 (.inr z), ?_, ?_, fun e => ?_⟩
          · cases e : look B.now f with
            | none => rfl
            | some z => rw [e] at h4; exact absurd rfl h4
          · cases e : look B.now m with
            | none => rfl
            | some z => rw [e, Bool.or_comm] at h4; exact absurd rfl h4
          · rw [e, h2b] at h2a
            exact absurd h2a (by decide)
theorem jP_born {B : Bk} {wd : Int} {f m k l : Str} {n : Int} (h : jP B wd (.born f m k l n) = none) : (f, m) ∈ B.pairs ∧ look B.now f = some m ∧ look B.kinds l = none := by
  replace h : jPb B f m l = none := h
  unfold jPb at h
  split at h
  · cases h
  · split at h
    · split at h
      · rename_i h1 h2 h3
        obtain ⟨a, b⟩ := Bool.and_eq_true_iff.mp (show (decide ((f, m) ∈ B.pairs) && decide (look B.now f = some m)) = true from h2)
        exact ⟨of_decide_eq_true a, of_decide_eq_true b, Option.isNone_iff_eq_none.mp h3⟩
      · cases h
    · cases h
theorem jP_comes {B : Bk} {wd : Int} {k l : Str} {n : Int} {hs : List Int} (h : jP B wd (.comes l k n hs) = none) : look B.kinds l = none ∧ (hs.length : Int) = wd := by
  replace h : jPc B wd l hs = none := h
  unfold jPc at h
  split at h
  · split at h
    · rename_i h1 h2
      exact ⟨Option.isNone_iff_eq_none.mp h1, h2⟩
    · cases h
  · cases h
theorem jP_dies {B : Bk} {wd : Int} {l : Str} (h : jP B wd (.dies l) = none) : (∃ a, look B.kinds l = some a) ∧ ¬ l ∈ B.dead := by
  replace h : jPd B l = none := h
  unfold jPd at h
  split at h
  · cases h
  · split at h
    · cases h
    · rename_i h1 h2
      refine ⟨?_, h2⟩
      cases e : look B.kinds l with
      | none =>
        unfold lacks at h1
        rw [e] at h1
        exact absurd rfl h1
      | some a => exact ⟨a, rfl⟩
theorem BkOk.step {B : Bk} {wd : Int} {r : Rw} (o : BkOk B) (h : jP B wd r = none) : BkOk (wP B r) := by
  cases r with
  | comes l k n hs => exact ⟨o.sym, o.ne⟩
  | born f m k l n => exact ⟨o.sym, o.ne⟩
  | weds f m =>
    obtain ⟨_, _, _, _, _, _, nf, nm, fm⟩ := jP_weds h
    have key : ∀ x, look (B.now ++ [(f, m)] ++ [(m, f)]) x = if x = f then some m else if x = m then some f else look B.now x := fun x => by
      rw [look_app, look_app]
      by_cases h1 : x = f
      · rw [h1, nf, if_pos rfl, if_pos rfl]
      · rw [if_neg h1]
        by_cases h2 : x = m
        · rw [h2, nm, if_neg (fun e => fm e), if_pos rfl]
        · rw [if_neg h2]
          cases e : look B.now x with
          | some z => rfl
          | none => rw [if_neg (Ne.symm h1), if_neg (Ne.symm h2)]
    refine ⟨fun x y hx => ?_, fun x y hx => ?_⟩
    · have hx : look (B.now ++ [(f, m)] ++ [(m, f)]) x = some y := hx
      show look (B.now ++ [(f, m)] ++ [(m, f)]) y = some x
      rw [key] at hx ⊢
      by_cases h1 : x = f
      · rw [if_pos h1] at hx
        cases hx
        rw [if_neg (Ne.symm fm), if_pos rfl, h1]
      · rw [if_neg h1] at hx
        by_cases h2 : x = m
        · rw [if_pos h2] at hx
          cases hx
          rw [if_pos rfl, h2]
        · rw [if_neg h2] at hx
          have hy := o.sym x y hx
          rw [if_neg (fun e => by rw [e, nf] at hy; cases hy), if_neg (fun e => by rw [e, nm] at hy; cases hy)]
          exact hy
    · have hx : look (B.now ++ [(f, m)] ++ [(m, f)]) x = some y := hx
      rw [key] at hx
      by_cases h1 : x = f
      · rw [if_pos h1] at hx
        cases hx
        rw [h1]
        exact fm
      · rw [if_neg h1] at hx
        by_cases h2 : x = m
        · rw [if_pos h2] at hx
          cases hx
          exact h1
        · rw [if_neg h2] at hx
          exact o.ne x y hx
  | dies l =>
    cases e : look B.now l with
    | none =>
      have e2 : (wP B (.dies l)).now = B.now := by
        show (match look B.now l with | none => B.now | some y => without (without B.now y) l) = B.now
        rw [e]
      exact ⟨fun x y hx => by rw [e2] at hx ⊢; exact o.sym x y hx, fun x y hx => by rw [e2] at hx; exact o.ne x y hx⟩
    | some z =>
      have e2 : (wP B (.dies l)).now = without (without B.now z) l := by
        show (match look B.now l with | none => B.now | some y => without (without B.now y) l) = _
        rw [e]
      have back := o.sym l z e
      refine ⟨fun x y hx => ?_, fun x y hx => ?_⟩
      · rw [e2, look_without, look_without] at hx ⊢
        by_cases h1 : x = l
        · rw [if_pos h1] at hx; cases hx
        · rw [if_neg h1] at hx
          by_cases h2 : x = z
          · rw [if_pos h2] at hx; cases hx
          · rw [if_neg h2] at hx
            have hy := o.sym x y hx
            rw [if_neg (fun q => by rw [q, e] at hy; exact h2 (Option.some.inj hy).symm), if_neg (fun q => by rw [q, back] at hy; exact h1 (Option.some.inj hy).symm)]
            exact hy
      · rw [e2, look_without, look_without] at hx
        by_cases h1 : x = l
        · rw [if_pos h1] at hx; cases hx
        · rw [if_neg h1] at hx
          by_cases h2 : x = z
          · rw [if_pos h2] at hx; cases hx
          · rw [if_neg h2] at hx
            exact o.ne x y hx
section
variable {CB : Addr} {B : Bk} {n : Nat} {H0 H : Hp} {b dx : Addr} {A : Ads}
theorem upd_same0 {z : Addr} {u : HO} (s : Same H0 H) (z0 : H0 z = none) : Same H0 (upd H z u) := fun y o e => by
  rw [upd_ne (fun q => by rw [q, z0] at e; cases e)]
  exact s _ _ e
/-- a list of its own grows by one -/
theorem BkAt.app (h : BkAt CB B n H0 H b dx A) {l : Addr} {xs : List V} (v : V) (e : H l = some (.lst xs)) (l0 : H0 l = none) : BkAt CB B (n + 1) H0 (upd H l (.lst (xs ++ [v]))) b dx A := by
  obtain ⟨hb, hk, ⟨ps, p1, p2⟩, ⟨rs, r1, r2⟩, ⟨ds, d1, d2, d3⟩, hm, ⟨as, a1, a2, a3, a4⟩, ⟨cs, c1, c2, c3, c4⟩, nd, n0, sm, lk, lm⟩ := h
  have st : ∀ {y : Addr} {o : HO}, H y = some o → (∀ zs, o ≠ .lst zs) → upd H l (.lst (xs ++ [v])) y = some o := fun {y o} ey ne => (upd_ne (ne_of ey e (ne xs))).trans ey
  have ls : ∀ (l' : Addr) (ys : List V), H l' = some (.lst ys) → H0 l' = none → ∃ zs, upd H l (.lst (xs ++ [v])) l' = some (.lst zs) ∧ zs.length + n ≤ ys.length + (n + 1) := fun l' ys el _ => by
    by_cases q : l' = l
    · rw [q] at el ⊢
      cases el.symm.trans e
      exact ⟨_, upd_same, by rw [List.length_append]; simp; omega⟩
    · exact ⟨ys, (upd_ne q).trans el, by omega⟩
  have no : ∀ {o : HO}, (∀ zs, o ≠ .lst zs) → (∀ zs, o ≠ .lst zs) := fun h => h
  exact ⟨st hb (fun _ z => by cases z), st hk (fun _ z => by cases z), ⟨ps, st p1 (fun _ z => by cases z), by omega⟩, ⟨rs, st r1 (fun _ z => by cases z), by omega⟩, ⟨ds, st d1 (fun _ z => by cases z), d2, by omega⟩, st hm (fun _ z => by cases z),
    ⟨as, st a1 (fun _ z => by cases z), a2, a3.mono (Nat.le_succ n) ls, by omega⟩, ⟨cs, st c1 (fun _ z => by cases z), c2, c3.mono (Nat.le_succ n) ls, by omega⟩, nd, n0, upd_same0 sm l0, by omega, by omega⟩
theorem Lsts.upd_dic {κ : Type} {m : Nat} {kvs : List (κ × V)} {z : Addr} {u w : HO} (h : Lsts n H0 H kvs) (hn : n ≤ m) (e : H z = some u) (nu : ∀ zs, u ≠ .lst zs) : Lsts m H0 (upd H z w) kvs :=
  h.mono hn fun l xs el _ => ⟨xs, (upd_ne (ne_of el e (fun q => nu xs q.symm))).trans el, by omega⟩
theorem BkAt.nds (h : BkAt CB B n H0 H b dx A) : (A.k ≠ A.p ∧ A.k ≠ A.r ∧ A.k ≠ A.d ∧ A.k ≠ A.m ∧ A.k ≠ A.a) ∧ (A.p ≠ A.r ∧ A.p ≠ A.d ∧ A.p ≠ A.m ∧ A.p ≠ A.a) ∧ (A.r ≠ A.d ∧ A.r ≠ A.m ∧ A.r ≠ A.a) ∧ (A.d ≠ A.m ∧ A.d ≠ A.a) ∧ A.m ≠ A.a := by
  have nd := h.nd
  simp only [List.nodup_cons, List.mem_cons, List.not_mem_nil, not_or, or_false] at nd
  obtain ⟨h1, h2, h3, h4, h5, _⟩ := nd
  exact ⟨h1, h2, h3, h4, h5⟩
theorem BkAt.cne (h : BkAt CB B n H0 H b dx A) : A.k ≠ A.c ∧ A.p ≠ A.c ∧ A.r ≠ A.c ∧ A.d ≠ A.c ∧ A.m ≠ A.c ∧ A.a ≠ A.c ∧ b ≠ A.c ∧ b ≠ A.k ∧ b ≠ A.p ∧ b ≠ A.r ∧ b ≠ A.d ∧ b ≠ A.m ∧ b ≠ A.a := by
  obtain ⟨hb, hk, ⟨ps, p1, p2⟩, ⟨rs, r1, r2⟩, ⟨ds, d1, d2, d3⟩, hm, ⟨as, a1, a2, a3, a4⟩, ⟨cs, c1, c2, c3, c4⟩, nd, n0, sm, lk, lm⟩ := h
  refine ⟨ne_of hk c1 ?_, ne_of p1 c1 ?_, ne_of r1 c1 ?_, ne_of d1 c1 ?_, ne_of hm c1 ?_, ne_of a1 c1 ?_, ne_of hb c1 ?_, ne_of hb hk ?_, ne_of hb p1 ?_, ne_of hb r1 ?_, ne_of hb d1 ?_, ne_of hb hm ?_, ne_of hb a1 ?_⟩ <;> intro z <;> cases z
/-- parents -/
theorem BkAt.put_p (h : BkAt CB B n H0 H b dx A) {ps : List (Key × V)} (e : H A.p = some (.dK ps)) (k : Key) (v : V) : BkAt CB B (n + 1) H0 (upd H A.p (.dK (putK ps k v))) b dx A := by
  obtain ⟨⟨n1, n2, n3, n4, n5⟩, ⟨n6, n7, n8, n9⟩, _⟩ := h.nds
  obtain ⟨_, m2, _, _, _, _, _, _, m9, _⟩ := h.cne
  obtain ⟨hb, hk, ⟨ps', p1, p2⟩, ⟨rs, r1, r2⟩, ⟨ds, d1, d2, d3⟩, hm, ⟨as, a1, a2, a3, a4⟩, ⟨cs, c1, c2, c3, c4⟩, nd, n0, sm, lk, lm⟩ := h
  cases e.symm.trans p1
  refine ⟨(upd_ne m9).trans hb, (upd_ne n1).trans hk, ⟨_, upd_same, ?_⟩, ⟨rs, (upd_ne (Ne.symm n6)).trans r1, by omega⟩, ⟨ds, (upd_ne (Ne.symm n7)).trans d1, d2, by omega⟩, (upd_ne (Ne.symm n8)).trans hm, ⟨as, (upd_ne (Ne.symm n9)).trans a1, a2, a3.upd_dic (Nat.le_succ n) e (fun _ z => by cases z), by omega⟩,
    ⟨cs, (upd_ne (Ne.symm m2)).trans c1, c2, c3.upd_dic (Nat.le_succ n) e (fun _ z => by cases z), by omega⟩, nd, n0, upd_same0 sm (n0 _ (by simp)), Nat.le_succ_of_le lk, Nat.le_succ_of_le lm⟩
  exact Nat.le_trans (DSub.putK_len ps k v) (by omega)
/-- the dead -/
theorem BkAt.put_d (h : BkAt CB B n H0 H b dx A) {ds : List (Key × V)} {l : Str} (e : H A.d = some (.dK ds)) (v : V) (nl : ¬ l ∈ B.dead) : BkAt CB { B with dead := B.dead ++ [l] } (n + 1) H0 (upd H A.d (.dK (putK ds (Sum.inr l) v))) b dx A := by
  obtain ⟨⟨n1, n2, n3, n4, n5⟩, ⟨n6, n7, n8, n9⟩, ⟨n10, n11, n12⟩, ⟨n13, n14⟩, _⟩ := h.nds
  obtain ⟨_, _, _, m4, _, _, _, _, _, _, m11, _⟩ := h.cne
  obtain ⟨hb, hk, ⟨ps, p1, p2⟩, ⟨rs, r1, r2⟩, ⟨ds', d1, d2, d3⟩, hm, ⟨as, a1, a2, a3, a4⟩, ⟨cs, c1, c2, c3, c4⟩, nd, n0, sm, lk, lm⟩ := h
  cases e.symm.trans d1
  refine ⟨(upd_ne m11).trans hb, (upd_ne n3).trans hk, ⟨ps, (upd_ne n7).trans p1, by omega⟩, ⟨rs, (upd_ne n10).trans r1, by omega⟩, ⟨_, upd_same, ?_, ?_⟩, (upd_ne (Ne.symm n13)).trans hm, ⟨as, (upd_ne (Ne.symm n14)).trans a1, a2, a3.upd_dic (Nat.le_succ n) e (fun _ z => by cases z), by omega⟩,
    ⟨cs, (upd_ne (Ne.symm m4)).trans c1, c2, c3.upd_dic (Nat.le_succ n) e (fun _ z => by cases z), by omega⟩, nd, n0, upd_same0 sm (n0 _ (by simp)), Nat.le_succ_of_le lk, Nat.le_succ_of_le lm⟩
  · rw [put_keys, d2, if_neg (fun z => by
      obtain ⟨y, hy, ey⟩ := List.mem_map.mp z
      exact nl ((Sum.inr.inj ey) ▸ hy)), List.map_append]
    rfl
  · exact Nat.le_trans (DSub.putK_len ds _ v) (by omega)
/-- mates now -/
theorem BkAt.set_m (h : BkAt CB B n H0 H b dx A) {now' : List (Str × Str)} (ll : now'.length ≤ n + 1) : BkAt CB { B with now := now' } (n + 1) H0 (upd H A.m (.dK (encK now'))) b dx A := by
  obtain ⟨⟨n1, n2, n3, n4, n5⟩, ⟨n6, n7, n8, n9⟩, ⟨n10, n11, n12⟩, ⟨n13, n14⟩, n15⟩ := h.nds
  obtain ⟨_, _, _, _, m5, _, _, _, _, _, _, m12, _⟩ := h.cne
  obtain ⟨hb, hk, ⟨ps, p1, p2⟩, ⟨rs, r1, r2⟩, ⟨ds, d1, d2, d3⟩, hm, ⟨as, a1, a2, a3, a4⟩, ⟨cs, c1, c2, c3, c4⟩, nd, n0, sm, lk, lm⟩ := h
  exact ⟨(upd_ne m12).trans hb, (upd_ne n4).trans hk, ⟨ps, (upd_ne n8).trans p1, by omega⟩, ⟨rs, (upd_ne n11).trans r1, by omega⟩, ⟨ds, (upd_ne n13).trans d1, d2, by omega⟩, upd_same, ⟨as, (upd_ne (Ne.symm n15)).trans a1, a2, a3.upd_dic (Nat.le_succ n) hm (fun _ z => by cases z), by omega⟩,
    ⟨cs, (upd_ne (Ne.symm m5)).trans c1, c2, c3.upd_dic (Nat.le_succ n) hm (fun _ z => by cases z), by omega⟩, nd, n0, upd_same0 sm (n0 _ (by simp)), Nat.le_succ_of_le lk, ll⟩
/-- a couple's children: a new list -/
theorem BkAt.put_c (h : BkAt CB B n H0 H b dx A) {cs : List (List Key × V)} {f m : Str} {l : Addr} (e : H A.c = some (.dT cs)) (el : H l = some (.lst [])) (l0 : H0 l = none) :
    BkAt CB { B with pairs := if (f, m) ∈ B.pairs then B.pairs else B.pairs ++ [(f, m)] } (n + 1) H0 (upd H A.c (.dT (putK cs [Sum.inr f, Sum.inr m] (.ref l)))) b dx A := by
  obtain ⟨m1, m2, m3, m4, m5, m6, m7, _⟩ := h.cne
  obtain ⟨hb, hk, ⟨ps, p1, p2⟩, ⟨rs, r1, r2⟩, ⟨ds, d1, d2, d3⟩, hm, ⟨as, a1, a2, a3, a4⟩, ⟨cs', c1, c2, c3, c4⟩, nd, n0, sm, lk, lm⟩ := h
  cases e.symm.trans c1
  have nlc : l ≠ A.c := ne_of el e (by intro z; cases z)
  refine ⟨(upd_ne m7).trans hb, (upd_ne m1).trans hk, ⟨ps, (upd_ne m2).trans p1, by omega⟩, ⟨rs, (upd_ne m3).trans r1, by omega⟩, ⟨ds, (upd_ne m4).trans d1, d2, by omega⟩, (upd_ne m5).trans hm, ⟨as, (upd_ne m6).trans a1, a2, a3.upd_dic (Nat.le_succ n) e (fun _ z => by cases z), by omega⟩,
    ⟨_, upd_same, ?_, fun kv hkv => ?_, ?_⟩, nd, n0, upd_same0 sm (n0 _ (by simp)), Nat.le_succ_of_le lk, Nat.le_succ_of_le lm⟩
  · have iff_ : ([Sum.inr f, Sum.inr m] : List Key) ∈ B.pairs.map keyT ↔ (f, m) ∈ B.pairs := ⟨fun z => by
      obtain ⟨⟨f', m'⟩, hy, ey⟩ := List.mem_map.mp z
      have ey : ([Sum.inr f', Sum.inr m'] : List Key) = [Sum.inr f, Sum.inr m] := ey
      injection ey with e1 e2
      injection e2 with e2 _
      rw [Sum.inr.inj e1, Sum.inr.inj e2] at hy
      exact hy, fun z => List.mem_map.mpr ⟨_, z, rfl⟩⟩
    rw [put_keys, c2]
    by_cases z : (f, m) ∈ B.pairs
    · rw [if_pos (iff_.mpr z)]
      show _ = (if (f, m) ∈ B.pairs then B.pairs else B.pairs ++ [(f, m)]).map keyT
      rw [if_pos z]
    · rw [if_neg (fun y => z (iff_.mp y))]
      show _ = (if (f, m) ∈ B.pairs then B.pairs else B.pairs ++ [(f, m)]).map keyT
      rw [if_neg z, List.map_append]
      rfl
  · rcases put_mem hkv with hkv | hkv
    · exact (c3.upd_dic (Nat.le_succ n) e (fun _ z => by cases z)) kv hkv
    · exact ⟨l, [], hkv, (upd_ne nlc).trans el, Nat.zero_le _, l0⟩
  · exact Nat.le_trans (DSub.putK_len cs _ _) (by omega)
/-- a person is brought -/
theorem BkAt.put3 (h : BkAt CB B n H0 H b dx A) {rs as : List (Key × V)} {l k : Str} {i : Int} {z : Addr} (er : H A.r = some (.dK rs)) (ea : H A.a = some (.dK as)) (nl : look B.kinds l = none)
    (nz : upd (upd H A.k (.dK (encK (B.kinds ++ [(l, k)])))) A.r (.dK (putK rs (Sum.inr l) (.int i))) z = none) :
    BkAt CB { B with kinds := B.kinds ++ [(l, k)] } (n + 1) H0 (upd (upd (upd (upd H A.k (.dK (encK (B.kinds ++ [(l, k)])))) A.r (.dK (putK rs (Sum.inr l) (.int i)))) z (.lst [])) A.a (.dK (putK as (Sum.inr l) (.ref z)))) b dx A := by
  obtain ⟨⟨n1, n2, n3, n4, n5⟩, ⟨n6, n7, n8, n9⟩, ⟨n10, n11, n12⟩, ⟨n13, n14⟩, n15⟩ := h.nds
  obtain ⟨m1, m2, m3, m4, m5, m6, m7, m8, m9, m10, m11, m12, m13⟩ := h.cne
  obtain ⟨hb, hk, ⟨ps, p1, p2⟩, ⟨rs', r1, r2⟩, ⟨ds, d1, d2, d3⟩, hm, ⟨as', a1, a2, a3, a4⟩, ⟨cs, c1, c2, c3, c4⟩, nd, n0, sm, lk, lm⟩ := h
  cases er.symm.trans r1
  cases ea.symm.trans a1
  have st : ∀ {y : Addr} {o : HO}, y ≠ A.k → y ≠ A.r → y ≠ A.a → H y = some o → upd (upd (upd (upd H A.k (.dK (encK (B.kinds ++ [(l, k)])))) A.r (.dK (putK rs (Sum.inr l) (.int i)))) z (.lst [])) A.a (.dK (putK as (Sum.inr l) (.ref z))) y = some o := fun {y o} y1 y2 y3 e => by
    have e2 : upd (upd H A.k (.dK (encK (B.kinds ++ [(l, k)])))) A.r (.dK (putK rs (Sum.inr l) (.int i))) y = some o := by rw [upd_ne y2, upd_ne y1]; exact e
    rw [upd_ne y3, upd_ne (ne_of_none e2 nz)]
    exact e2
  have zH : H z = none := by
    by_cases q1 : z = A.r
    · rw [q1, upd_same] at nz; cases nz
    · rw [upd_ne q1] at nz
      by_cases q2 : z = A.k
      · rw [q2, upd_same] at nz; cases nz
      · rw [upd_ne q2] at nz; exact nz
  have zk : A.k ≠ z := ne_of_none hk zH
  have zr : A.r ≠ z := ne_of_none er zH
  have za : A.a ≠ z := ne_of_none ea zH
  have z0 : H0 z = none := none_of sm zH
  have ls : ∀ {κ : Type} {kvs : List (κ × V)}, Lsts n H0 H kvs → Lsts (n + 1) H0 (upd (upd (upd (upd H A.k (.dK (encK (B.kinds ++ [(l, k)])))) A.r (.dK (putK rs (Sum.inr l) (.int i)))) z (.lst [])) A.a (.dK (putK as (Sum.inr l) (.ref z)))) kvs := fun {κ kvs} h => h.mono (Nat.le_succ n) fun l' xs el _ =>
    ⟨xs, st (ne_of el hk (by intro z; cases z)) (ne_of el er (by intro z; cases z)) (ne_of el ea (by intro z; cases z)) el, by omega⟩
  refine ⟨st m8 m10 m13 hb, ?_, ⟨ps, st (Ne.symm n1) n6 n9 p1, by omega⟩, ⟨putK rs (Sum.inr l) (.int i), ?_, Nat.le_trans (DSub.putK_len rs _ _) (by omega)⟩, ⟨ds, st (Ne.symm n3) (Ne.symm n10) n14 d1, d2, by omega⟩, st (Ne.symm n4) (Ne.symm n11) n15 hm, ⟨_, upd_same, fun x hx => ?_, fun kv hkv => ?_, Nat.le_trans (DSub.putK_len as _ _) (by omega)⟩,
    ⟨cs, st (Ne.symm m1) (Ne.symm m3) (Ne.symm m6) c1, c2, ls c3, by omega⟩, nd, n0, ?_, (by show (B.kinds ++ [(l, k)]).length ≤ n + 1; rw [List.length_append]; exact Nat.succ_le_succ lk), Nat.le_succ_of_le lm⟩
  · rw [upd_ne n5, upd_ne zk, upd_ne n2, upd_same]
  · rw [upd_ne n12, upd_ne zr, upd_same]
  · refine (valV_put as _ _ _).mpr ?_
    by_cases q : x = l
    · exact .inr (by rw [q])
    · refine .inl (a2 x ?_)
      have hx : (look (B.kinds ++ [(l, k)]) x).isSome = true := hx
      rw [look_app] at hx
      cases e : look B.kinds x with
      | some y => rfl
      | none =>
        rw [e] at hx
        have hx : (if l = x then some k else none).isSome = true := hx
        rw [if_neg (Ne.symm q)] at hx
        cases hx
  · rcases put_mem hkv with hkv | hkv
    · exact ls a3 kv hkv
    · exact ⟨z, [], hkv, by rw [upd_ne (Ne.symm za), upd_same], Nat.zero_le _, z0⟩
  · exact upd_same0 (upd_same0 (upd_same0 (upd_same0 sm (n0 _ (by simp))) (n0 _ (by simp))) z0) (n0 _ (by simp))
end
end K01

/-! the book's methods -/
namespace K01
open PySem PySem.Spec PyProof.Rows L2
def spCouple (CB : Addr) : Sp := fun vs H Q _ => ∃ (b dx : Addr) (B : Bk) (n : Nat) (H0 : Hp) (A : Ads) (f m : Str), vs = [.ref b, .str f, .str m] ∧ BkAt CB B n H0 H b dx A ∧ ∀ H', Same H H' → Q (.bl (coupleB B f m)) H'
def spBring (CB : Addr) : Sp := fun vs H Q _ => ∃ (b dx : Addr) (B : Bk) (n : Nat) (H0 : Hp) (A : Ads) (i : Int) (l k : Str), vs = [.ref b, .int i, .str l, .str k] ∧ BkAt CB B n H0 H b dx A ∧ n < 100000 ∧ look B.kinds l = none ∧
  ∀ H', BkAt CB { B with kinds := B.kinds ++ [(l, k)] } (n + 1) H0 H' b dx A → Q .non H'
def spWed (CB : Addr) : Sp := fun vs H Q _ => ∃ (b dx : Addr) (B : Bk) (n : Nat) (H0 : Hp) (A : Ads) (f m : Str), vs = [.ref b, .str f, .str m] ∧ BkAt CB B n H0 H b dx A ∧ n < 100000 ∧ jP B 0 (.weds f m) = none ∧
  ∀ H', BkAt CB (wP B (.weds f m)) (n + 5) H0 H' b dx A → Q .non H'
def spBury (CB : Addr) : Sp := fun vs H Q _ => ∃ (b dx : Addr) (B : Bk) (n : Nat) (H0 : Hp) (A : Ads) (l : Str), vs = [.ref b, .str l] ∧ BkAt CB B n H0 H b dx A ∧ n < 100000 ∧ jP B 0 (.dies l) = none ∧ BkOk B ∧
  ∀ H', BkAt CB (wP B (.dies l)) (n + 3) H0 H' b dx A → Q .non H'
def spWrite (CB : Addr) : Sp := fun vs H Q _ => ∃ (b dx : Addr) (B : Bk) (n : Nat) (H0 : Hp) (A : Ads) (i : Int) (v : V) (d : PyData) (xs : List PyData) (r : Rw) (wd : Int), vs = [.ref b, .int i, v] ∧ BkAt CB B n H0 H b dx A ∧ n < 90000 ∧ BkOk B ∧ Dt Any H0 v d ∧ seqD d = some xs ∧ RwL xs r ∧ jP B wd r = none ∧
  ∀ H', BkAt CB (wP B r) (n + 5) H0 H' b dx A → Q .non H'
theorem lt_line {n m : Nat} (h : n ≤ m) (hm : m < 200000) : n < sizeLine := Nat.lt_of_le_of_lt h (Nat.lt_of_lt_of_le hm (by decide))
section
variable {P : Program} {w : World} {K : PySem.W.Frag} {mg : Str → Option Value} {base : Heap}
theorem ok_couple {f CB : Addr} {fd : FuncData} (F : FunD K "is_couple" "Book.is_couple" (defArgs sBCouple) (defBody sBCouple) (defScope sBCouple) [] [] f fd) (T : BookC K CB) : FnOk P w K mg base CX0 1 f fd ["self", "father", "mother"] (spCouple CB) := by
  have sc : FnScope ["self", "father", "mother"] ["self", "father", "mother"] (defScope sBCouple) := ⟨rfl, rfl, rfl, by decide +kernel, rfl, by decide +kernel, by decide +kernel⟩
  refine F.ok sc (fun vs H Q E h => ?_) (fun cdv A outer s H vs Q E hr h => ?_)
  · obtain ⟨b, dx, B, n, H0, A, f, m, rfl, _⟩ := h
    rfl
  · obtain ⟨b, dx, B, n, H0, A, f, m, rfl, hB, q⟩ := h
    have hu := hu_of hr
    refine ⟨_, PSs.nox (pss_one (ps_ret (pe_and (pe_cmp (pc_din hu (pe_tup (pa_cons (pv 1) (pa_cons (pv 2) pa_nil))) (pe_fld (pv 0) rfl)) rfl) (pe_one (pe_cmpR op_eq (pe_dget1 hu (pe_fld (pv 0) rfl) (pv 1) ⟨rfl, rfl, rfl, rfl⟩) (pv 2) (nomark _)))))), ?_⟩
    refine ⟨_, rfl, _, rfl, (by show 2 ≤ sizeLine; decide), fun t nt => ?_⟩
    have s1 := same_upd (o := .tup [V.str f, V.str m]) nt
    have et : upd H t (.tup [V.str f, V.str m]) t = some (.tup [V.str f, V.str m]) := upd_same
    have h1 := hB.same s1 (Nat.le_refl _)
    generalize upd H t (.tup [V.str f, V.str m]) = H1 at s1 et h1
    obtain ⟨cs, c1, c2, _⟩ := h1.hc
    refine ⟨_, rfl, b, CB, dx, _, _, rfl, h1.hb, T.cl, T.nKids, rfl, A.c, _, rfl, DGet.t (k := [Sum.inr f, Sum.inr m]) c1 et, ?_⟩
    have e1 : (valV cs [Sum.inr f, Sum.inr m]).isSome = decide ((f, m) ∈ B.pairs) := by
      rw [valV_keys, c2]
      refine decide_eq_decide.mpr ⟨fun z => ?_, fun z => List.mem_map.mpr ⟨_, z, rfl⟩⟩
      obtain ⟨⟨f', m'⟩, hy, ey⟩ := List.mem_map.mp z
      have ey : ([Sum.inr f', Sum.inr m'] : List Key) = [Sum.inr f, Sum.inr m] := ey
      injection ey with e1 e2
      injection e2 with e2 _
      rw [Sum.inr.inj e1, Sum.inr.inj e2] at hy
      exact hy
    refine ⟨_, rfl, ?_⟩
    rw [e1]
    have eq : coupleB B f m = (decide ((f, m) ∈ B.pairs) && decide (look B.now f = some m)) := rfl
    rw [eq] at q
    refine ite2 (fun g => ?_) (fun g => ?_)
    · rw [g, Bool.true_and] at q
      refine ⟨_, rfl, b, CB, dx, _, _, rfl, h1.hb, T.cl, T.nNow, rfl, A.m, rfl, .inl ⟨_, .inl h1.hm⟩, _, rfl, _, DGet.k (k := Sum.inr f) h1.hm, ?_⟩
      rw [valV_enc]
      cases e : look B.now f with
      | none =>
        refine ⟨_, rfl, rfl, ?_⟩
        rw [e] at q
        rw [decide_eq_false (show ¬ (none : Option Str) = some m from fun z => by cases z)] at q
        exact q _ s1
      | some z =>
        refine ⟨_, rfl, rfl, ?_⟩
        rw [e] at q
        rw [show decide (some z = some m) = decide (V.str z = V.str m) from decide_eq_decide.mpr ⟨fun y => by rw [Option.some.inj y], fun y => by rw [V.str.inj y]⟩] at q
        exact q _ s1
    · rw [Bool.eq_false_iff.mpr g, Bool.false_and] at q
      exact q _ s1
theorem ok_bring {f CB : Addr} {fd : FuncData} (F : FunD K "bring" "Book.bring" (defArgs sBBring) (defBody sBBring) (defScope sBBring) [] [] f fd) (T : BookC K CB) : FnOk P w K mg base CX0 1 f fd ["self", "index", "label", "kind"] (spBring CB) := by
  have sc : FnScope ["self", "index", "label", "kind"] ["self", "index", "label", "kind"] (defScope sBBring) := ⟨rfl, rfl, rfl, by decide +kernel, rfl, by decide +kernel, by decide +kernel⟩
  refine F.ok sc (fun vs H Q E h => ?_) (fun cdv A outer s H vs Q E hr h => ?_)
  · obtain ⟨b, dx, B, n, H0, A, i, l, k, rfl, _⟩ := h
    rfl
  · obtain ⟨b, dx, B, n, H0, A, i, l, k, rfl, hB, hn, nl, q⟩ := h
    have hu := hu_of hr
    refine ⟨_, PSs.nox (pss_cons (ps_dput hu (pe_fld (pv 0) rfl) (pv 2) (pv 3) rfl) (pss_cons (ps_dput hu (pe_fld (pv 0) rfl) (pv 2) (pv 1) rfl) (pss_one (ps_dput hu (pe_fld (pv 0) rfl) (pv 2) (pe_lst pa_nil) rfl)))), ?_⟩
    obtain ⟨⟨n1, n2, n3, n4, n5⟩, _, ⟨n10, n11, n12⟩, _⟩ := hB.nds
    obtain ⟨m1, m2, m3, m4, m5, m6, m7, m8, m9, m10, m11, m12, m13⟩ := hB.cne
    obtain ⟨rs, r1, r2⟩ := hB.hr
    obtain ⟨as, a1, a2, a3, a4⟩ := hB.ha
    have pk := put_enc (l := B.kinds) k nl
    have lk : (encK B.kinds).length = B.kinds.length := List.length_map ..
    refine ⟨_, rfl, _, rfl, b, CB, dx, _, _, rfl, hB.hb, T.cl, T.nKinds, rfl, _, rfl, A.k, _, rfl, DPut.k (k := Sum.inr l) hB.hk (by rw [lk]; exact lt_line hB.lk (by omega)), ?_⟩
    rw [pk]
    refine ⟨_, rfl, _, rfl, b, CB, dx, _, _, rfl, (upd_ne m8).trans hB.hb, T.cl, T.nRows, rfl, _, rfl, A.r, _, rfl, DPut.k (k := Sum.inr l) ((upd_ne (Ne.symm n2)).trans r1) (lt_line r2 (by omega)), ?_⟩
    refine ⟨(by decide), fun z nz => ?_⟩
    have st : ∀ {y : Addr} {o : HO}, y ≠ A.k → y ≠ A.r → H y = some o → upd (upd (upd H A.k (.dK (encK (B.kinds ++ [(l, k)])))) A.r (.dK (putK rs (Sum.inr l) (.int i)))) z (.lst []) y = some o := fun {y o} y1 y2 e => by
      have e2 : upd (upd H A.k (.dK (encK (B.kinds ++ [(l, k)])))) A.r (.dK (putK rs (Sum.inr l) (.int i))) y = some o := by rw [upd_ne y2, upd_ne y1]; exact e
      rw [upd_ne (ne_of_none e2 nz)]
      exact e2
    refine ⟨_, rfl, b, CB, dx, _, _, rfl, st m8 m10 hB.hb, T.cl, T.nAll, rfl, _, rfl, A.a, _, rfl, DPut.k (k := Sum.inr l) (st (Ne.symm n5) (Ne.symm n12) a1) (lt_line a4 (by omega)), ?_⟩
    exact q _ (hB.put3 r1 a1 nl nz)
theorem ok_wed {f CB : Addr} {fd : FuncData} (F : FunD K "wed" "Book.wed" (defArgs sBWed) (defBody sBWed) (defScope sBWed) [] [] f fd) (T : BookC K CB) : FnOk P w K mg base CX0 1 f fd ["self", "father", "mother"] (spWed CB) := by
  have sc : FnScope ["self", "father", "mother"] ["self", "father", "mother"] (defScope sBWed) := ⟨rfl, rfl, rfl, by decide +kernel, rfl, by decide +kernel, by decide +kernel⟩
  refine F.ok sc (fun vs H Q E h => ?_) (fun cdv A outer s H vs Q E hr h => ?_)
  · obtain ⟨b, dx, B, n, H0, A, f, m, rfl, _⟩ := h
    rfl
  · obtain ⟨b, dx, B, n, H0, A, f, m, rfl, hB, hn, hj, q⟩ := h
    have hu := hu_of hr
    obtain ⟨⟨kf, ef⟩, ⟨km, em⟩, _, _, _, _, nf, nm, fm⟩ := jP_weds hj
    refine ⟨_, PSs.nox (pss_cons (ps_dput hu (pe_fld (pv 0) rfl) (pe_tup (pa_cons (pv 1) (pa_cons (pv 2) pa_nil))) (pe_lst pa_nil) rfl) (pss_cons (ps_dput hu (pe_fld (pv 0) rfl) (pv 1) (pv 2) rfl) (pss_cons (ps_dput hu (pe_fld (pv 0) rfl) (pv 2) (pv 1) rfl)
      (pss_cons (ps_expr (pe_bm PySem.F.plainAttrs_list PySem.F.slot_list_append PySem.F.type_list_append mt_append (pe_dget hu (pe_fld (pv 0) rfl) (pv 1) (fun _ _ => rfl)) (pa_cons (pv 2) pa_nil)))
      (pss_one (ps_expr (pe_bm PySem.F.plainAttrs_list PySem.F.slot_list_append PySem.F.type_list_append mt_append (pe_dget hu (pe_fld (pv 0) rfl) (pv 2) (fun _ _ => rfl)) (pa_cons (pv 1) pa_nil)))))))), ?_⟩
    -- children[father, mother] = []
    refine ⟨(by decide), fun l nl => ?_⟩
    have hB1 := hB.same (same_upd (o := .lst []) nl) (Nat.le_refl _)
    have el : upd H l (.lst []) l = some (.lst []) := upd_same
    have l0 : H0 l = none := none_of hB.sm nl
    generalize upd H l (.lst []) = H1 at hB1 el
    refine ⟨_, rfl, b, CB, dx, _, _, rfl, hB1.hb, T.cl, T.nKids, rfl, _, rfl, _, rfl, (by show 2 ≤ sizeLine; decide), fun t nt => ?_⟩
    have s2 := same_upd (o := .tup [V.str f, V.str m]) nt
    have hB2 := hB1.same s2 (Nat.le_refl _)
    have et : upd H1 t (.tup [V.str f, V.str m]) t = some (.tup [V.str f, V.str m]) := upd_same
    replace el := s2 _ _ el
    generalize upd H1 t (.tup [V.str f, V.str m]) = H2 at hB2 el et
    obtain ⟨cs, c1, c2, c3, c4⟩ := hB2.hc
    refine ⟨A.c, _, rfl, DPut.t (k := [Sum.inr f, Sum.inr m]) c1 et (lt_line c4 (by omega)), ?_⟩
    have hB3 := hB2.put_c (f := f) (m := m) c1 el l0
    generalize upd H2 A.c (.dT (putK cs [Sum.inr f, Sum.inr m] (.ref l))) = H3 at hB3
    -- mate_now[father] = mother
    have ln : ∀ {l : List (Str × Str)}, (encK l).length = l.length := fun {l} => List.length_map ..
    refine ⟨_, rfl, _, rfl, b, CB, dx, _, _, rfl, hB3.hb, T.cl, T.nNow, rfl, _, rfl, A.m, _, rfl, DPut.k (k := Sum.inr f) hB3.hm (by rw [ln]; exact lt_line hB3.lm (by omega)), ?_⟩
    rw [put_enc m nf]
    have hB4 := hB3.set_m (now' := B.now ++ [(f, m)]) (by rw [List.length_append]; exact Nat.succ_le_succ hB3.lm)
    generalize upd H3 A.m (.dK (encK (B.now ++ [(f, m)]))) = H4 at hB4
    refine ⟨_, rfl, _, rfl, b, CB, dx, _, _, rfl, hB4.hb, T.cl, T.nNow, rfl, _, rfl, A.m, _, rfl, DPut.k (k := Sum.inr m) hB4.hm (by rw [ln]; exact lt_line hB4.lm (by omega)), ?_⟩
    rw [put_enc f (l := B.now ++ [(f, m)]) (by rw [look_app, nm]; exact if_neg fm)]
    have hB5 := hB4.set_m (now' := B.now ++ [(f, m)] ++ [(m, f)]) (by rw [List.length_append]; exact Nat.succ_le_succ hB4.lm)
    generalize upd H4 A.m (.dK (encK (B.now ++ [(f, m)] ++ [(m, f)]))) = H5 at hB5
    -- all_mates[father].append(mother)
    have get : ∀ {n : Nat} {H : Hp} {x : Str} {a : Str} {B' : Bk}, BkAt CB B' n H0 H b dx A → look B'.kinds x = some a → ∃ (as : List (Key × V)) (lx : Addr) (xs : List V), H A.a = some (.dK as) ∧ valV as (Sum.inr x) = some (.ref lx) ∧ H lx = some (.lst xs) ∧ xs.length ≤ n ∧ H0 lx = none := fun {n H x a B'} hX ex => by
      obtain ⟨as, a1, a2, a3, a4⟩ := hX.ha
      have z := a2 x (by rw [ex]; rfl)
      cases ev : valV as (Sum.inr x) with
      | none => rw [ev] at z; cases z
      | some v =>
        obtain ⟨kv, hkv, e2⟩ := valV_mem ev
        obtain ⟨lx, xs, e3, e4, e5, e6⟩ := a3 kv hkv
        rw [e2] at e3
        subst e3
        exact ⟨as, lx, xs, a1, ev, e4, e5, e6⟩
    obtain ⟨as, lx, xs, a1, ev, e4, e5, e6⟩ := get hB5 (x := f) ef
    have dg := DGet.k (k := Sum.inr f) a1
    rw [ev] at dg
    refine ⟨_, rfl, b, CB, dx, _, _, rfl, hB5.hb, T.cl, T.nAll, rfl, _, rfl, A.a, _, rfl, dg, .inl ⟨rfl, _, SqL.of e4⟩, _, rfl, lx, xs, _, rfl, rfl, e4, lt_line e5 (by omega), ?_⟩
    have hB6 := hB5.app (.str m) e4 e6
    generalize upd H5 lx (.lst (xs ++ [V.str m])) = H6 at hB6
    obtain ⟨as, lx, xs, a1, ev, e4, e5, e6⟩ := get hB6 (x := m) em
    have dg := DGet.k (k := Sum.inr m) a1
    rw [ev] at dg
    refine ⟨_, rfl, b, CB, dx, _, _, rfl, hB6.hb, T.cl, T.nAll, rfl, _, rfl, A.a, _, rfl, dg, .inl ⟨rfl, _, SqL.of e4⟩, _, rfl, lx, xs, _, rfl, rfl, e4, lt_line e5 (by omega), ?_⟩
    exact q _ (hB6.app (.str f) e4 e6)
theorem ok_bury {f CB : Addr} {fd : FuncData} (F : FunD K "bury" "Book.bury" (defArgs sBBury) (defBody sBBury) (defScope sBBury) [] [] f fd) (T : BookC K CB) : FnOk P w K mg base CX0 1 f fd ["self", "label"] (spBury CB) := by
  have sc : FnScope ["self", "label"] ["self", "label"] (defScope sBBury) := ⟨rfl, rfl, rfl, by decide +kernel, rfl, by decide +kernel, by decide +kernel⟩
  refine F.ok sc (fun vs H Q E h => ?_) (fun cdv A outer s H vs Q E hr h => ?_)
  · obtain ⟨b, dx, B, n, H0, A, l, rfl, _⟩ := h
    rfl
  · obtain ⟨b, dx, B, n, H0, A, l, rfl, hB, hn, hj, ok, q⟩ := h
    have hu := hu_of hr
    obtain ⟨_, nl⟩ := jP_dies hj
    refine ⟨_, PSs.nox (pss_cons (ps_dput hu (pe_fld (pv 0) rfl) (pv 1) pe_bl rfl) (pss_one (ps_if (pt_cmp (pc_din hu (pv 1) (pe_fld (pv 0) rfl)))
      (pss_cons (ps_ddel (pe_fld (pv 0) rfl) (pe_dget hu (pe_fld (pv 0) rfl) (pv 1) (fun _ _ => rfl))) (pss_one (ps_ddel (pe_fld (pv 0) rfl) (pv 1)))) pss_nil))), ?_⟩
    obtain ⟨ds, d1, d2, d3⟩ := hB.hd
    refine ⟨_, rfl, b, CB, dx, _, _, rfl, hB.hb, T.cl, T.nDead, rfl, _, rfl, A.d, _, rfl, DPut.k (k := Sum.inr l) d1 (lt_line d3 (by omega)), ?_⟩
    have hB1 := hB.put_d d1 (.bl true) nl
    generalize upd H A.d (.dK (putK ds (Sum.inr l) (V.bl true))) = H1 at hB1
    have g := DGet.k (k := Sum.inr l) hB1.hm
    rw [valV_enc] at g
    refine ⟨_, rfl, _, rfl, b, CB, dx, _, _, rfl, hB1.hb, T.cl, T.nNow, rfl, A.m, _, rfl, g, _, rfl, ?_⟩
    have ew : wP B (.dies l) = { B with dead := B.dead ++ [l], now := match look B.now l with | none => B.now | some y => without (without B.now y) l } := rfl
    cases e : look B.now l with
    | none =>
      rw [ew, e] at q
      exact iteF (q _ (hB1.same (Same.refl _) (by omega)))
    | some y =>
      rw [ew, e] at q
      have back := ok.sym l y e
      have ne := ok.ne l y e
      refine iteT ?_
      have g2 := DGet.k (k := Sum.inr l) hB1.hm
      rw [valV_enc, show look (Bk.mk B.kinds (B.dead ++ [l]) B.now B.pairs).now l = some y from e] at g2
      refine ⟨_, rfl, b, CB, dx, _, _, rfl, hB1.hb, T.cl, T.nNow, rfl, ?_⟩
      refine ⟨_, rfl, b, CB, dx, _, _, rfl, hB1.hb, T.cl, T.nNow, rfl, _, rfl, A.m, _, rfl, g2, A.m, _, Sum.inr y, rfl, hB1.hm, rfl, by rw [valV_enc, show look (Bk.mk B.kinds (B.dead ++ [l]) B.now B.pairs).now y = some l from back]; rfl, ?_⟩
      rw [drop_enc]
      have hB2 := hB1.set_m (now' := without B.now y) (Nat.le_trans (List.length_filter_le _ _) (Nat.le_succ_of_le hB1.lm))
      show _
      have e2 : (encK (B.now.filter fun p => decide (p.1 ≠ y))) = encK (without B.now y) := rfl
      rw [e2]
      generalize upd H1 A.m (.dK (encK (without B.now y))) = H2 at hB2
      have e3 : look (without B.now y) l = some y := by rw [look_without, if_neg ne, e]
      refine ⟨_, rfl, b, CB, dx, _, _, rfl, hB2.hb, T.cl, T.nNow, rfl, _, rfl, A.m, _, Sum.inr l, rfl, hB2.hm, rfl, by rw [valV_enc, show look (Bk.mk B.kinds (B.dead ++ [l]) (without B.now y) B.pairs).now l = some y from e3]; rfl, ?_⟩
      rw [drop_enc]
      exact q _ (hB2.set_m (now' := without (without B.now y) l) (Nat.le_trans (List.length_filter_le _ _) (Nat.le_succ_of_le hB2.lm)))
end
end K01

/-! a row is written; what is wrong with a row -/
namespace K01
open PySem PySem.Spec PyProof.Rows L2
structure Mt (P : Program) (w : World) (K : PySem.W.Frag) (mg : Str → Option Value) (base : Heap) (CB : Addr) (x : Str) (k : Nat) (ps : List Str) (sp : Sp) (g : Addr) (gd : FuncData) : Prop where
  m : Meth K CB x g
  ok : FnOk P w K mg base CX0 k g gd ps sp
  bi : Binds K gd ps []
/-- the items of a row, where they stand -/
theorem RwL.comes_at {S : Addr → Prop} {H : Hp} {vs : List V} {xs : List PyData} {l k : Str} {n : Int} {hs : List Int} (h : RwL xs (.comes l k n hs)) (D : DtAll S H vs xs) : ∃ (e : PyData) (v : V), vs = [.str "comes", .str l, .str k, .int n, v] ∧ Dt S H v e ∧ seqD e = some (hs.map PyData.int) := by
  cases h with
  | comes hl hk hn he hh =>
    cases D with | cons a D => cases D with | cons b D => cases D with | cons c D => cases D with | cons d D => cases D with | cons e D =>
    cases D; cases a.str_inv.1; cases b.str_inv.1; cases c.str_inv.1; cases d.int_inv
    exact ⟨_, _, rfl, e, he⟩
theorem RwL.weds_at {S : Addr → Prop} {H : Hp} {vs : List V} {xs : List PyData} {f m : Str} (h : RwL xs (.weds f m)) (D : DtAll S H vs xs) : vs = [.str "weds", .str f, .str m] := by
  cases h with
  | weds hf hm =>
    cases D with | cons a D => cases D with | cons b D => cases D with | cons c D =>
    cases D; cases a.str_inv.1; cases b.str_inv.1; cases c.str_inv.1
    rfl
theorem RwL.born_at {S : Addr → Prop} {H : Hp} {vs : List V} {xs : List PyData} {f m k l : Str} {n : Int} (h : RwL xs (.born f m k l n)) (D : DtAll S H vs xs) : vs = [.str "born", .str f, .str m, .str k, .str l, .int n] := by
  cases h with
  | born hf hm hk hl hn =>
    cases D with | cons a D => cases D with | cons b D => cases D with | cons c D => cases D with | cons d D => cases D with | cons e D => cases D with | cons g D =>
    cases D; cases a.str_inv.1; cases b.str_inv.1; cases c.str_inv.1; cases d.str_inv.1; cases e.str_inv.1; cases g.int_inv
    rfl
theorem RwL.dies_at {S : Addr → Prop} {H : Hp} {vs : List V} {xs : List PyData} {l : Str} (h : RwL xs (.dies l)) (D : DtAll S H vs xs) : vs = [.str "dies", .str l] := by
  cases h with
  | dies hl =>
    cases D with | cons a D => cases D with | cons b D =>
    cases D; cases a.str_inv.1; cases b.str_inv.1
    rfl
section
variable {P : Program} {w : World} {K : PySem.W.Frag} {mg : Str → Option Value} {base : Heap}
theorem ok_write {f gB gW gD CB : Addr} {fd dB dW dD : FuncData} (F : FunD K "write" "Book.write" (defArgs sBWrite) (defBody sBWrite) (defScope sBWrite) [] [] f fd) (T : BookC K CB)
    (MB : Mt P w K mg base CB "bring" 1 ["self", "index", "label", "kind"] (spBring CB) gB dB) (MW : Mt P w K mg base CB "wed" 1 ["self", "father", "mother"] (spWed CB) gW dW) (MD : Mt P w K mg base CB "bury" 1 ["self", "label"] (spBury CB) gD dD) :
    FnOk P w K mg base CX0 2 f fd ["self", "index", "row"] (spWrite CB) := by
  have sc : FnScope ["self", "index", "row"] ["self", "index", "row"] (defScope sBWrite) := ⟨rfl, rfl, rfl, by decide +kernel, rfl, by decide +kernel, by decide +kernel⟩
  refine F.ok sc (fun vs H Q E h => ?_) (fun cdv A outer s H vs Q E hr1 h => ?_)
  · obtain ⟨b, dx, B, n, H0, A, i, v, d, xs, r, wd, rfl, _⟩ := h
    rfl
  · obtain ⟨b, dx, B, n, H0, A, i, v, d, xs, r, wd, rfl, hB, hn, ok, hd, e, hw, hj, q⟩ := h
    have hu := hu_of hr1
    refine ⟨_, PSs.nox (pss_one (ps_if (pt_cmpR op_eq (pe_ix ixS (pv 2) pe_int (fun _ _ => rfl)) pe_str (nomark _))
      (pss_one (ps_expr (pe_meth (pv 0) T.cl MB.m MB.ok hr1 MB.bi .nil pass0 (pa_cons (pv 1) (pa_cons (pe_ix ixS (pv 2) pe_int (fun _ _ => rfl)) (pa_cons (pe_ix ixS (pv 2) pe_int (fun _ _ => rfl)) pa_nil))))))
      (pss_one (ps_if (pt_cmpR op_eq (pe_ix ixS (pv 2) pe_int (fun _ _ => rfl)) pe_str (nomark _))
        (pss_one (ps_expr (pe_meth (pv 0) T.cl MW.m MW.ok hr1 MW.bi .nil pass0 (pa_cons (pe_ix ixS (pv 2) pe_int (fun _ _ => rfl)) (pa_cons (pe_ix ixS (pv 2) pe_int (fun _ _ => rfl)) pa_nil)))))
        (pss_one (ps_if (pt_cmpR op_eq (pe_ix ixS (pv 2) pe_int (fun _ _ => rfl)) pe_str (nomark _))
          (pss_cons (ps_expr (pe_meth (pv 0) T.cl MB.m MB.ok hr1 MB.bi .nil pass0 (pa_cons (pv 1) (pa_cons (pe_ix ixS (pv 2) pe_int (fun _ _ => rfl)) (pa_cons (pe_ix ixS (pv 2) pe_int (fun _ _ => rfl)) pa_nil)))))
          (pss_cons (ps_dput hu (pe_fld (pv 0) rfl) (pe_ix ixS (pv 2) pe_int (fun _ _ => rfl)) (pe_tup (pa_cons (pe_ix ixS (pv 2) pe_int (fun _ _ => rfl)) (pa_cons (pe_ix ixS (pv 2) pe_int (fun _ _ => rfl)) pa_nil))) rfl)
          (pss_one (ps_expr (pe_bm PySem.F.plainAttrs_list PySem.F.slot_list_append PySem.F.type_list_append mt_append (pe_dget hu (pe_fld (pv 0) rfl) (pe_tup (pa_cons (pe_ix ixS (pv 2) pe_int (fun _ _ => rfl)) (pa_cons (pe_ix ixS (pv 2) pe_int (fun _ _ => rfl)) pa_nil))) (fun _ _ => rfl)) (pa_cons (pe_ix ixS (pv 2) pe_int (fun _ _ => rfl)) pa_nil))))))
          (pss_one (ps_expr (pe_meth (pv 0) T.cl MD.m MD.ok hr1 MD.bi .nil pass0 (pa_cons (pe_ix ixS (pv 2) pe_int (fun _ _ => rfl)) pa_nil)))))))))), ?_⟩
    obtain ⟨a, vs, rfl, _, hS0, hvs⟩ := hd.seq e
    have hS := hS0.same hB.sm
    cases r with
    | comes l k m hs =>
      obtain ⟨e5, v5, rfl, _, _⟩ := hw.comes_at hvs
      refine ⟨_, rfl, _, _, _, _, rfl, rfl, hS, rfl, rfl, _, rfl, iteT ?_⟩
      refine ⟨_, rfl, b, dx, _, rfl, hB.hb, rfl, _, rfl, _, rfl, _, _, _, _, rfl, rfl, hS, rfl, _, rfl, _, _, _, _, rfl, rfl, hS, rfl, ?_⟩
      exact ⟨b, dx, B, n, H0, A, i, l, k, rfl, hB, by omega, (jP_comes hj).1, fun H' h' => q _ (h'.same (Same.refl _) (by omega))⟩
    | weds f m =>
      obtain rfl := hw.weds_at hvs
      refine ⟨_, rfl, _, _, _, _, rfl, rfl, hS, rfl, rfl, _, rfl, iteF ?_⟩
      refine ⟨_, rfl, _, _, _, _, rfl, rfl, hS, rfl, rfl, _, rfl, iteT ?_⟩
      refine ⟨_, rfl, b, dx, _, rfl, hB.hb, rfl, _, rfl, _, _, _, _, rfl, rfl, hS, rfl, _, rfl, _, _, _, _, rfl, rfl, hS, rfl, ?_⟩
      exact ⟨b, dx, B, n, H0, A, f, m, rfl, hB, by omega, hj, fun H' h' => q _ h'⟩
    | born f m k l j =>
      obtain rfl := hw.born_at hvs
      obtain ⟨j1, j2, j3⟩ := jP_born hj
      refine ⟨_, rfl, _, _, _, _, rfl, rfl, hS, rfl, rfl, _, rfl, iteF ?_⟩
      refine ⟨_, rfl, _, _, _, _, rfl, rfl, hS, rfl, rfl, _, rfl, iteF ?_⟩
      refine ⟨_, rfl, _, _, _, _, rfl, rfl, hS, rfl, rfl, _, rfl, iteT ?_⟩
      refine ⟨_, rfl, b, dx, _, rfl, hB.hb, rfl, _, rfl, _, rfl, _, _, _, _, rfl, rfl, hS, rfl, _, rfl, _, _, _, _, rfl, rfl, hS, rfl, ?_⟩
      refine ⟨b, dx, B, n, H0, A, i, l, k, rfl, hB, by omega, j3, fun H1 h1 => ?_⟩
      have hS1 := hS0.same h1.sm
      refine ⟨_, rfl, _, _, _, _, rfl, rfl, hS1, rfl, _, rfl, _, _, _, _, rfl, rfl, hS1, rfl, (by show 2 ≤ sizeLine; decide), fun t nt => ?_⟩
      have h2 := h1.same (same_upd (o := .tup [V.str f, V.str m]) nt) (Nat.le_refl _)
      have hS2 := hS1.same (same_upd (o := .tup [V.str f, V.str m]) nt)
      generalize upd H1 t (.tup [V.str f, V.str m]) = H2 at h2 hS2
      obtain ⟨ps, p1, p2⟩ := h2.hp
      refine ⟨_, rfl, b, CB, dx, _, _, rfl, h2.hb, T.cl, T.nParents, rfl, _, rfl, _, _, _, _, rfl, rfl, hS2, rfl, A.p, _, rfl, DPut.k (k := Sum.inr l) p1 (lt_line p2 (by omega)), ?_⟩
      have h3 := h2.put_p p1 (Sum.inr l) (.ref t)
      have hS3 := hS0.same h3.sm
      generalize upd H2 A.p (.dK (putK ps (Sum.inr l) (.ref t))) = H3 at h3 hS3
      refine ⟨_, rfl, b, CB, dx, _, _, rfl, h3.hb, T.cl, T.nKids, rfl, _, rfl, _, _, _, _, rfl, rfl, hS3, rfl, _, rfl, _, _, _, _, rfl, rfl, hS3, rfl, (by show 2 ≤ sizeLine; decide), fun t2 nt2 => ?_⟩
      have h4 := h3.same (same_upd (o := .tup [V.str f, V.str m]) nt2) (Nat.le_refl _)
      have et : upd H3 t2 (.tup [V.str f, V.str m]) t2 = some (.tup [V.str f, V.str m]) := upd_same
      generalize upd H3 t2 (.tup [V.str f, V.str m]) = H4 at h4 et
      have hS4 := hS0.same h4.sm
      obtain ⟨cs, c1, c2, c3, c4⟩ := h4.hc
      have hv : (valV cs [Sum.inr f, Sum.inr m]).isSome = true := by
        refine valV_in ?_
        rw [c2]
        exact List.mem_map.mpr ⟨(f, m), j1, rfl⟩
      cases ev : valV cs [Sum.inr f, Sum.inr m] with
      | none => rw [ev] at hv; cases hv
      | some v =>
      obtain ⟨kv, hkv, e2⟩ := valV_mem ev
      obtain ⟨lx, ys, e3, e4, e5, e6⟩ := c3 kv hkv
      rw [e2] at e3
      subst e3
      have dg := DGet.t (k := [Sum.inr f, Sum.inr m]) c1 et
      rw [ev] at dg
      refine ⟨A.c, _, rfl, dg, .inl ⟨rfl, _, SqL.of e4⟩, _, rfl, _, _, _, _, rfl, rfl, hS4, rfl, lx, ys, _, rfl, rfl, e4, lt_line e5 (by omega), ?_⟩
      exact q _ ((h4.app (.str l) e4 e6).same (Same.refl _) (by omega))
    | dies l =>
      obtain rfl := hw.dies_at hvs
      refine ⟨_, rfl, _, _, _, _, rfl, rfl, hS, rfl, rfl, _, rfl, iteF ?_⟩
      refine ⟨_, rfl, _, _, _, _, rfl, rfl, hS, rfl, rfl, _, rfl, iteF ?_⟩
      refine ⟨_, rfl, _, _, _, _, rfl, rfl, hS, rfl, rfl, _, rfl, iteF ?_⟩
      refine ⟨_, rfl, b, dx, _, rfl, hB.hb, rfl, _, rfl, _, _, _, _, rfl, rfl, hS, rfl, ?_⟩
      exact ⟨b, dx, B, n, H0, A, l, rfl, hB, by omega, hj, ok, fun H' h' => q _ (h'.same (Same.refl _) (by omega))⟩
end
end K01

/-! what is wrong with a row -/
namespace K01
open PySem PySem.Spec PyProof.Rows L2
def optV : Option Str → V
  | none => .non
  | some z => .str z
def spComing (CB : Addr) : Sp := fun vs H Q _ => ∃ (b dx : Addr) (B : Bk) (n : Nat) (H0 : Hp) (A : Ads) (wd : Int) (v : V) (d : PyData) (xs : List PyData) (l k : Str) (j : Int) (hs : List Int), vs = [.ref b, .int wd, v] ∧ BkAt CB B n H0 H b dx A ∧ Dt Any H0 v d ∧ seqD d = some xs ∧ RwL xs (.comes l k j hs) ∧ Q (optV (jPc B wd l hs)) H
def spWedding (CB : Addr) : Sp := fun vs H Q _ => ∃ (b dx : Addr) (B : Bk) (n : Nat) (H0 : Hp) (A : Ads) (f m : Str), vs = [.ref b, .str f, .str m] ∧ BkAt CB B n H0 H b dx A ∧ Q (optV (jPw B f m)) H
def spBirth (CB : Addr) : Sp := fun vs H Q _ => ∃ (b dx : Addr) (B : Bk) (n : Nat) (H0 : Hp) (A : Ads) (f m l : Str), vs = [.ref b, .str f, .str m, .str l] ∧ BkAt CB B n H0 H b dx A ∧ ∀ H', Same H H' → Q (optV (jPb B f m l)) H'
def jD (B : Bk) (wd : Int) : Option Rw → Option Str
  | none => some "row"
  | some r => jP B wd r
def spFault (CB : Addr) : Sp := fun vs H Q _ => ∃ (b dx : Addr) (B : Bk) (n : Nat) (H0 : Hp) (A : Ads) (wd : Int) (v : V) (d : PyData) (o : Option Rw), vs = [.ref b, .int wd, v] ∧ BkAt CB B n H0 H b dx A ∧ Dt Any H0 v d ∧ okD d ∧ RowD d o ∧ ∀ H', Same H H' → Q (optV (jD B wd o)) H'
theorem dead_is {ds : List (Key × V)} {D : List Str} (h : ds.map (·.1) = D.map Sum.inr) (x : Str) : (valV ds (Sum.inr x)).isSome = decide (x ∈ D) := by
  rw [valV_keys, h]
  refine decide_eq_decide.mpr ⟨fun z => ?_, fun z => List.mem_map.mpr ⟨_, z, rfl⟩⟩
  obtain ⟨y, hy, ey⟩ := List.mem_map.mp z
  exact (Sum.inr.inj ey) ▸ hy
section
variable {P : Program} {w : World} {K : PySem.W.Frag} {mg : Str → Option Value} {base : Heap}
theorem ok_coming {f CB : Addr} {fd : FuncData} (F : FnP K "_coming_fault" sPComingFault f fd) (T : BookC K CB) (z_len : mg "len" = none) : FnOk P w K mg base CX0 1 f fd ["book", "width", "row"] (spComing CB) := by
  have sc : FnScope ["book", "width", "row"] ["book", "width", "row"] (defScope sPComingFault) := ⟨rfl, rfl, rfl, by decide +kernel, rfl, by decide +kernel, by decide +kernel⟩
  refine F.ok sc (fun vs H Q E h => ?_) (fun cdv A outer s H vs Q E hr h => ?_)
  · obtain ⟨b, dx, B, n, H0, A, wd, v, d, xs, l, k, j, hs, rfl, _⟩ := h
    rfl
  · obtain ⟨b, dx, B, n, H0, A, wd, v, d, xs, l, k, j, hs, rfl, hB, hd, e, hw, q⟩ := h
    have hu := hu_of hr
    refine ⟨_, PSs.nox (pss_cons (ps_if (pt_cmp (pc_din hu (pe_ix ixS (pv 2) pe_int (fun _ _ => rfl)) (pe_fld (pv 0) rfl)))
      (pss_one (ps_ret pe_str))
      pss_nil)
    (pss_one (ps_ret (pe_ifExp (pt_cmpR op_eq (pe_callB call_len_seq (by rfl) z_len boot_len (pa_cons (pe_ix ixS (pv 2) pe_int (fun _ _ => rfl)) pa_nil)) (pv 1) (nomark _)) pe_non pe_str)))), ?_⟩
    obtain ⟨a, vs, rfl, _, hS0, hvs⟩ := hd.seq e
    have hS := hS0.same hB.sm
    obtain ⟨e5, v5, rfl, h5, eh⟩ := hw.comes_at hvs
    obtain ⟨a5, vs5, rfl, _, hS5, hvs5⟩ := h5.seq eh
    have hS5' := hS5.same hB.sm
    have g := DGet.k (k := Sum.inr l) hB.hk
    rw [valV_enc] at g
    refine ⟨_, rfl, _, _, _, _, rfl, rfl, hS, rfl, _, rfl, b, CB, dx, _, _, rfl, hB.hb, T.cl, T.nKinds, rfl, A.k, _, rfl, g, _, rfl, ?_⟩
    unfold jPc lacks at q
    cases el : look B.kinds l with
    | some z =>
      rw [el] at q
      exact iteT q
    | none =>
      rw [el] at q
      refine iteF ?_
      refine ⟨_, rfl, _, _, _, _, rfl, rfl, hS, rfl, _, _, rfl, hS5'.or, _, rfl, rfl, _, rfl, ?_⟩
      have ln : vs5.length = hs.length := by rw [hvs5.len, List.length_map]
      rw [ln]
      have q : Q (optV (if (hs.length : Int) = wd then none else some "width")) H := q
      refine ite2 (fun g => ?_) (fun g => ?_)
      · rw [if_pos (V.int.inj (of_decide_eq_true g))] at q
        exact q
      · rw [if_neg (fun y => g (decide_eq_true (by rw [y])))] at q
        exact q
theorem ok_wedding {f CB : Addr} {fd : FuncData} (F : FnP K "_wedding_fault" sPWeddingFault f fd) (T : BookC K CB) : FnOk P w K mg base CX0 1 f fd ["book", "father", "mother"] (spWedding CB) := by
  have sc : FnScope ["book", "father", "mother"] ["book", "father", "mother"] (defScope sPWeddingFault) := ⟨rfl, rfl, rfl, by decide +kernel, rfl, by decide +kernel, by decide +kernel⟩
  refine F.ok sc (fun vs H Q E h => ?_) (fun cdv A outer s H vs Q E hr h => ?_)
  · obtain ⟨b, dx, B, n, H0, A, f, m, rfl, _⟩ := h
    rfl
  · obtain ⟨b, dx, B, n, H0, A, f, m, rfl, hB, q⟩ := h
    have hu := hu_of hr
    refine ⟨_, PSs.nox (pss_cons (ps_if (PW.pt (pw_or (pt_cmp (pc_dnotin hu (pv 1) (pe_fld (pv 0) rfl))) (pw_or1 (pt_cmp (pc_dnotin hu (pv 2) (pe_fld (pv 0) rfl))))))
      (pss_one (ps_ret pe_str))
      pss_nil)
    (pss_cons (ps_if (PW.pt (pw_or (pt_cmpR op_ne (pe_dget hu (pe_fld (pv 0) rfl) (pv 1) (fun _ _ => rfl)) pe_str (nomark _)) (pw_or1 (pt_cmpR op_ne (pe_dget hu (pe_fld (pv 0) rfl) (pv 2) (fun _ _ => rfl)) pe_str (nomark _)))))
      (pss_one (ps_ret pe_str))
      pss_nil)
    (pss_cons (ps_if (PW.pt (pw_or (pt_cmp (pc_din hu (pv 1) (pe_fld (pv 0) rfl))) (pw_or1 (pt_cmp (pc_din hu (pv 2) (pe_fld (pv 0) rfl))))))
      (pss_one (ps_ret pe_str))
      pss_nil)
    (pss_one (ps_ret (pe_ifExp (PW.pt (pw_or (pt_cmp (pc_din hu (pv 1) (pe_fld (pv 0) rfl))) (pw_or1 (pt_cmp (pc_din hu (pv 2) (pe_fld (pv 0) rfl)))))) pe_str pe_non)))))), ?_⟩
    have gk : ∀ x, DGet H A.k (.str x) ((look B.kinds x).map V.str) := fun x => by
      have g := DGet.k (k := Sum.inr x) hB.hk
      rw [valV_enc] at g
      exact g
    have gn : ∀ x, DGet H A.m (.str x) ((look B.now x).map V.str) := fun x => by
      have g := DGet.k (k := Sum.inr x) hB.hm
      rw [valV_enc] at g
      exact g
    obtain ⟨ds, d1, d2, d3⟩ := hB.hd
    unfold jPw lacks at q
    refine ⟨_, rfl, _, rfl, b, CB, dx, _, _, rfl, hB.hb, T.cl, T.nKinds, rfl, A.k, _, rfl, gk f, _, rfl, ?_⟩
    cases ef : look B.kinds f with
    | none =>
      rw [ef] at q
      exact iteT (iteT q)
    | some kf =>
    rw [ef] at q
    refine iteF ?_
    refine ⟨_, rfl, _, rfl, b, CB, dx, _, _, rfl, hB.hb, T.cl, T.nKinds, rfl, A.k, _, rfl, gk m, _, rfl, ?_⟩
    cases em : look B.kinds m with
    | none =>
      rw [em] at q
      exact iteT q
    | some km =>
    rw [em] at q
    refine iteF ?_
    have q : Q (optV (if some kf ≠ some sonK ∨ some km ≠ some dauK then some "kind" else if f ∈ B.dead ∨ m ∈ B.dead then some "dead" else if ((look B.now f).isSome || (look B.now m).isSome) = true then some "wed" else none)) H := q
    -- kinds
    have gf := gk f
    rw [ef] at gf
    have gm := gk m
    rw [em] at gm
    refine ⟨_, rfl, b, CB, dx, _, _, rfl, hB.hb, T.cl, T.nKinds, rfl, _, rfl, A.k, _, rfl, gf, rfl, _, rfl, ite2 (fun g => ?_) (fun g => ?_)⟩
    · have n1 : some kf ≠ some sonK := fun y => by
        rw [Option.some.inj y] at g
        exact absurd g (by decide)
      rw [if_pos (.inl n1)] at q
      exact iteT q
    have k1 : kf = sonK := Decidable.byContradiction fun y => g (by
      show (!decide (V.str kf = V.str "s")) = true
      rw [decide_eq_false (fun z => y (V.str.inj z))]
      rfl)
    refine ⟨_, rfl, b, CB, dx, _, _, rfl, hB.hb, T.cl, T.nKinds, rfl, _, rfl, A.k, _, rfl, gm, rfl, _, rfl, ite2 (fun g => ?_) (fun g => ?_)⟩
    · have n1 : some km ≠ some dauK := fun y => by
        rw [Option.some.inj y] at g
        exact absurd g (by decide)
      rw [if_pos (.inr n1)] at q
      exact q
    have k2 : km = dauK := Decidable.byContradiction fun y => g (by
      show (!decide (V.str km = V.str "d")) = true
      rw [decide_eq_false (fun z => y (V.str.inj z))]
      rfl)
    subst k1
    subst k2
    rw [if_neg (fun z => z.elim (fun y => y rfl) fun y => y rfl)] at q
    -- the dead
    refine ⟨_, rfl, _, rfl, b, CB, dx, _, _, rfl, hB.hb, T.cl, T.nDead, rfl, A.d, _, rfl, DGet.k (k := Sum.inr f) d1, _, rfl, ?_⟩
    rw [dead_is d2]
    refine ite2 (fun g => ?_) (fun g => ?_)
    · rw [if_pos (.inl (of_decide_eq_true g))] at q
      exact iteT q
    have nf : ¬ f ∈ B.dead := fun y => g (decide_eq_true y)
    refine ⟨_, rfl, _, rfl, b, CB, dx, _, _, rfl, hB.hb, T.cl, T.nDead, rfl, A.d, _, rfl, DGet.k (k := Sum.inr m) d1, _, rfl, ?_⟩
    rw [dead_is d2]
    refine ite2 (fun g => ?_) (fun g => ?_)
    · rw [if_pos (.inr (of_decide_eq_true g))] at q
      exact q
    have nm : ¬ m ∈ B.dead := fun y => g (decide_eq_true y)
    rw [if_neg (fun z => z.elim nf nm)] at q
    -- wed
    refine ⟨_, rfl, _, rfl, b, CB, dx, _, _, rfl, hB.hb, T.cl, T.nNow, rfl, A.m, _, rfl, gn f, _, rfl, ?_⟩
    cases e1 : look B.now f with
    | some z =>
      rw [e1] at q
      exact iteT (iteT q)
    | none =>
    rw [e1] at q
    refine iteF ?_
    refine ⟨_, rfl, _, rfl, b, CB, dx, _, _, rfl, hB.hb, T.cl, T.nNow, rfl, A.m, _, rfl, gn m, _, rfl, ?_⟩
    cases e2 : look B.now m with
    | some z =>
      rw [e2] at q
      exact iteT q
    | none =>
      rw [e2] at q
      exact iteF q
theorem ok_birth {f gC CB : Addr} {fd dC : FuncData} (F : FnP K "_birth_fault" sPBirthFault f fd) (T : BookC K CB) (MC : Mt P w K mg base CB "is_couple" 1 ["self", "father", "mother"] (spCouple CB) gC dC) : FnOk P w K mg base CX0 2 f fd ["book", "father", "mother", "label"] (spBirth CB) := by
  have sc : FnScope ["book", "father", "mother", "label"] ["book", "father", "mother", "label"] (defScope sPBirthFault) := ⟨rfl, rfl, rfl, by decide +kernel, rfl, by decide +kernel, by decide +kernel⟩
  refine F.ok sc (fun vs H Q E h => ?_) (fun cdv A outer s H vs Q E hr1 h => ?_)
  · obtain ⟨b, dx, B, n, H0, A, f, m, l, rfl, _⟩ := h
    rfl
  · obtain ⟨b, dx, B, n, H0, A, f, m, l, rfl, hB, q⟩ := h
    have hu := hu_of hr1
    refine ⟨_, PSs.nox (pss_cons (ps_if (PW.pt (pw_or (pt_cmp (pc_dnotin hu (pv 1) (pe_fld (pv 0) rfl))) (pw_or1 (pt_cmp (pc_dnotin hu (pv 2) (pe_fld (pv 0) rfl))))))
      (pss_one (ps_ret pe_str))
      pss_nil)
    (pss_cons (ps_if (pt_not (pt_val (pe_meth (pv 0) T.cl MC.m MC.ok hr1 MC.bi .nil pass0 (pa_cons (pv 1) (pa_cons (pv 2) pa_nil)))))
      (pss_one (ps_ret pe_str))
      pss_nil)
    (pss_one (ps_ret (pe_ifExp (pt_cmp (pc_din hu (pv 3) (pe_fld (pv 0) rfl))) pe_str pe_non))))), ?_⟩
    have gk : ∀ {H' : Hp}, BkAt CB B n H0 H' b dx A → ∀ x, DGet H' A.k (.str x) ((look B.kinds x).map V.str) := fun hB x => by
      have g := DGet.k (k := Sum.inr x) hB.hk
      rw [valV_enc] at g
      exact g
    unfold jPb lacks at q
    refine ⟨_, rfl, _, rfl, b, CB, dx, _, _, rfl, hB.hb, T.cl, T.nKinds, rfl, A.k, _, rfl, gk hB f, _, rfl, ?_⟩
    cases ef : look B.kinds f with
    | none =>
      rw [ef] at q
      exact iteT (iteT (q _ (Same.refl _)))
    | some kf =>
    rw [ef] at q
    refine iteF ?_
    refine ⟨_, rfl, _, rfl, b, CB, dx, _, _, rfl, hB.hb, T.cl, T.nKinds, rfl, A.k, _, rfl, gk hB m, _, rfl, ?_⟩
    cases em : look B.kinds m with
    | none =>
      rw [em] at q
      exact iteT (q _ (Same.refl _))
    | some km =>
    rw [em] at q
    refine iteF ?_
    refine ⟨_, rfl, b, dx, _, rfl, hB.hb, rfl, _, rfl, _, rfl, b, dx, B, n, H0, A, f, m, rfl, hB, fun H1 s1 => ?_⟩
    have h1 := hB.same s1 (Nat.le_refl _)
    have q : ∀ H', Same H H' → Q (optV (if coupleB B f m = true then (if (look B.kinds l).isNone = true then none else some "label") else some "couple")) H' := q
    cases ec : coupleB B f m with
    | false =>
      rw [ec] at q
      exact ⟨_, rfl, iteT (q _ s1)⟩
    | true =>
    rw [ec] at q
    refine ⟨_, rfl, iteF ?_⟩
    refine ⟨_, rfl, _, rfl, b, CB, dx, _, _, rfl, h1.hb, T.cl, T.nKinds, rfl, A.k, _, rfl, gk h1 l, _, rfl, ?_⟩
    cases el : look B.kinds l with
    | some z =>
      rw [el] at q
      exact iteT (q _ s1)
    | none =>
      rw [el] at q
      exact iteF (q _ s1)
theorem ok_fault {f fR fC fW fB CB : Addr} {fd fdR fdC fdW fdB : FuncData} (F : FnP K "row_fault" sPRowFault f fd) (T : BookC K CB) (dR : Df P w K mg base "is_row" 4 ["row"] spRow fR fdR) (dC : Df P w K mg base "_coming_fault" 1 ["book", "width", "row"] (spComing CB) fC fdC)
    (dW : Df P w K mg base "_wedding_fault" 1 ["book", "father", "mother"] (spWedding CB) fW fdW) (dB : Df P w K mg base "_birth_fault" 2 ["book", "father", "mother", "label"] (spBirth CB) fB fdB) :
    FnOk P w K mg base CX0 5 f fd ["book", "width", "row"] (spFault CB) := by
  have sc : FnScope ["book", "width", "row"] ["book", "width", "row"] (defScope sPRowFault) := ⟨rfl, rfl, rfl, by decide +kernel, rfl, by decide +kernel, by decide +kernel⟩
  refine F.ok sc (fun vs H Q E h => ?_) (fun cdv A outer s H vs Q E hr4 h => ?_)
  · obtain ⟨b, dx, B, n, H0, A, wd, v, d, o, rfl, _⟩ := h
    rfl
  · obtain ⟨b, dx, B, n, H0, A, wd, v, d, o, rfl, hB, hd, okd, ho, q⟩ := h
    have hr1 := hr4.mono (show 1 ≤ 4 by decide)
    have hr2 := hr4.mono (show 2 ≤ 4 by decide)
    have hu := hu_of hr4
    refine ⟨_, PSs.nox (pss_cons (ps_if (pt_not (pt_val (pe_call dR.ok hr4 (by rfl) dR.gl dR.kp dR.bi .nil pass0 (pa_cons (pv 2) pa_nil))))
      (pss_one (ps_ret pe_str))
      pss_nil)
    (pss_cons (ps_if (pt_cmpR op_eq (pe_ix ixS (pv 2) pe_int (fun _ _ => rfl)) pe_str (nomark _))
      (pss_one (ps_ret (pe_call dC.ok hr1 (by rfl) dC.gl dC.kp dC.bi .nil pass0 (pa_cons (pv 0) (pa_cons (pv 1) (pa_cons (pv 2) pa_nil))))))
      pss_nil)
    (pss_cons (ps_if (pt_cmpR op_eq (pe_ix ixS (pv 2) pe_int (fun _ _ => rfl)) pe_str (nomark _))
      (pss_one (ps_ret (pe_call dW.ok hr1 (by rfl) dW.gl dW.kp dW.bi .nil pass0 (pa_cons (pv 0) (pa_cons (pe_ix ixS (pv 2) pe_int (fun _ _ => rfl)) (pa_cons (pe_ix ixS (pv 2) pe_int (fun _ _ => rfl)) pa_nil))))))
      pss_nil)
    (pss_cons (ps_if (pt_cmpR op_eq (pe_ix ixS (pv 2) pe_int (fun _ _ => rfl)) pe_str (nomark _))
      (pss_one (ps_ret (pe_call dB.ok hr2 (by rfl) dB.gl dB.kp dB.bi .nil pass0 (pa_cons (pv 0) (pa_cons (pe_ix ixS (pv 2) pe_int (fun _ _ => rfl)) (pa_cons (pe_ix ixS (pv 2) pe_int (fun _ _ => rfl)) (pa_cons (pe_ix ixS (pv 2) pe_int (fun _ _ => rfl)) pa_nil)))))))
      pss_nil)
    (pss_cons (ps_if (pt_cmp (pc_dnotin hu (pe_ix ixS (pv 2) pe_int (fun _ _ => rfl)) (pe_fld (pv 0) rfl)))
      (pss_one (ps_ret pe_str))
      pss_nil)
    (pss_one (ps_ret (pe_ifExp (pt_cmp (pc_din hu (pe_ix ixS (pv 2) pe_int (fun _ _ => rfl)) (pe_fld (pv 0) rfl))) pe_str pe_non)))))))), ?_⟩
    refine ⟨_, rfl, v, d, rfl, hd.same hB.sm, okd, fun H1 s1 => ?_⟩
    have h1 := hB.same s1 (Nat.le_refl _)
    replace q : ∀ H', Same H1 H' → Q (optV (jD B wd o)) H' := fun H' s' => q H' (s1.trans s')
    rw [ho.is]
    cases ho with
    | no h => exact ⟨_, rfl, iteT (q _ (Same.refl _))⟩
    | @row xs r e hw =>
    refine ⟨_, rfl, iteF ?_⟩
    obtain ⟨a, vs, rfl, _, hS0, hvs⟩ := id (hd.seq e)
    have hS := hS0.same h1.sm
    cases r with
    | comes l k m hs =>
      obtain ⟨e5, v5, rfl, _, _⟩ := hw.comes_at hvs
      refine ⟨_, rfl, _, _, _, _, rfl, rfl, hS, rfl, rfl, _, rfl, iteT ?_⟩
      exact ⟨_, rfl, _, rfl, _, rfl, b, dx, B, n, H0, A, wd, _, d, xs, l, k, m, hs, rfl, h1, hd, e, hw, q _ (Same.refl _)⟩
    | weds f m =>
      obtain rfl := hw.weds_at hvs
      refine ⟨_, rfl, _, _, _, _, rfl, rfl, hS, rfl, rfl, _, rfl, iteF ?_⟩
      refine ⟨_, rfl, _, _, _, _, rfl, rfl, hS, rfl, rfl, _, rfl, iteT ?_⟩
      exact ⟨_, rfl, _, rfl, _, _, _, _, rfl, rfl, hS, rfl, _, rfl, _, _, _, _, rfl, rfl, hS, rfl, b, dx, B, n, H0, A, f, m, rfl, h1, q _ (Same.refl _)⟩
    | born f m k l j =>
      obtain rfl := hw.born_at hvs
      refine ⟨_, rfl, _, _, _, _, rfl, rfl, hS, rfl, rfl, _, rfl, iteF ?_⟩
      refine ⟨_, rfl, _, _, _, _, rfl, rfl, hS, rfl, rfl, _, rfl, iteF ?_⟩
      refine ⟨_, rfl, _, _, _, _, rfl, rfl, hS, rfl, rfl, _, rfl, iteT ?_⟩
      exact ⟨_, rfl, _, rfl, _, _, _, _, rfl, rfl, hS, rfl, _, rfl, _, _, _, _, rfl, rfl, hS, rfl, _, rfl, _, _, _, _, rfl, rfl, hS, rfl, b, dx, B, n, H0, A, f, m, l, rfl, h1, fun H2 s2 => q _ s2⟩
    | dies l =>
      obtain rfl := hw.dies_at hvs
      refine ⟨_, rfl, _, _, _, _, rfl, rfl, hS, rfl, rfl, _, rfl, iteF ?_⟩
      refine ⟨_, rfl, _, _, _, _, rfl, rfl, hS, rfl, rfl, _, rfl, iteF ?_⟩
      refine ⟨_, rfl, _, _, _, _, rfl, rfl, hS, rfl, rfl, _, rfl, iteF ?_⟩
      have g := DGet.k (k := Sum.inr l) h1.hk
      rw [valV_enc] at g
      obtain ⟨ds, d1, d2, d3⟩ := h1.hd
      replace q : Q (optV (jPd B l)) H1 := q _ (Same.refl _)
      unfold jPd lacks at q
      refine ⟨_, rfl, _, _, _, _, rfl, rfl, hS, rfl, _, rfl, b, CB, dx, _, _, rfl, h1.hb, T.cl, T.nKinds, rfl, A.k, _, rfl, g, _, rfl, ?_⟩
      cases el : look B.kinds l with
      | none =>
        rw [el] at q
        exact iteT q
      | some z =>
      rw [el] at q
      refine iteF ?_
      have q : Q (optV (if l ∈ B.dead then some "dead" else none)) H1 := q
      refine ⟨_, rfl, _, _, _, _, rfl, rfl, hS, rfl, _, rfl, b, CB, dx, _, _, rfl, h1.hb, T.cl, T.nDead, rfl, A.d, _, rfl, DGet.k (k := Sum.inr l) d1, _, rfl, ?_⟩
      rw [dead_is d2]
      refine ite2 (fun g => ?_) (fun g => ?_)
      · rw [if_pos (of_decide_eq_true g)] at q
        exact q
      · rw [if_neg (fun y => g (decide_eq_true y))] at q
        exact q
end
end K01

/-! enumerate over a tuple -/
namespace K01
open PySem PySem.Spec PyProof.Rows
open AutoSeq1 (wpAny_loadPart')
theorem enum_new_tuple (l : Addr) (items : Array Value) (n : Nat) (dct : Option Addr) (sl : Array (Option Value)) :
    Meets (Builtin.«enumerate.__new__» ⟨[.type "enumerate", .ref l], []⟩) (fun _ R s => s.heap.get? l = some { cls := .type "tuple", dict := dct, data := .seq items n, slots := sl } ∧
      R (.ok (.ret (.ref (s.heap.push { cls := .type "tuple_iterator", data := .fields #[.ref l, .int 0 0] }).objs.size)))
        { s with heap := (s.heap.push { cls := .type "tuple_iterator", data := .fields #[.ref l, .int 0 0] }).push { cls := .type "enumerate", data := .fields #[.none, .bool false, .ref s.heap.objs.size, rawInt 0, .none, .none] } }) :=
  .of_wp fun prog w A R s h => by
    obtain ⟨hp, g, d, tk, os⟩ := s
    obtain ⟨hl, h⟩ := h
    have subE := sub_enumerate
    have isT : Heap.IsTuple (Shared.heap ⟨hp, g, d, tk, os⟩) l items := ⟨_, hl, rfl, n, rfl⟩
    wp_walk using wpAny_loadPart' hl
    refine wpAny_stack_any fun st => wpAny_pure ?_
    split
    · rename_i c _ _ _ _ _
      cases (c == Value.type "enumerate")
      · wp_walk using wpAny_loadPart' hl, wpAny_pyIter_tuple isT
        exact ⟨_, rfl, h⟩
      · wp_walk using wpAny_loadPart' hl, wpAny_pyIter_tuple isT
        exact ⟨_, rfl, h⟩
    · wp_walk using wpAny_loadPart' hl, wpAny_pyIter_tuple isT
      exact ⟨_, rfl, h⟩
section
variable {prog : Program} {w : World} {A : Around} {E : Value → Shared → Prop} {s : Shared}
theorem call_enum_tuple {l : Addr} {items : Array Value} {Q : Value → Shared → Prop} (hL : IsTup s.heap l items)
    (h : ∀ h', IsEnum h' (s.heap.objs.size + 1) s.heap.objs.size 0 .none → h'.IsTupleIter s.heap.objs.size l 0 → h'.objs.size = s.heap.objs.size + 2 →
      (∀ b o, s.heap.get? b = some o → h'.get? b = some o) → Q (.ref (s.heap.objs.size + 1)) { s with heap := h' }) :
    wpAny (model prog w) A (call (.type "enumerate") [.ref l]) Q E s := by
  obtain ⟨⟨c, dct, dt, sl⟩, hl, hc, n, hd⟩ := hL
  replace hc : c = .type "tuple" := hc
  replace hd : dt = .seq items n := hd
  subst hc hd
  refine callType_new F.called_enumerate (by decide) (F.typeCall_enumerate_1 _) (F.newCall_enumerate_1 _) (fun obj => F.args_object_init_2 obj _) F.entry_enumerate_new (enum_new_tuple l items n dct sl) ⟨hl, ?_⟩
  have hz : (s.heap.push { cls := .type "tuple_iterator", data := .fields #[.ref l, .int 0 0] }).objs.size = s.heap.objs.size + 1 := Heap.size_push ..
  show _ ∧ _
  rw [hz]
  have he : IsEnum ((s.heap.push { cls := .type "tuple_iterator", data := .fields #[.ref l, .int 0 0] }).push
      { cls := .type "enumerate", data := .fields #[.none, .bool false, .ref s.heap.objs.size, rawInt 0, .none, .none] }) (s.heap.objs.size + 1) s.heap.objs.size 0 .none := by
    have e0 := Heap.get?_push_size (s.heap.push { cls := .type "tuple_iterator", data := .fields #[.ref l, .int 0 0] })
      (o := { cls := .type "enumerate", data := .fields #[.none, .bool false, .ref s.heap.objs.size, rawInt 0, .none, .none] }) rfl
    rw [hz] at e0
    exact e0
  exact ⟨⟨_, he, rfl⟩, h _ he ⟨_, Heap.get?_push_of_some _ (Heap.get?_push_size _ rfl), rfl, rfl⟩ (by rw [Heap.size_push, hz]) fun b o x => Heap.get?_push_of_some _ (Heap.get?_push_of_some _ x)⟩
end
open L2
/-- the tuple at a, its items in new pairs with their numbers -/
def IteT (K : PySem.W.Frag) (a : Addr) : It :=
  ⟨fun i H => ∃ (xs : List V) (x : V), SqT K H a xs ∧ xs[i]? = some x, fun i H v H' => ∃ T x, v = .ref T ∧ H T = none ∧ H' = upd H T (.tup [.int (i : Nat), x]) ∧ ∀ xs, SqT K H a xs → xs[i]? = some x, fun i H => ∃ xs : List V, SqT K H a xs ∧ xs.length = i⟩
theorem turn_enumT {P : Program} {w : World} {K : PySem.W.Frag} {elts : List Expr} {kk : Nat} {tpos : Pos} (a e it : Addr) :
    Turn P w K (.Tuple elts kk tpos) (IteT K a) [e, it] e (fun i h => (∃ old, IsEnum h e it ((i : Nat) : Int) old) ∧ h.IsTupleIter it a i ∧ e ≠ it) where
  mem := by simp
  obj := fun i h st b hb => by
    obtain ⟨⟨old, he⟩, ⟨o, ho, hc, hd⟩, _⟩ := st
    have e' : b = e ∨ b = it := by simpa using hb
    rcases e' with z | z
    · rw [z]; exact ⟨_, he, fun v q => nomatch q⟩
    · rw [z]; exact ⟨o, ho, fun v q => by rw [hd] at q; cases q⟩
  keep := fun i h h' st k => let ⟨⟨old, he⟩, hi, hne⟩ := st; ⟨⟨old, k e (by simp) _ he⟩, hi.at fun o q => k it (by simp) o q, hne⟩
  item := by
    intro X hP hw hK hc i pins s σ H E I hf st hg
    subst hP hw hK
    obtain ⟨⟨old, he⟩, hit, hne⟩ := st
    obtain ⟨xs, x, hq, hx⟩ := hg
    obtain ⟨its, rv, p, hz⟩ := I.tuple hq
    obtain ⟨u, hu, ru⟩ := rv.get hx
    have hel : e < s.heap.objs.size := Heap.lt_size he
    have hil : it < s.heap.objs.size := by obtain ⟨_, q, _⟩ := hit; exact Heap.lt_size q
    have nae : e ≠ a := fun z => by
      obtain ⟨o, ho, hcl, _⟩ := p
      rw [← z, he] at ho
      have z2 := Option.some.inj ho
      subst z2
      exact absurd (Value.type.inj hcl) (by decide)
    have nai : a ≠ it := fun z => by
      obtain ⟨o, ho, hcl, _⟩ := p
      obtain ⟨o2, ho2, hc2, _⟩ := hit
      rw [z, ho2] at ho
      have z2 := Option.some.inj ho
      subst z2
      rw [hcl] at hc2
      exact absurd (Value.type.inj hc2) (by decide)
    have hi : i < its.toArray.size := by
      have z := (List.getElem?_eq_some_iff.mp hu).1
      simpa using z
    refine wpAny_pyNext_enum_itemD (Draws.tuple (A := X.A.in1) (I.ok.hd hc) it a nai its.toArray) he ⟨hit, show s.heap.IsTuple a its.toArray from p⟩ hi hne (by simp only [List.mem_cons, List.not_mem_nil, or_false, not_or]; exact ⟨hne, nae⟩) fun y h' tk hP ho hst' hT hsz hk => ?_
    have ey : y = u := by
      have z : its.toArray[i]? = some u := by simpa using hu
      exact Option.some.inj (hP.symm.trans z)
    subst ey
    refine ⟨_, rfl, wpAny_letOwnedTupleGo_enum (s := { s with heap := h', toks := tk + 1 }) ho fun h'' he' sb => ?_⟩
    have hT2 : h''.get? s.heap.objs.size = some { cls := .type "tuple", data := .seq #[.int i tk, y] } := (sb.2 _ (Nat.ne_of_gt hel)).trans hT
    have new : ObjOk X.prog X.w (upd H s.heap.objs.size (.tup [.int (i : Nat), x])) h'' s.heap.objs.size (.tup [.int (i : Nat), x]) :=
      ⟨by show 2 ≤ sizeLine; decide, [.int i tk, y], .cons ⟨_, rfl⟩ (.cons ru .nil), ⟨_, hT2, rfl, _, rfl⟩⟩
    have I1 : Inv X pins σ (upd H s.heap.objs.size (.tup [.int (i : Nat), x])) { s with heap := h'', toks := tk + 1 } :=
      I.turnedNew (ch := [e, it]) (fun b ob hb q => (sb.2 b (fun z => hb (by simp [z]))).trans (hk b ob (fun z => hb (by simp [z])) (fun z => hb (by simp [z])) q)) hf (Nat.le_refl _) new
    refine ⟨.ref s.heap.objs.size, _, I1, rfl, ⟨_, x, rfl, I.hok.fresh (Nat.le_refl _), rfl, fun ys hy => by rw [I.tuple_inj hy hq]; exact hx⟩, ⟨⟨y, ?_⟩, hst'.1.at fun o q => (sb.2 it (Ne.symm hne)).trans q, hne⟩, fun b hb => ?_⟩
    · have e1 : ((i + 1 : Nat) : Int) = (i : Int) + 1 := by omega
      rw [e1]; exact he'
    · have hb' : b < s.heap.objs.size := by
        have e' : b = e ∨ b = it := by simpa using hb
        rcases e' with z | z
        · rw [z]; exact hel
        · rw [z]; exact hil
      rw [upd_ne (Nat.ne_of_lt hb')]
      exact (hf b hb).1
  done := by
    intro X hP hw hK hc i pins s σ H E I hf st hg
    subst hP hw hK
    obtain ⟨⟨old, he⟩, hit, hne⟩ := st
    obtain ⟨xs, hq, hx⟩ := hg
    obtain ⟨its, rv, p, hz⟩ := I.tuple hq
    obtain ⟨f0, f1, f2, f3, f4, f5⟩ := hf it (by simp)
    have nai : a ≠ it := fun z => by
      obtain ⟨o, ho, hcl, _⟩ := p
      obtain ⟨o2, ho2, hc2, _⟩ := hit
      rw [z, ho2] at ho
      have z2 := Option.some.inj ho
      subst z2
      rw [hcl] at hc2
      exact absurd (Value.type.inj hc2) (by decide)
    have hn : its.toArray.size = i := by
      have hl := rv.length
      simp only [List.size_toArray]
      omega
    have D := Draws.tuple (prog := X.prog) (w := X.w) (A := X.A.in1) (I.ok.hd hc) it a nai its.toArray
    rw [hn] at D
    exact wpAny_pyNext_enum_endD D he ⟨hit, show s.heap.IsTuple a its.toArray from p⟩ fun h' eb => ⟨rfl, I.turned (t' := s.toks) (fun b o hb q => eb b o hb q) f0 f1 f3 f4 f5⟩
  self := fun A i s Q E st h => let ⟨⟨_, he⟩, _⟩ := st; wpAny_pyIter_enum he h
def iEnumT (K : PySem.W.Frag) (ta : TA) : TI := fun σ H R => ta σ H fun vs H1 => ∃ a xs, vs = [.ref a] ∧ SqT K H1 a xs ∧ R (IteT K a) H1
theorem pi_enumT {X : Cx} {e : Expr} {ta : TA} {p pos tpos : Pos} {elts : List Expr} {kk : Nat} (hg : Gl X "enumerate") (hm : X.mg "enumerate" = none) (ha : PA X [e] ta) (hs : starEach [e] X.env = [(false, eval e X.env)]) :
    PI X (.Tuple elts kk tpos) (.Call (.Name "enumerate" p) [e] [] pos) (iEnumT X.K ta) := by
  refine ⟨fun pins s σ H R I h => ?_⟩
  refine Call_ (ld_blt I hg hm boot_enumerate (PyProof.Rows.callWith_type1 (thn (ha.run pos pins s σ H _ I h) fun us s1 ⟨vs, H1, I1, r1, q1⟩ => ?_) hs rfl))
  obtain ⟨a, xs, rfl, hq, q⟩ := q1
  obtain ⟨u, rfl, rx⟩ := vals1 r1
  cases (show u = Value.ref a from rx)
  obtain ⟨its, rv, tp, hz⟩ := I1.tuple hq
  refine call_enum_tuple tp fun h' he hit hsz hk => wpAny_pyIter_enum he ?_
  have I2 : Inv X pins σ H1 { s1 with heap := h' } := I1.kept (t' := s1.toks) hk
  refine ⟨s1.heap.objs.size + 1, [s1.heap.objs.size + 1, s1.heap.objs.size], _, _, H1, rfl, I2, turn_enumT a (s1.heap.objs.size + 1) s1.heap.objs.size, ⟨⟨.none, he⟩, hit, Nat.succ_ne_self _⟩, fun b hb => ?_, q⟩
  have hle : s1.heap.objs.size ≤ b := by
    have e' : b = s1.heap.objs.size + 1 ∨ b = s1.heap.objs.size := by simpa using hb
    rcases e' with z | z
    · rw [z]
      exact Nat.le_succ _
    · rw [z]
      exact Nat.le_refl _
  exact I1.fpOk hle (I1.hok.fresh hle)
theorem walk_enumT {K : PySem.W.Frag} {a : Addr} {xs : List V} : Walk (IteT K a) xs.length (fun H => SqT K H a xs) (YPair (fun i => some (.int (i : Nat))) (fun i => xs[i]?)) := by
  refine ⟨fun i _ hi q => ⟨xs, xs[i], q, by simp [hi]⟩, fun _ q => ⟨xs, q, rfl⟩, fun i H v H' _ q y => ?_⟩
  obtain ⟨T, x, h1, h2, h3, h4⟩ := y
  exact ⟨T, .int (i : Nat), x, h1, h2, h3, rfl, h4 xs q⟩
end K01

/-! all rows are written, or the first fault is told -/
namespace K01
open PySem PySem.Spec PyProof.Rows L2
def stepO (B : Bk) : Option Rw → Bk
  | none => B
  | some r => wP B r
def faultO (wd : Int) : Bk → Nat → List (Option Rw) → Option (Nat × Str)
  | _, _, [] => none
  | B, i, o :: os => match jD B wd o with
    | some z => some (i, z)
    | none => faultO wd (stepO B o) (i + 1) os
/-- the rows, as they are -/
inductive RowsD : List PyData → List (Option Rw) → Prop where
  | nil : RowsD [] []
  | cons {d : PyData} {o : Option Rw} {ds : List PyData} {os : List (Option Rw)} (h : RowD d o) (k : okD d) (r : RowsD ds os) : RowsD (d :: ds) (o :: os)
theorem RowsD.len {ds : List PyData} {os : List (Option Rw)} (h : RowsD ds os) : ds.length = os.length := by
  induction h with
  | nil => rfl
  | cons _ _ _ ih => exact congrArg Nat.succ ih
theorem RowsD.get {ds : List PyData} {os : List (Option Rw)} (h : RowsD ds os) {i : Nat} {d : PyData} (e : ds[i]? = some d) : ∃ o, os[i]? = some o ∧ RowD d o ∧ okD d := by
  induction h generalizing i with
  | nil => cases e
  | cons a k r ih =>
    cases i with
    | zero => cases e; exact ⟨_, rfl, a, k⟩
    | succ i => exact ih e
theorem RowsD.app {ds es : List PyData} {os ps : List (Option Rw)} (h : RowsD ds os) (g : RowsD es ps) : RowsD (ds ++ es) (os ++ ps) := by
  induction h with
  | nil => exact g
  | cons a k r ih => exact .cons a k ih
theorem RowsD.take {ds : List PyData} {os : List (Option Rw)} (h : RowsD ds os) (n : Nat) : RowsD (ds.take n) (os.take n) := by
  induction h generalizing n with
  | nil => cases n <;> exact .nil
  | cons a k r ih =>
    cases n with
    | zero => exact .nil
    | succ n => exact .cons a k (ih n)
theorem drop_cons {α : Type} {xs : List α} {i : Nat} {v : α} (h : xs[i]? = some v) : xs.drop i = v :: xs.drop (i + 1) := by
  obtain ⟨hi, e⟩ := List.getElem?_eq_some_iff.mp h
  rw [List.drop_eq_getElem_cons hi, e]
theorem take_snoc {α : Type} {xs : List α} {i : Nat} {v : α} (h : xs[i]? = some v) : xs.take (i + 1) = xs.take i ++ [v] := by
  rw [List.take_add_one, h]
  rfl
/-- a width, rows -/
structure Plan (H : Hp) (wd : Int) (v : V) (os : List (Option Rw)) (d : PyData) (ds : List PyData) : Prop where
  w0 : 0 ≤ wd
  w2 : wd ≤ 2
  hd : Dt Any H v d
  es : seqD d = some ds
  few : ds.length ≤ 5000
  rows : RowsD ds os
theorem Plan.same {H H' : Hp} {wd : Int} {v : V} {os : List (Option Rw)} {d : PyData} {ds : List PyData} (p : Plan H wd v os d ds) (s : Same H H') : Plan H' wd v os d ds := ⟨p.w0, p.w2, p.hd.same s, p.es, p.few, p.rows⟩
abbrev bookO (os : List (Option Rw)) : Bk := os.foldl stepO Bk.new
def spWR (CB : Addr) : Sp := fun vs H Q _ => ∃ (b dx : Addr) (H0 : Hp) (A : Ads) (wd : Int) (v : V) (os : List (Option Rw)) (d : PyData) (ds : List PyData), vs = [.ref b, .int wd, v] ∧ BkAt CB Bk.new 0 H0 H b dx A ∧ Plan H0 wd v os d ds ∧
  (faultO wd Bk.new 0 os = none → ∀ H', BkAt CB (bookO os) 25000 H0 H' b dx A → Q .non H') ∧
  ∀ i z, faultO wd Bk.new 0 os = some (i, z) → ∀ (H' : Hp) (t : Addr), Same H0 H' → H' t = some (.tup [.int (i : Int), .str z]) → Q (.ref t) H'
def Kp (a : Addr) (H H' : Hp) : Prop := ∀ o, H a = some o → H' a = some o
/-- enumerate, of a list or a tuple -/
theorem enum_any {K : PySem.W.Frag} {σ : L2.St} {H : Hp} {R : It → Hp → Prop} {te : TE} {a : Addr} {xs : List V} (he : ∀ Q : VK, Q (.ref a) H → te σ H Q) (hS : Sq H a xs)
    (key : ∀ (it : It) (G : Hp → Prop), Walk it xs.length G (YPair (fun i => some (.int (i : Nat))) (fun i => xs[i]?)) → (∀ H', Kp a H H' → G H') → R it H) :
    iEnum K (tCons te tNil) σ H R ∨ iEnumT K (tCons te tNil) σ H R := by
  rcases hS with h | h
  · exact .inl (he _ ⟨a, xs, rfl, SqL.of h, key _ _ walk_enum fun H' k => SqL.of (k _ h)⟩)
  · exact .inr (he _ ⟨a, xs, rfl, SqT.of h, key _ _ walk_enumT fun H' k => SqT.of (k _ h)⟩)
theorem Sq.kp {H0 H H' : Hp} {a : Addr} {xs : List V} (h : Sq H0 a xs) (s : Same H0 H) (s' : Same H0 H') : Kp a H H' := fun o e => by
  rcases h with h | h
  · rw [s _ _ h] at e
    cases e
    exact s' _ _ h
  · rw [s _ _ h] at e
    cases e
    exact s' _ _ h
theorem whole_wd {wd : Int} (h0 : 0 ≤ wd) (h2 : wd ≤ 2) : wholeV (.int wd) 0 2 = true := by
  show (decide (0 ≤ wd) && decide (wd ≤ 2)) = true
  rw [decide_eq_true h0, decide_eq_true h2]
  rfl
/-- Book() -/
structure BookMk (P : Program) (w : World) (K : PySem.W.Frag) (mg : Str → Option Value) (base : Heap) (CB fI : Addr) (fdI : FuncData) : Prop where
  mks : Mk K CB fI
  gl : mg "Book" = some (.ref CB)
  ok : FnOk P w K mg base CX0 1 fI fdI ["self"] (spBInit CB)
  bi : Binds K fdI ["self"] []
def spRF : Sp := fun vs H Q _ => ∃ (wd : Int) (v : V) (os : List (Option Rw)) (d : PyData) (ds : List PyData), vs = [.int wd, v] ∧ Plan H wd v os d ds ∧
  (faultO wd Bk.new 0 os = none → ∀ H', Same H H' → Q .non H') ∧ ∀ i z, faultO wd Bk.new 0 os = some (i, z) → ∀ (H' : Hp) (t : Addr), Same H H' → H' t = some (.tup [.int (i : Int), .str z]) → Q (.ref t) H'
theorem same_ins {H : Hp} {x dx C : Addr} (nx : H x = none) (nd : H dx = none) (ne : dx ≠ x) : Same H (upd (upd H dx (.own x)) x (.ins C dx [])) := fun y o e => by
  rw [upd_ne (ne_of_none e nx), upd_ne (ne_of_none e nd)]
  exact e
section
variable {P : Program} {w : World} {K : PySem.W.Frag} {mg : Str → Option Value} {base : Heap}
theorem ok_wr {f fW fS fF fM CB : Addr} {fd fdW fdS fdF fdM : FuncData} (F : FnP K "_write_rows" sPWriteRows f fd) (T : BookC K CB) (z_len : mg "len" = none) (z_enumerate : mg "enumerate" = none) (g_MOST_ROWS : ∃ t, mg "MOST_ROWS" = some (.int 5000 t)) (g_MOST_WIDTH : ∃ t, mg "MOST_WIDTH" = some (.int 2 t))
    (dW : Df P w K mg base "is_whole" 1 ["thing", "low", "high"] spWhole fW fdW) (dS : Df P w K mg base "is_sequence" 1 ["thing"] spSeq fS fdS)
    (dF : Df P w K mg base "row_fault" 5 ["book", "width", "row"] (spFault CB) fF fdF) (MM : Mt P w K mg base CB "write" 2 ["self", "index", "row"] (spWrite CB) fM fdM) :
    FnOk P w K mg base CX0 6 f fd ["book", "width", "rows"] (spWR CB) := by
  obtain ⟨tr, g_MOST_ROWS⟩ := g_MOST_ROWS
  obtain ⟨tw, g_MOST_WIDTH⟩ := g_MOST_WIDTH
  have sc : FnScope ["book", "width", "rows", "index", "row", "what"] ["book", "width", "rows"] (defScope sPWriteRows) := ⟨rfl, rfl, rfl, by decide +kernel, rfl, by decide +kernel, by decide +kernel⟩
  refine F.ok sc (fun vs H Q E h => ?_) (fun cdv A outer s H vs Q E hr5 h => ?_)
  · obtain ⟨b, dx, H0, A, wd, v, os, d, ds, rfl, _⟩ := h
    rfl
  · obtain ⟨b, dx, H0, AA, wd, v, os, d, ds, rfl, hB, pl, q1, q2⟩ := h
    have hr1 := hr5.mono (show 1 ≤ 5 by decide)
    refine ⟨_, PSs.nox (pss_cons (ps_if (pt_not (pt_val (pe_call dW.ok hr1 (by rfl) dW.gl dW.kp dW.bi .nil pass0 (pa_cons (pv 1) (pa_cons pe_int (pa_cons (pe_glob (by rfl) g_MOST_WIDTH (v := .int 2) ⟨_, rfl⟩) pa_nil))))))
      (pss_one (ps_ret (pe_tup (pa_cons pe_int (pa_cons pe_str pa_nil)))))
      pss_nil)
    (pss_cons (ps_if (pt_not (pt_val (pe_call dS.ok hr1 (by rfl) dS.gl dS.kp dS.bi .nil pass0 (pa_cons (pv 2) pa_nil))))
      (pss_one (ps_ret (pe_tup (pa_cons pe_int (pa_cons pe_str pa_nil)))))
      pss_nil)
    (pss_cons (ps_if (pt_cmpR op_gt (pe_callB call_len_seq (by rfl) z_len boot_len (pa_cons (pv 2) pa_nil)) (pe_glob (by rfl) g_MOST_ROWS (v := .int 5000) ⟨_, rfl⟩) (nomark _))
      (pss_one (ps_ret (pe_tup (pa_cons (pe_glob (by rfl) g_MOST_ROWS (v := .int 5000) ⟨_, rfl⟩) (pa_cons pe_str pa_nil)))))
      pss_nil)
    (pss_cons (ps_for PassesOwn.never rfl (pi_or (pi_enum (by rfl) z_enumerate (pa_cons (pv 2) pa_nil)) (pi_enumT (by rfl) z_enumerate (pa_cons (pv 2) pa_nil) rfl)) (pg_tup (by rfl) (pgs_cons (pg_name (i := 3) sc.nd rfl (.inl rfl)) (pgs_cons (pg_name (i := 4) sc.nd rfl (.inl rfl)) pgs_nil)))
      (pss_cons (ps_set (i := 5) sc.nd rfl (.inl rfl) (pe_call dF.ok hr5 (by rfl) dF.gl dF.kp dF.bi .nil pass0 (pa_cons (pv 0) (pa_cons (pv 1) (pa_cons (pv 4) pa_nil)))))
      (pss_cons (ps_if (pt_cmpR op_notN (pv 5) pe_non (nomark _))
        (pss_one (ps_ret (pe_tup (pa_cons (pv 3) (pa_cons (pv 5) pa_nil)))))
        pss_nil)
      (pss_one (ps_expr (pe_meth (pv 0) T.cl MM.m MM.ok (hr5.mono (by decide)) MM.bi .nil pass0 (pa_cons (pv 3) (pa_cons (pv 4) pa_nil))))))))
    (pss_one (ps_ret pe_non)))))), ?_⟩
    obtain ⟨a, xs, rfl, _, hS0, hxs⟩ := id (pl.hd.seq pl.es)
    have el := hxs.len
    have ed := seq_ty d
    rw [pl.es] at ed
    refine ⟨_, rfl, _, _, _, _, rfl, .int _, ?_⟩
    rw [whole_wd pl.w0 pl.w2]
    refine ⟨_, rfl, iteF ⟨_, rfl, _, _, rfl, (pl.hd.same hB.sm).odd, fun u nu => ?_⟩⟩
    rw [ed]
    refine ⟨_, rfl, iteF ?_⟩
    have su := same_upd (o := .tup [.ty "list", .ty "tuple"]) nu
    have hB1 := hB.same su (Nat.le_refl _)
    generalize upd H u (.tup [.ty "list", .ty "tuple"]) = H1 at su hB1
    have hS1 := hS0.same hB1.sm
    refine ⟨_, rfl, _, _, rfl, hS1.or, _, _, rfl, rfl, _, rfl, ite2 (fun z => absurd (of_decide_eq_true z) (by rw [el]; have := pl.few; omega)) (fun _ => ?_)⟩
    refine enum_any (fun Q q => ⟨_, rfl, q⟩) hS1 fun it G wk keep => for_it wk (fun i σ H' => ∃ (x3 x4 x5 : Option V) (B : Bk), σ = [some (.ref b), some (.int wd), some (.ref a), x3, x4, x5] ∧ BkAt CB B (5 * i) H0 H' b dx AA ∧ BkOk B ∧ faultO wd B i (os.drop i) = faultO wd Bk.new 0 os ∧ B = bookO (os.take i))
      ⟨none, none, none, Bk.new, rfl, hB1, BkOk.new, rfl, rfl⟩ (fun i σ H' _ ⟨_, _, _, _, _, h, _⟩ => keep _ (hS0.kp hB1.sm h.sm)) ?_ ?_
    · rintro i x σ H2 H3 hi ⟨x3, x4, x5, B, rfl, hb, bo, hf, hbook⟩ ⟨T', u', v, rfl, nT, rfl, eu, ev⟩
      obtain rfl : u' = .int (i : Int) := (Option.some.inj eu).symm
      obtain ⟨d', ed', hd'⟩ := hxs.get ev
      obtain ⟨o, eo, ho, okd⟩ := pl.rows.get ed'
      rw [drop_cons eo] at hf
      have hi' : i < 5000 := by have := pl.few; omega
      have hb1 := hb.same (same_upd (o := .tup [.int (i : Int), v]) nT) (Nat.le_refl _)
      refine ⟨T', _, rfl, .inl (.inl upd_same), rfl, _, _, rfl, _, _, rfl, rfl, ?_⟩
      generalize upd H2 T' (.tup [.int (i : Int), v]) = H4 at hb1
      refine ⟨_, rfl, _, rfl, _, rfl, b, dx, B, 5 * i, H0, AA, wd, v, d', o, rfl, hb1, hd', okd, ho, fun H5 s5 => ?_⟩
      have hb2 := hb1.same s5 (Nat.le_refl _)
      cases ej : jD B wd o with
      | some z =>
        have hf : (match jD B wd o with | some z => some (i, z) | none => faultO wd (stepO B o) (i + 1) (os.drop (i + 1))) = faultO wd Bk.new 0 os := hf
        rw [ej] at hf
        refine ⟨_, rfl, rfl, _, rfl, iteT ⟨_, rfl, _, rfl, (by show 2 ≤ sizeLine; decide), fun t nt => ?_⟩⟩
        exact q2 i z hf.symm _ t (hb2.sm.trans (same_upd nt)) upd_same
      | none =>
        have hf : (match jD B wd o with | some z => some (i, z) | none => faultO wd (stepO B o) (i + 1) (os.drop (i + 1))) = faultO wd Bk.new 0 os := hf
        rw [ej] at hf
        refine ⟨_, rfl, rfl, _, rfl, iteF ?_⟩
        cases ho with
        | no h => cases ej
        | @row ys r ed2 hw =>
        refine ⟨_, rfl, b, dx, _, rfl, hb2.hb, rfl, _, rfl, _, rfl, b, dx, B, 5 * i, H0, AA, i, v, d', ys, r, wd, rfl, hb2, by omega, bo, hd', ed2, hw, ej, fun H6 h6 => ?_⟩
        refine ⟨_, _, _, wP B r, rfl, h6.same (Same.refl _) (by omega), bo.step ej, hf, ?_⟩
        rw [take_snoc eo, hbook]
        show _ = (os.take i ++ [some r]).foldl stepO Bk.new
        rw [List.foldl_append]
        rfl
    · rintro σ H2 ⟨x3, x4, x5, B, rfl, hb, bo, hf, hbook⟩
      have hn : xs.length = os.length := by rw [el, pl.rows.len]
      rw [hn, List.drop_of_length_le (Nat.le_refl _)] at hf
      rw [hn, List.take_of_length_le (Nat.le_refl _)] at hbook
      subst hbook
      exact q1 hf.symm H2 (hb.same (Same.refl _) (by have := pl.few; omega))
theorem ok_rf {f fI fW CB : Addr} {fd fdI fdW : FuncData} (F : FnP K "record_fault" sPRecordFault f fd) (M : BookMk P w K mg base CB fI fdI) (dW : Df P w K mg base "_write_rows" 6 ["book", "width", "rows"] (spWR CB) fW fdW) :
    FnOk P w K mg base CX0 7 f fd ["width", "rows"] spRF := by
  have sc : FnScope ["width", "rows"] ["width", "rows"] (defScope sPRecordFault) := ⟨rfl, rfl, rfl, by decide +kernel, rfl, by decide +kernel, by decide +kernel⟩
  refine F.ok sc (fun vs H Q E h => ?_) (fun cdv A outer s H vs Q E hr h => ?_)
  · obtain ⟨wd, v, os, d, ds, rfl, _⟩ := h
    rfl
  · obtain ⟨wd, v, os, d, ds, rfl, pl, q1, q2⟩ := h
    refine ⟨_, PSs.nox (pss_one (ps_ret (pe_call dW.ok hr (by rfl) dW.gl dW.kp dW.bi .nil pass0 (pa_cons (pe_make0 M.mks M.ok (hr.mono (by decide)) (by rfl) M.gl M.bi .nil pass0) (pa_cons (pv 0) (pa_cons (pv 1) pa_nil)))))), ?_⟩
    intro x dx nx nd ne
    refine ⟨x, dx, H, rfl, upd_same, nx, same_ins nx nd ne, fun H1 AA hB => ⟨rfl, _, rfl, _, rfl, ?_⟩⟩
    exact ⟨x, dx, H, AA, wd, v, os, d, ds, rfl, hB, pl, fun e H2 h2 => q1 e H2 h2.sm, fun i z e H2 t s2 ht => q2 i z e H2 t s2 ht⟩
end
end K01

/-! tuple(d) of a dict: its keys in order -/
namespace K01
open PySem PySem.Spec PyProof.Rows
section
variable {prog : Program} {w : World} {A : Around} {E : Value → Shared → Prop} {s : Shared} {d : Addr} {n : Nat} {P : Nat → Value → Prop} {OK : Heap → Prop}
theorem collect_dict {Q : List Value → Shared → Prop} (K : PySem.W.KdlSrc prog w "dict" d d n P OK) (hh : A.handled = none) (hok : OK s.heap) (hn : n ≤ sizeLine)
    (hQ : ∀ (h' : Heap) (tk : Nat) (acc : Array Value), (∀ b o, s.heap.get? b = some o → h'.get? b = some o) → ItemsOf P acc n → Q acc.toList { s with heap := h', toks := tk }) :
    wpAny (model prog w) A (collect (.ref d)) Q E s := by
  have hlt := K.there _ hok
  unfold collect
  refine wpAny_bind (wpAny_runValue (codeAny_builtin F.entry_proto_collect ?_))
  rw [Around.under_plainId F.plain_proto_collect _]
  show wpAny _ A.in1 (newList [] >>= fun l => again (.builtin "list.__iadd__" ⟨[l, .ref d], []⟩)) _ _ s
  refine wpAny_bind (wpAny_newObj_type ?_)
  refine wpAny_pure ⟨plainId_quiet F.plain_list_iadd _, codeAny_builtin F.entry_list_iadd ?_⟩
  rw [Around.under_plainId F.plain_list_iadd _]
  show wpAny _ A.in1 (Builtin.List.listExtendWith (.ref s.heap.objs.size) (.ref d) (.ref s.heap.objs.size)) _ _ _
  have hS : (s.heap.push { cls := .type "list", data := .seq ([] : List Value).toArray }).get? s.heap.objs.size = some { cls := .type "list", data := .seq #[] 0 } := Heap.get?_push_size _ rfl
  have step := PySem.W.kdl_extend (A := A) (s := { s with heap := s.heap.push { cls := .type "list", data := .seq ([] : List Value).toArray } })
    (R := fun r s' => ∃ h' tk acc c, r = .ok (.ret (.ref s.heap.objs.size)) ∧ s' = { s with heap := h', toks := tk } ∧ (∀ b o, s.heap.get? b = some o → h'.get? b = some o) ∧ h'.get? s.heap.objs.size = some { cls := .type "list", dict := none, data := .seq acc c, slots := #[] } ∧ ItemsOf P acc n)
    K hh (K.keep _ _ hok fun b _ o e => Heap.get?_push_of_some _ e) s.heap.objs.size (Nat.ne_of_gt hlt.1) (Nat.ne_of_gt hlt.2) (.ref s.heap.objs.size) 0 hS
    (fun h' tk acc' c' hk hS' hacc => ⟨h', tk, acc', c', rfl, rfl, fun b o e => hk b o (Nat.ne_of_lt (Heap.lt_size e)) (Heap.get?_push_of_some _ e), hS', hacc⟩) hn
  have last : ∀ s', (∃ h' tk acc c, (Except.ok (Flow.ret (.ref s.heap.objs.size)) : Result) = .ok (.ret (.ref s.heap.objs.size)) ∧ s' = { s with heap := h', toks := tk } ∧ (∀ b o, s.heap.get? b = some o → h'.get? b = some o) ∧ h'.get? s.heap.objs.size = some { cls := .type "list", dict := none, data := .seq acc c, slots := #[] } ∧ ItemsOf P acc n) →
      wpAny (model prog w) A (match Value.ref s.heap.objs.size with
      | Value.ref a => do
        match (← load a).data with
          | Data.seq xs _ => pure xs.toList
          | _ => unsupported "internal:collect"
      | _ => unsupported "internal:collect") Q E s' := by
    rintro s' ⟨h', tk, acc, c, _, rfl, hk, hl, hacc⟩
    show wpAny (model prog w) A (load s.heap.objs.size >>= _) _ _ _
    refine wpAny_bind (wpAny_load hl ?_)
    exact wpAny_pure (hQ h' tk acc hk hacc)
  refine wpAny_mono step (fun fin s' h => ?_) (fun e s' h => ?_)
  · cases fin with
    | done f =>
      obtain ⟨h', tk, acc, c, e, r⟩ := h
      cases e
      exact last s' ⟨h', tk, acc, c, rfl, r⟩
    | again c' =>
      refine ⟨h.1, codeAny_mono h.2 fun r s'' hr => ?_⟩
      obtain ⟨h', tk, acc, c, e, r⟩ := hr
      subst e
      exact last s'' ⟨h', tk, acc, c, rfl, r⟩
  · obtain ⟨_, _, _, _, e, _⟩ := h
    cases e
theorem code_tuple_dict {Q₁ : Value → Shared → Prop} (K : PySem.W.KdlSrc prog w "dict" d d n P OK) (hh : A.handled = none) (hok : OK s.heap) (hn : n ≤ sizeLine)
    (h : ∀ (h' : Heap) (tk : Nat) (acc : Array Value), (∀ b o, s.heap.get? b = some o → h'.get? b = some o) → ItemsOf P acc n → Q₁ (.ref h'.objs.size) { s with heap := h'.push { cls := .type "tuple", data := .seq acc }, toks := tk }) :
    codeAny (model prog w) A (.call (.builtin "tuple.__new__") ⟨[.type "tuple", .ref d], []⟩) (wants Q₁ E) s := by
  refine codeAny_of_tree ?_
  show wpAny _ A.in1 (do checkBuiltinCall "tuple.__new__" ⟨[.type "tuple", .ref d], []⟩; again (.builtin "tuple.__new__" ⟨[.type "tuple", .ref d], []⟩)) _ _ s
  refine wpAny_bind (wpAny_of_eq (F.newCall_tuple_1 _) (wpAny_pure ⟨plainId_quiet F.plain_tuple_new _, codeAny_builtin F.entry_tuple_new ?_⟩))
  rw [Around.under_plainId F.plain_tuple_new _]
  have subT := sub_tuple_self
  have iniT := init_tuple_lookup
  have madeT := madeHere_tuple
  have typD := K.type s hok
  wp_walk using wpAny_typeOf typD, collect_dict (A := A.in1) K (show A.in1.handled = none from hh) hok hn
  intro h' tk acc hk hacc
  show wpAny _ _ (Builtin.Tuple.tupleExact acc.toList.toArray >>= fun v => ret v) _ _ _
  unfold Builtin.Tuple.tupleExact
  refine wpAny_bind (wpAny_newObj_type ?_ (by show acc.toList.toArray.size ≤ sizeLine; simp only [Array.toArray_toList]; rw [hacc.1]; exact hn))
  refine wpAny_pure ?_
  have e : acc.toList.toArray = acc := by simp
  rw [e]
  exact h h' tk acc hk hacc
theorem call_tuple_dict {Q : Value → Shared → Prop} (K : PySem.W.KdlSrc prog w "dict" d d n P OK) (hh : A.handled = none) (hok : OK s.heap) (hn : n ≤ sizeLine)
    (hQ : ∀ (h' : Heap) (tk : Nat) (acc : Array Value), (∀ b o, s.heap.get? b = some o → h'.get? b = some o) → ItemsOf P acc n → Q (.ref h'.objs.size) { s with heap := h'.push { cls := .type "tuple", data := .seq acc }, toks := tk }) :
    wpAny (model prog w) A (call (.type "tuple") [.ref d]) Q E s := by
  refine callType_codes (Q₁ := fun obj s₁ => s₁.TypeIs obj "tuple" ∧ Q obj s₁) F.called_tuple (F.typeCall_tuple_1 _) F.entry_object_init
    (code_tuple_dict (A := A.in1) K hh hok hn fun h' tk acc hk hacc => ⟨⟨_, Heap.get?_push_size _ rfl, rfl⟩, hQ h' tk acc hk hacc⟩) fun obj s₁ h₁ => ?_
  exact ⟨h₁.1, F.args_object_init_2 obj _, object_init_meets F.called_tuple.init.lookup F.called_tuple.made (by decide) prog w A.in1 _ s₁ ⟨h₁.1, rfl, h₁.2⟩⟩
end
open L2
/-- tuple(d): its keys -/
theorem call_tupleD {X : Cx} (hcalm : X.calm = true) : CallR X (.type "tuple") (fun xs H Q => ∃ (a : Addr) (kvs : List (Key × V)), xs = [.ref a] ∧ Rd H a (.dK kvs) ∧ ∀ p, H p = none → Q (.ref p) (upd H p (.tup (kvs.map fun kv => kV kv.1)))) := by
  intro pins s σ H xs us Q I r q
  obtain ⟨a, kvs, rfl, hd, q⟩ := q
  obtain ⟨u, rfl, rx⟩ := vals1 r
  cases rx
  obtain ⟨z, lo, vs, rel, dd⟩ := dk_rd I.hok hd
  obtain ⟨ep, hat⟩ := dd.dictAt
  have ek : (kvs.map fun kv => kV kv.1) = vs.map fun p => kV p.1 := by
    have e := congrArg (List.map kV) rel.keys
    rw [List.map_map, List.map_map] at e
    exact e
  refine call_tuple_dict (PySem.W.kdl_dict (knd := mixKind X.prog X.w) (kvs := vs) (ep := ep) lo) (I.ok.hd hcalm) hat (by rw [← rel.length]; exact z) fun h' tk acc hk hacc => ?_
  have hv : Vals (vs.map fun p => kV p.1) acc.toList := keys_at (by rw [Array.length_toList]; exact hacc.1) fun j v e => hacc.2 j v (by rw [← Array.getElem?_toList]; exact e)
  have J : Inv X pins σ H { s with heap := h', toks := tk } := I.kept hk
  have hn : H h'.objs.size = none := J.hok.fresh (Nat.le_refl _)
  refine ⟨.ref h'.objs.size, upd H h'.objs.size (.tup (kvs.map fun kv => kV kv.1)), J.laid (t' := tk) (fun b o e => Heap.get?_push_of_some _ e) (Nat.le_refl _) ?_, rfl, q _ hn⟩
  show _ ∧ ∃ its : List Value, Vals _ its ∧ IsTup _ _ its.toArray
  refine ⟨by rw [List.length_map]; exact z, acc.toList, by rw [ek]; exact hv, ?_⟩
  rw [Array.toArray_toList]
  exact IsTup.new _ _
/-- values told place by place -/
theorem refs_told {β : Type} {g : β → Addr} : ∀ (ks : List β) (us : List Value), us.length = ks.length → (∀ (j : Nat) (u : Value), us[j]? = some u → ∃ y, ks[j]? = some y ∧ u = Value.ref (g y)) → L2.Vals (ks.map fun y => V.ref (g y)) us
  | [], [], _, _ => .nil
  | [], _ :: _, h, _ => by cases h
  | _ :: _, [], h, _ => by cases h
  | y :: ys, u :: us, h, k => by
    obtain ⟨y', e1, e2⟩ := k 0 u rfl
    cases e1
    exact .cons e2 (refs_told ys us (Nat.succ.inj h) fun j v e => k (j + 1) v e)
/-- tuple(d), the keys are tuples -/
theorem call_tupleDT {X : Cx} (hcalm : X.calm = true) : CallR X (.type "tuple") (fun xs H Q => ∃ (a : Addr) (kvs : List (List Key × V)), xs = [.ref a] ∧ Rd H a (.dT kvs) ∧ ∀ p bs, H p = none → IsKeys H kvs bs → Q (.ref p) (upd H p (.tup (bs.map V.ref)))) := by
  intro pins s σ H xs us Q I r q
  obtain ⟨a, kvs, rfl, rd, q⟩ := q
  obtain ⟨u, rfl, rx⟩ := vals1 r
  cases rx
  obtain ⟨z, notm, ks, kt, ob, es, ep, at_, exd, dat, ent, _⟩ := (show ObjOk X.prog X.w H s.heap a (.dT kvs) from rd_of I.hok rd)
  have n1 := size_of_entries ent
  have n2 : kvs.length = ks.length := Paired.length kt
  refine call_tuple_dict (kdl_raw notm exd dat) (I.ok.hd hcalm) at_ (by rw [n1, ← n2]; exact z) fun h' tk acc hk hacc => ?_
  have hv : L2.Vals (ks.map fun y => V.ref y.2.1) acc.toList := refs_told ks acc.toList (by rw [Array.length_toList, hacc.1]; exact n1) fun j v e => by
    obtain ⟨en, ee, ev⟩ := hacc.2 j v (by rw [← Array.getElem?_toList]; exact e)
    have own := entry_at ent j
    rw [ee] at own
    cases eb : ks[j]? with
    | none => rw [eb] at own; cases own
    | some y =>
      rw [eb] at own
      refine ⟨y, rfl, ?_⟩
      rw [ev, show en = entryOfKey (tupleKind (mixKind X.prog X.w)) y from Option.some.inj own]
      rfl
  have J : Inv X pins σ H { s with heap := h', toks := tk } := I.kept hk
  have hn : H h'.objs.size = none := J.hok.fresh (Nat.le_refl _)
  have eb : (ks.map fun y => V.ref y.2.1) = (ks.map fun y => y.2.1).map V.ref := by rw [List.map_map]; rfl
  refine ⟨.ref h'.objs.size, upd H h'.objs.size (.tup ((ks.map fun y => y.2.1).map V.ref)), J.laid (t' := tk) (fun b o e => Heap.get?_push_of_some _ e) (Nat.le_refl _) ?_, rfl, q _ _ hn (isKeys_of kt)⟩
  refine ⟨by rw [List.length_map, List.length_map, ← n2]; exact z, acc.toList, by rw [← eb]; exact hv, ?_⟩
  rw [Array.toArray_toList]
  exact IsTup.new _ _
end K01

/-! a record is made, or refused -/
namespace K01
open PySem PySem.Spec PyProof.Rows L2
abbrev sBadInit : Stmt := inClass (top 3) 0
abbrev sRInit : Stmt := inClass (top 24) 0
abbrev badF (i : Int) (x : Str) : List (Str × V) := [("what", .str x), ("index", .int i)]
abbrev NoF (K : PySem.W.Frag) (C : Addr) (f : Str) : Prop := PySem.W.findIn K (.ref C) f = some none
theorem keep_new {H : Hp} {a d : Addr} {o u : HO} (nd : H d = none) : ∀ b x, b ≠ a → H b = some x → (upd (upd H d u) a o) b = some x := fun b x n e => by
  rw [upd_ne n, upd_ne (ne_of_none e nd)]
  exact e
theorem keep_dict {H H1 : Hp} {a d : Addr} {o : HO} (nd : H d = none) (k : ∀ b x, b ≠ a → H b = some x → H1 b = some x) : ∀ b x, b ≠ a → H b = some x → (upd H1 d o) b = some x := fun b x n e => by
  rw [upd_ne (ne_of_none e nd)]
  exact k b x n e
def spBad (C : Addr) : Sp := fun vs H Q _ => ∃ (a : Addr) (i : Int) (x : Str), vs = [.ref a, .int i, .str x] ∧ H a = some (exo a C none) ∧
  ∀ (H' : Hp) (d : Addr), H d = none → H' a = some (exo a C (some d)) → H' d = some (exd d (badF i x)) → (∀ b o, b ≠ a → H b = some o → H' b = some o) → Q .non H'
def rTupS : List V → Hp → VK → Prop := fun vs H Q => ∃ (a : Addr) (xs : List V), vs = [.ref a] ∧ Sq H a xs ∧ ∀ (H2 : Hp) (t : Addr), Same H H2 → H2 t = some (.tup xs) → Q (.ref t) H2
theorem call_tupS {X : Cx} : CallR X (.type "tuple") rTupS := fun pins s σ H vs us Q I r h => by
  obtain ⟨a, xs, rfl, hS, k⟩ := h
  refine call_tuple_of pins s σ H _ us Q I r ⟨a, xs, rfl, ?_⟩
  exact hS.elim (fun h => .inl ⟨SqL.of h, fun l nl => k _ l (same_upd nl) upd_same⟩) fun h => .inr ⟨SqT.of h, k H a (Same.refl _) h⟩
def spTuples : Sp := fun vs H Q _ => ∃ (v : V) (d : PyData) (xs : List PyData) (r : Rw), vs = [v] ∧ Dt Any H v d ∧ seqD d = some xs ∧ RwL xs r ∧ ∀ (t : Addr) (H' : Hp), Same H H' → Dt Any H' (.ref t) r.data → Q (.ref t) H'
section
variable {P : Program} {w : World} {K : PySem.W.Frag} {mg : Str → Option Value} {base : Heap}
theorem ok_bad {f C : Addr} {fd : FuncData} (F : FunD K "__init__" "BadRecord.__init__" (defArgs sBadInit) (defBody sBadInit) (defScope sBadInit) [] [] f fd) (T : OexC K C) (n0 : NoF K C "index") (n1 : NoF K C "what") :
    FnOk P w K mg base CX0 1 f fd ["self", "index", "what"] (spBad C) := by
  have sc : FnScope ["self", "index", "what"] ["self", "index", "what"] (defScope sBadInit) := ⟨rfl, rfl, rfl, by decide +kernel, rfl, by decide +kernel, by decide +kernel⟩
  refine F.ok sc (fun vs H Q E h => ?_) (fun cdv A outer s H vs Q E hr h => ?_)
  · obtain ⟨a, i, x, rfl, _⟩ := h
    rfl
  · obtain ⟨a, i, x, rfl, ea, q⟩ := h
    refine ⟨_, PSs.nox (pss_cons (ps_ost (pv 0) (pv 1)) (pss_one (ps_ost (pv 0) (pv 2)))), ?_⟩
    refine ⟨_, rfl, _, rfl, a, C, rfl, T, n0, .inl ⟨ea, fun d nd ne => ?_⟩⟩
    refine ⟨_, rfl, _, rfl, a, C, rfl, T, n1, .inr ⟨d, _, upd_same, Eq.trans (upd_ne ne) upd_same, (by show 1 ≤ 900; decide), ?_⟩⟩
    exact q _ d nd (Eq.trans (upd_ne (Ne.symm ne)) upd_same) upd_same (keep_dict nd (keep_new nd))
theorem ok_tuples {f : Addr} {fd : FuncData} (F : FnP K "as_tuples" sPAsTuples f fd) (z_tuple : mg "tuple" = none) : FnOk P w K mg base CX0 1 f fd ["row"] spTuples := by
  have sc : FnScope ["row"] ["row"] (defScope sPAsTuples) := ⟨rfl, rfl, rfl, by decide +kernel, rfl, by decide +kernel, by decide +kernel⟩
  refine F.ok sc (fun vs H Q E h => ?_) (fun cdv A outer s H vs Q E hr h => ?_)
  · obtain ⟨v, d, xs, r, rfl, _⟩ := h
    rfl
  · obtain ⟨v, d, xs, r, rfl, hd, e, hw, q⟩ := h
    refine ⟨_, PSs.nox (pss_cons (ps_if (pt_cmpR op_eq (pe_ix ixS (pv 0) pe_int (fun _ _ => rfl)) pe_str (nomark _))
      (pss_one (ps_ret (pe_tup (pa_cons (pe_ix ixS (pv 0) pe_int (fun _ _ => rfl)) (pa_cons (pe_ix ixS (pv 0) pe_int (fun _ _ => rfl)) (pa_cons (pe_ix ixS (pv 0) pe_int (fun _ _ => rfl)) (pa_cons (pe_ix ixS (pv 0) pe_int (fun _ _ => rfl)) (pa_cons (pe_callTy call_tupS (by rfl) z_tuple (by decide +kernel) (pa_cons (pe_ix ixS (pv 0) pe_int (fun _ _ => rfl)) pa_nil)) pa_nil))))))))
      pss_nil)
    (pss_one (ps_ret (pe_callTy call_tupS (by rfl) z_tuple (by decide +kernel) (pa_cons (pv 0) pa_nil))))), ?_⟩
    obtain ⟨a, vs, rfl, _, hS, hvs⟩ := id (hd.seq e)
    cases hw with
    | @comes l k n hs e5 hl hk hn he hh =>
      cases hvs with | cons g0 hvs => cases hvs with | cons g1 hvs => cases hvs with | cons g2 hvs => cases hvs with | cons g3 hvs => cases hvs with | cons g4 hvs =>
      cases hvs
      obtain rfl := g0.str_inv.1
      obtain rfl := g1.str_inv.1
      obtain rfl := g2.str_inv.1
      obtain rfl := g3.int_inv
      obtain ⟨a5, ws, rfl, _, hS5, hws⟩ := id (g4.seq he)
      refine ⟨_, rfl, _, _, _, _, rfl, rfl, hS, rfl, rfl, _, rfl, iteT ?_⟩
      refine ⟨_, rfl, _, _, _, _, rfl, rfl, hS, rfl, _, rfl, _, _, _, _, rfl, rfl, hS, rfl, _, rfl, _, _, _, _, rfl, rfl, hS, rfl, _, rfl, _, _, _, _, rfl, rfl, hS, rfl, ?_⟩
      refine ⟨_, rfl, _, _, _, _, rfl, rfl, hS, rfl, a5, ws, rfl, hS5, fun H2 t s2 ht => ⟨(by show 5 ≤ sizeLine; decide), fun z nz => ?_⟩⟩
      have s3 := same_upd (o := .tup [.str "comes", .str l, .str k, .int n, .ref t]) nz
      exact q z _ (s2.trans s3) (.tup trivial upd_same (.cons (g0.same (s2.trans s3)) (.cons (g1.same (s2.trans s3)) (.cons (g2.same (s2.trans s3)) (.cons (.int n) (.cons (.tup trivial (s3 _ _ ht) (hws.same (s2.trans s3))) .nil))))))
    | @weds f m hf hm =>
      cases hvs with | cons g0 hvs =>
      obtain rfl := g0.str_inv.1
      refine ⟨_, rfl, _, _, _, _, rfl, rfl, hS, atI_nat (j := 0) rfl, rfl, _, rfl, iteF ?_⟩
      exact ⟨_, rfl, a, _, rfl, hS, fun H2 t s2 ht => q t H2 s2 (.tup trivial ht ((DtAll.cons g0 hvs).same s2))⟩
    | @born f m k l n hf hm hk hl hn =>
      cases hvs with | cons g0 hvs =>
      obtain rfl := g0.str_inv.1
      refine ⟨_, rfl, _, _, _, _, rfl, rfl, hS, atI_nat (j := 0) rfl, rfl, _, rfl, iteF ?_⟩
      exact ⟨_, rfl, a, _, rfl, hS, fun H2 t s2 ht => q t H2 s2 (.tup trivial ht ((DtAll.cons g0 hvs).same s2))⟩
    | @dies l hl =>
      cases hvs with | cons g0 hvs =>
      obtain rfl := g0.str_inv.1
      refine ⟨_, rfl, _, _, _, _, rfl, rfl, hS, atI_nat (j := 0) rfl, rfl, _, rfl, iteF ?_⟩
      exact ⟨_, rfl, a, _, rfl, hS, fun H2 t s2 ht => q t H2 s2 (.tup trivial ht ((DtAll.cons g0 hvs).same s2))⟩
end
end K01

/-! a record is made, or refused -/
namespace K01
open PySem PySem.Spec PyProof.Rows L2
/-- the class of records -/
structure RecC (K : PySem.W.Frag) (CR : Addr) : Prop where
  cl : Cls K CR
  nWidth : NoAttr K CR "width"
  nRows : NoAttr K CR "rows"
  nPersons : NoAttr K CR "persons"
  nFounders : NoAttr K CR "founders"
  nBorn : NoAttr K CR "born"
  nWeddings : NoAttr K CR "weddings"
  nCouples : NoAttr K CR "couples"
  nLiving : NoAttr K CR "living"
  nBook : NoAttr K CR "_book"
/-- BadRecord(..) -/
structure BadC (P : Program) (w : World) (K : PySem.W.Frag) (mg : Str → Option Value) (base : Heap) (C fI : Addr) (fd : FuncData) : Prop where
  cl : OexC K C
  ini : PySem.W.findIn K (.ref C) "__init__" = some (some (.ref fI))
  ty : PySem.W.typeIn K (.ref fI) = some (.type "function")
  gl : mg "BadRecord" = some (.ref C)
  ok : FnOk P w K mg base CX0 1 fI fd ["self", "index", "what"] (spBad C)
  bi : Binds K fd ["self", "index", "what"] []
abbrev recF (wd : Int) (ar ap af ab aw ac al b : Addr) : List (Str × V) :=
  [("width", .int wd), ("rows", .ref ar), ("persons", .ref ap), ("founders", .ref af), ("born", .ref ab), ("weddings", .ref aw), ("couples", .ref ac), ("living", .ref al), ("_book", .ref b)]
/-- a record of a width, its rows as data -/
def RecAt (CR : Addr) (H : Hp) (x : Addr) (wd : Int) (D : PyData) : Prop := ∃ (dx ar ap af ab aw ac al b : Addr), H x = some (.ins CR dx (recF wd ar ap af ab aw ac al b)) ∧ Dt Any H (.ref ar) D
def datO : Option Rw → PyData
  | some r => r.data
  | none => .none
theorem noL_dat : ∀ os : List (Option Rw), noLAll (os.map datO) = true
  | [] => rfl
  | none :: os => noL_dat os
  | some r :: os => by
    show (noL r.data && noLAll (os.map datO)) = true
    rw [r.noL, noL_dat os]
    rfl
def rowsD (os : List (Option Rw)) : PyData := .tuple (os.map datO)
def spRec (CR CE : Addr) : Sp := fun vs H Q E => ∃ (x dx : Addr) (wd : Int) (v : V) (os : List (Option Rw)) (d : PyData) (ds : List PyData), vs = [.ref x, .int wd, v] ∧ H x = some (.ins CR dx []) ∧ Plan H wd v os d ds ∧
  (faultO wd Bk.new 0 os = none → ∀ (H' : Hp), RecAt CR H' x wd (rowsD os) → (∀ z u, H z = some u → z ≠ x → H' z = some u) → Q .non H') ∧
  ∀ i z, faultO wd Bk.new 0 os = some (i, z) → ∀ (H' : Hp) (d : Addr), H d = none → H' d = some (.xd (badF (i : Int) z)) → Same H H' → E (.ref CE) (some d) H'
/-- all but x -/
def minus (H : Hp) (x : Addr) : Hp := fun a => if a = x then none else H a
theorem minus_at {H : Hp} {x : Addr} : minus H x x = none := if_pos rfl
theorem minus_ne {H : Hp} {x y : Addr} (h : y ≠ x) : minus H x y = H y := if_neg h
theorem minus_same {H : Hp} {x : Addr} : Same (minus H x) H := fun y o e => by
  by_cases h : y = x
  · rw [h, minus_at] at e; cases e
  · rw [minus_ne h] at e; exact e
section
variable {S : Addr → Prop} {H : Hp} {x C dx : Addr} {fs : List (Str × V)}
mutual
theorem Dt.off {v : V} {d : PyData} (h : Dt S H v d) (hx : H x = some (.ins C dx fs)) : Dt (fun a => a ≠ x) H v d := by
  cases h with
  | non => exact .non
  | bl b => exact .bl b
  | int i => exact .int i
  | str x h1 h2 => exact .str x h1 h2
  | lst s e r => exact .lst (ne_of e hx (by intro z; cases z)) e (r.off hx)
  | tup s e r => exact .tup (ne_of e hx (by intro z; cases z)) e (r.off hx)
theorem DtAll.off {vs : List V} {ds : List PyData} (h : DtAll S H vs ds) (hx : H x = some (.ins C dx fs)) : DtAll (fun a => a ≠ x) H vs ds := by
  cases h with
  | nil => exact .nil
  | cons a b => exact .cons (a.off hx) (b.off hx)
end
end
theorem Plan.off {H : Hp} {wd : Int} {v : V} {os : List (Option Rw)} {d : PyData} {ds : List PyData} {x C dx : Addr} {fs : List (Str × V)} (p : Plan H wd v os d ds) (hx : H x = some (.ins C dx fs)) : Plan (minus H x) wd v os d ds :=
  ⟨p.w0, p.w2, (p.hd.off hx).to (fun _ _ => trivial) (fun a o s e => (minus_ne s).trans e), p.es, p.few, p.rows⟩
/-- within the making of a record -/
structure RSt (CB CR : Addr) (B : Bk) (H Hc : Hp) (x dx b dxb : Addr) (A : Ads) (ar : Addr) (D : PyData) (w : Bool) (fs : List (Str × V)) : Prop where
  B : BkAt CB B 25000 (minus H x) Hc b dxb A
  hx : Hc x = some (.ins CR dx fs)
  bx : b ≠ x
  har : w = true → Dt (fun a => a ≠ x) Hc (.ref ar) D
section
variable {CB CR : Addr} {B : Bk} {H Hc : Hp} {x dx b dxb : Addr} {A : Ads} {ar : Addr} {D : PyData} {w : Bool} {fs : List (Str × V)}
theorem BkAt.off {n : Nat} {C : Addr} {H0 : Hp} {u : HO} (h : BkAt CB B n H0 Hc b dxb A) (hx : Hc x = some (.ins C dx fs)) (bx : b ≠ x) (x0 : H0 x = none) : BkAt CB B n H0 (upd Hc x u) b dxb A := by
  obtain ⟨hb, hk, ⟨ps, p1, p2⟩, ⟨rs, r1, r2⟩, ⟨ds, d1, d2, d3⟩, hm, ⟨as, a1, a2, a3, a4⟩, ⟨cs, c1, c2, c3, c4⟩, nd, n0, sm, lk, lm⟩ := h
  have st : ∀ {y : Addr} {o : HO}, Hc y = some o → (∀ fs', o ≠ .ins C dx fs') → upd Hc x u y = some o := fun {y o} e ne => (upd_ne (ne_of e hx (ne fs))).trans e
  exact ⟨(upd_ne bx).trans hb, st hk (fun _ z => by cases z), ⟨ps, st p1 (fun _ z => by cases z), p2⟩, ⟨rs, st r1 (fun _ z => by cases z), r2⟩, ⟨ds, st d1 (fun _ z => by cases z), d2, d3⟩, st hm (fun _ z => by cases z),
    ⟨as, st a1 (fun _ z => by cases z), a2, a3.upd_dic (Nat.le_refl _) hx (fun _ z => by cases z), a4⟩, ⟨cs, st c1 (fun _ z => by cases z), c2, c3.upd_dic (Nat.le_refl _) hx (fun _ z => by cases z), c4⟩, nd, n0, upd_same0 sm x0, lk, lm⟩
theorem BkAt.lower {n : Nat} (h : BkAt CB B n H Hc b dxb A) : BkAt CB B n (minus H x) Hc b dxb A := by
  have z : ∀ {y : Addr}, H y = none → minus H x y = none := fun {y} e => by
    by_cases q : y = x
    · rw [q]; exact minus_at
    · rw [minus_ne q]; exact e
  obtain ⟨hb, hk, hp, hr, hd, hm, ⟨as, a1, a2, a3, a4⟩, ⟨cs, c1, c2, c3, c4⟩, nd, n0, sm, lk, lm⟩ := h
  refine ⟨hb, hk, hp, hr, hd, hm, ⟨as, a1, a2, fun kv hkv => ?_, a4⟩, ⟨cs, c1, c2, fun kv hkv => ?_, c4⟩, nd, fun y hy => z (n0 y hy), minus_same.trans sm, lk, lm⟩
  · obtain ⟨l, xs, e1, e2, e3, e4⟩ := a3 kv hkv
    exact ⟨l, xs, e1, e2, e3, z e4⟩
  · obtain ⟨l, xs, e1, e2, e3, e4⟩ := c3 kv hkv
    exact ⟨l, xs, e1, e2, e3, z e4⟩
theorem fault_none {wd : Int} : ∀ {os : List (Option Rw)} {B : Bk} {i : Nat}, faultO wd B i os = none → ∀ o ∈ os, ∃ r, o = some r
  | [], _, _, _ => fun o h => by cases h
  | o :: os, B, i, h => fun o' ho => by
    have h : (match jD B wd o with | some z => some (i, z) | none => faultO wd (stepO B o) (i + 1) os) = none := h
    cases e : jD B wd o with
    | some z => rw [e] at h; cases h
    | none =>
      rw [e] at h
      rcases List.mem_cons.mp ho with rfl | ho
      · cases o' with
        | none => cases e
        | some r => exact ⟨r, rfl⟩
      · exact fault_none h o' ho
theorem RSt.same {H' : Hp} (S : RSt CB CR B H Hc x dx b dxb A ar D w fs) (s : Same Hc H') : RSt CB CR B H H' x dx b dxb A ar D w fs := ⟨S.B.same s (Nat.le_refl _), s _ _ S.hx, S.bx, fun e => (S.har e).same s⟩
theorem RSt.put {fs' : List (Str × V)} (S : RSt CB CR B H Hc x dx b dxb A ar D w fs) : RSt CB CR B H (upd Hc x (.ins CR dx fs')) x dx b dxb A ar D w fs' :=
  ⟨S.B.off S.hx S.bx minus_at, upd_same, S.bx, fun e => (S.har e).to (fun _ z => z) fun a o s ea => (upd_ne s).trans ea⟩
theorem RSt.keep (S : RSt CB CR B H Hc x dx b dxb A ar D w fs) : ∀ z u, H z = some u → z ≠ x → Hc z = some u := fun z u e n => S.B.sm _ _ ((minus_ne n).trans e)
end
theorem unlock {Hc H3 : Hp} {k : Addr} {od : Obj} {u : HO} (hk : Hc k = some u) (s : Same (upd Hc k (.frz od u)) H3) : Same Hc (upd H3 k u) := fun y o e => by
  by_cases h : y = k
  · subst h
    rw [hk] at e
    rw [upd_same]
    exact e
  · rw [upd_ne h]
    exact s y o (by rw [upd_ne h]; exact e)
section
variable {P : Program} {w : World} {K : PySem.W.Frag} {mg : Str → Option Value} {base : Heap}
abbrev nmR : List Str := ["self", "width", "rows", "book", "fault", "row", "label", "pair"]
theorem scRec : FnScope nmR ["self", "width", "rows"] (defScope sRInit) := ⟨rfl, rfl, rfl, by decide +kernel, rfl, by decide +kernel, by decide +kernel⟩
theorem ok_rec {f fI fW fT fE CB CR CE : Addr} {fd fdI fdW fdT fdE : FuncData} {dvs : List V} (F : FunD K "__init__" "Record.__init__" (defArgs sRInit) (defBody sRInit) (defScope sRInit) dvs [] f fd) (T : RecC K CR) (TB : BookC K CB) (zt : mg "tuple" = none)
    (M : BookMk P w K mg base CB fI fdI) (dW : Df P w K mg base "_write_rows" 6 ["book", "width", "rows"] (spWR CB) fW fdW) (dT : Df P w K mg base "as_tuples" 1 ["row"] spTuples fT fdT) (X : BadC P w K mg base CE fE fdE) :
    FnOk P w K mg base (L2.CX P w) 7 f fd ["self", "width", "rows"] (spRec CR CE) := by
  refine F.ok scRec (fun vs H Q E h => ?_) (fun cdv A outer s H vs Q E hr h => ?_)
  · obtain ⟨x, dx, wd, v, os, d, ds, rfl, _⟩ := h
    rfl
  · obtain ⟨x, dx, wd, v, os, d, ds, rfl, hx, pl, q1, q2⟩ := h
    have hu := hu_of hr
    have hr1 := hr.mono (show 1 ≤ 6 by decide)
    have hr2 := hr.mono (show 2 ≤ 6 by decide)
    refine ⟨_, pss_cons (ps_set (i := 3) scRec.nd rfl (.inr rfl) (pe_make0 M.mks M.ok hr2 (by rfl) M.gl M.bi .nil pass0))
      (pss_cons (ps_set (i := 4) scRec.nd rfl (.inl rfl) (pe_call dW.ok hr (by rfl) dW.gl dW.kp dW.bi .nil pass0 (pa_cons (pv 3) (pa_cons (pv 1) (pa_cons (pv 2) pa_nil)))))
      (pss_cons (ps_if (pt_cmpR op_notN (pv 4) pe_non (nomark _))
          (pss_one (ps_raise rfl (takes_of rfl rfl rfl rfl) (pmk_oex X.cl X.ini X.ty X.ok hr2 X.bi .nil pass0 (by rfl) X.gl (pa_cons (pe_ix ix_tup (pv 4) pe_int (fun _ _ => rfl)) (pa_cons (pe_ix ix_tup (pv 4) pe_int (fun _ _ => rfl)) pa_nil))))) pss_nil)
      (PSs.nox (pss_cons (ps_fld (pv 0) (pv 1) rfl)
      (pss_cons (ps_fld (pv 0) (pe_callTy call_tuple_of (by rfl) zt (by decide +kernel) (pa_cons (pe_lc (own := [("row", 5)]) (g := gName 5) (tt := tYes) rfl scRec.nd (pi_or (pi_list (pv 2)) (pi_tup (pv 2))) (blkOk_by (N := nmR) (sc := defScope sRInit) (by decide +kernel))
          (fun _ _ _ _ _ => pg_name (i := 5) scRec.nd rfl (Or.inl rfl)) (fun _ _ _ _ _ => pts_nil) (fun _ _ _ _ _ => pe_call dT.ok hr1 (by rfl) dT.gl dT.kp dT.bi .nil pass0 (pa_cons (pv 5) pa_nil))) pa_nil)) rfl)
      (pss_cons (ps_fld (pv 0) (pe_callTy (call_tupleD rfl) (by rfl) zt (by decide +kernel) (pa_cons (pe_fld (pv 3) rfl) pa_nil)) rfl)
      (pss_cons (ps_fld (pv 0) (pe_callTy call_tuple_of (by rfl) zt (by decide +kernel) (pa_cons (pe_lock (pe_lc (own := [("label", 6)]) (g := gName 6) (tt := tB (tDNotIn (tVar 6) (tFld K (tVar 3) "parents"))) rfl scRec.nd (pi_keys (pe_fld (pv 3) rfl)) (blkOk_by (N := nmR) (sc := defScope sRInit) (by decide +kernel))
          (fun _ _ _ _ _ => pg_name (i := 6) scRec.nd rfl (Or.inl rfl)) (fun _ _ _ _ _ => pts_one (pt_cmp (pc_dnotin hu (pv 6) (pe_fld (pv 3) rfl)))) (fun _ _ _ _ _ => pv 6))) pa_nil)) rfl)
      (pss_cons (ps_fld (pv 0) (pe_callTy (call_tupleD rfl) (by rfl) zt (by decide +kernel) (pa_cons (pe_fld (pv 3) rfl) pa_nil)) rfl)
      (pss_cons (ps_fld (pv 0) (pe_callTy (call_tupleDT rfl) (by rfl) zt (by decide +kernel) (pa_cons (pe_fld (pv 3) rfl) pa_nil)) rfl)
      (pss_cons (ps_fld (pv 0) (pe_callTy call_tuple_of (by rfl) zt (by decide +kernel) (pa_cons (pe_lock (pe_lc (own := [("pair", 7)]) (g := gName 7) (tt := tB (tOp rEq (tDGet1 (tFld K (tVar 3) "mate_now") (tOp rSq (tVar 7) (tC (.int 0)))) (tOp rSq (tVar 7) (tC (.int 1))))) rfl scRec.nd (pi_keys (pe_fld (pv 3) rfl)) (blkOk_by (N := nmR) (sc := defScope sRInit) (by decide +kernel))
          (fun _ _ _ _ _ => pg_name (i := 7) scRec.nd rfl (Or.inl rfl)) (fun _ _ _ _ _ => pts_one (pt_cmpR op_eq (pe_dget1 hu (pe_fld (pv 3) rfl) (pe_ix ixS (pv 7) pe_int (fun _ _ => rfl)) ⟨rfl, rfl, rfl, rfl⟩) (pe_ix ixS (pv 7) pe_int (fun _ _ => rfl)) (nomark _))) (fun _ _ _ _ _ => pv 7))) pa_nil)) rfl)
      (pss_cons (ps_fld (pv 0) (pe_callTy call_tuple_of (by rfl) zt (by decide +kernel) (pa_cons (pe_lock (pe_lc (own := [("label", 6)]) (g := gName 6) (tt := tB (tDNotIn (tVar 6) (tFld K (tVar 3) "dead"))) rfl scRec.nd (pi_keys (pe_fld (pv 3) rfl)) (blkOk_by (N := nmR) (sc := defScope sRInit) (by decide +kernel))
          (fun _ _ _ _ _ => pg_name (i := 6) scRec.nd rfl (Or.inl rfl)) (fun _ _ _ _ _ => pts_one (pt_cmp (pc_dnotin hu (pv 6) (pe_fld (pv 3) rfl)))) (fun _ _ _ _ _ => pv 6))) pa_nil)) rfl)
      (pss_one (ps_fld (pv 0) (pv 3) rfl))))))))))))), ?_⟩
    intro b dxb nb ndb nedb
    have xb : b ≠ x := Ne.symm (ne_of_none hx nb)
    have s0 := same_ins (C := CB) nb ndb nedb
    refine ⟨b, dxb, H, rfl, upd_same, nb, s0, fun H1 AA hB => ⟨rfl, ?_⟩⟩
    have hx1 := hB.sm
    refine ⟨_, rfl, _, rfl, _, rfl, b, dxb, H, AA, wd, v, os, d, ds, rfl, hB, pl, fun ef H2 h2 => ⟨_, rfl, rfl, _, rfl, iteF ?_⟩, fun i z ef H2 t s2 ht => ⟨_, rfl, rfl, _, rfl, iteT ?_⟩⟩
    rotate_left
    · refine ⟨_, rfl, _, _, _, _, rfl, rfl, SqT.of ht, rfl, _, rfl, _, _, _, _, rfl, rfl, SqT.of ht, rfl, (by show 2 ≤ 1000; decide), fun av nav => ⟨av, (i : Int), z, rfl, upd_same, fun H3 dd nd3 ha3 hd3 kp => ⟨rfl, dd, _, ha3, hd3, ?_, ?_⟩⟩⟩
      · exact none_of (same_upd nav) nd3
      · refine q2 i z ef _ dd (none_of s2 (none_of (same_upd nav) nd3)) upd_same fun y' o' e' => ?_
        have e2 := s2 _ _ e'
        rw [upd_ne (ne_of_none e2 (none_of (same_upd nav) nd3)), del_ne (ne_of_none e2 nav)]
        exact kp _ _ (ne_of_none e2 nav) (same_upd nav _ _ e2)
    have S : RSt CB CR (bookO os) H H2 x dx b dxb AA 0 (rowsD os) false [] := ⟨h2.lower, h2.sm _ _ hx, xb, fun e => by cases e⟩
    refine ⟨_, rfl, _, rfl, x, CR, dx, _, rfl, S.hx, T.cl, T.nWidth, by decide, ?_⟩
    replace S := S.put (fs' := putF "width" (.int wd) [])
    generalize upd H2 x (.ins CR dx (putF "width" (.int wd) [])) = Hc at S ⊢
    obtain ⟨a, xs, rfl, _, hS0, hxs0⟩ := id (pl.hd.seq pl.es)
    have nax : a ≠ x := hS0.elim (fun e => ne_of e hx (by intro z; cases z)) fun e => ne_of e hx (by intro z; cases z)
    have hSc : Sq Hc a xs := hS0.elim (fun e => .inl (S.keep _ _ e nax)) fun e => .inr (S.keep _ _ e nax)
    have hxs : DtAll (fun a => a ≠ x) Hc xs ds := (hxs0.off hx).to (fun _ z => z) fun a o n e => S.keep _ _ e n
    have el := hxs.len
    have eo := pl.rows.len
    have few := pl.few
    refine seq_any (fun Q q => ⟨_, rfl, q⟩) hSc fun it G wk keep D nD => lc_it wk (fun i H' => ∃ acc : List V, H' D = some (.lst acc) ∧ acc.length = i ∧ Same Hc H' ∧ DtAll (fun a => a ≠ x) H' acc ((os.take i).map datO)) ⟨[], upd_same, rfl, same_upd nD, .nil⟩ (fun i H' _ ⟨_, _, _, s, _⟩ => keep _ s) ?_ ?_
    · rintro i y H4 H5 hi ⟨acc, eD, hacc, s4, hda⟩ ⟨rfl, ev⟩
      obtain ⟨d', ed', hd'⟩ := hxs.get ev
      obtain ⟨o, eo', ho, okd⟩ := pl.rows.get ed'
      obtain ⟨r, rfl⟩ := fault_none ef o (List.mem_of_getElem? eo')
      cases ho with
      | @row zs _ e3 hw =>
      refine ⟨rfl, ?_⟩
      refine ⟨_, rfl, y, d', zs, r, rfl, (hd'.same s4).any, e3, hw, fun t6 H6 s6 ht => ?_⟩
      refine ⟨acc, s6 _ _ eD, by rw [hacc]; exact lt_line (Nat.le_refl _) (by omega), acc ++ [.ref t6], upd_same, by rw [List.length_append, hacc]; rfl, fun y' o' e' => ?_, ?_⟩
      · rw [upd_ne (ne_of_none e' nD)]
        exact s6 _ _ (s4 _ _ e')
      · rw [take_snoc eo', List.map_append]
        have nDx : D ≠ x := Ne.symm (ne_of_none S.hx nD)
        have new : DtAll (fun a => a ≠ x) H6 (acc ++ [V.ref t6]) ((os.take i).map datO ++ [r.data]) := (hda.same s6).app (.cons (ht.off (s6 _ _ (s4 _ _ S.hx))) .nil)
        exact new.tups (noLAll_app (noL_dat _) (by show (noL r.data && true) = true; rw [r.noL]; rfl)) fun a ys _ ea => (upd_ne (ne_of ea (s6 _ _ eD) (by intro z; cases z))).trans ea
    rintro H4 ⟨ys, eD, hacc, s4, hda⟩
    rw [el, eo, List.take_of_length_le (Nat.le_refl _)] at hda
    refine ⟨D, ys, rfl, .inl ⟨SqL.of eD, fun ar hc => ?_⟩⟩
    have S1 := (S.same s4).same (same_upd (o := .tup ys) hc)
    have hda2 : DtAll (fun a => a ≠ x) (upd H4 ar (.tup ys)) ys (os.map datO) := hda.same (same_upd hc)
    have nar : ar ≠ x := Ne.symm (ne_of_none (s4 _ _ S.hx) hc)
    have er : upd H4 ar (.tup ys) ar = some (.tup ys) := upd_same
    generalize upd H4 ar (.tup ys) = H5 at S1 hda2 er ⊢
    replace S : RSt CB CR (bookO os) H H5 x dx b dxb AA ar (rowsD os) true _ := ⟨S1.B, S1.hx, S1.bx, fun _ => .tup nar er hda2⟩
    clear S1 hc er nar hda2 eD s4 hda hxs hSc keep wk
    refine ⟨_, rfl, x, CR, dx, _, rfl, S.hx, T.cl, T.nRows, (show 1 < 1000 by decide), ?_⟩
    replace S := S.put (fs' := (putF "rows" (.ref ar) (putF "width" (.int wd) [])))
    generalize upd H5 x (.ins CR dx (putF "rows" (.ref ar) (putF "width" (.int wd) []))) = H10 at S ⊢
    refine ⟨_, rfl, b, CB, dxb, _, _, rfl, S.B.hb, TB.cl, TB.nKinds, rfl, AA.k, _, rfl, .inl S.B.hk, fun ap hc => ?_⟩
    replace S := S.same (same_upd (o := .tup ((encK (bookO os).kinds).map fun kv => kV kv.1)) hc)
    generalize upd H10 ap (.tup ((encK (bookO os).kinds).map fun kv => kV kv.1)) = H11 at S ⊢
    refine ⟨_, rfl, x, CR, dx, _, rfl, S.hx, T.cl, T.nPersons, (show 2 < 1000 by decide), ?_⟩
    replace S := S.put (fs' := (putF "persons" (.ref ap) (putF "rows" (.ref ar) (putF "width" (.int wd) []))))
    generalize upd H11 x (.ins CR dx (putF "persons" (.ref ap) (putF "rows" (.ref ar) (putF "width" (.int wd) [])))) = H12 at S ⊢
    refine ⟨AA.k, _, S.B.hk, trivial, fun od => ?_⟩
    have hbl : ∀ (H' : Hp), Same (upd H12 AA.k (.frz od (.dK (encK (bookO os).kinds)))) H' → H' b = some (.ins CB dxb AA.fs) := fun H' s' => s' _ _ ((upd_ne (ne_of S.B.hb S.B.hk (by intro z; cases z))).trans S.B.hb)
    obtain ⟨ps, p1, p2⟩ := S.B.hp
    have ho : ∀ (H' : Hp), Same (upd H12 AA.k (.frz od (.dK (encK (bookO os).kinds)))) H' → H' AA.p = some (.dK ps) := fun H' s' => s' _ _ ((upd_ne (Ne.symm S.B.nds.1.1)).trans p1)
    refine ⟨_, rfl, b, CB, dxb, _, _, rfl, hbl _ (Same.refl _), TB.cl, TB.nKinds, rfl, AA.k, od, rfl, .inl ⟨_, upd_same, fun D nD => lc_it walk_keys (fun i H' => Same (upd H12 AA.k (.frz od (.dK (encK (bookO os).kinds)))) H' ∧ ∃ acc : List V, acc.length ≤ i ∧ H' D = some (.lst acc)) ⟨same_upd nD, [], Nat.le_refl _, upd_same⟩ (fun i H' _ h => h.1 _ _ upd_same) ?_ ?_⟩⟩
    · rintro i v H6 H7 hi ⟨s6, acc, ha, eD⟩ ⟨rfl, kk, vv, ek, rfl⟩
      have hi' : i < 100000 := by have z := S.B.lk; rw [show (encK (bookO os).kinds).length = (bookO os).kinds.length from List.length_map ..] at hi; omega
      refine ⟨rfl, _, rfl, _, rfl, b, CB, dxb, _, _, rfl, hbl _ s6, TB.cl, TB.nParents, rfl, AA.p, _, rfl, DGet.k (k := kk) (ho _ s6), _, rfl, ite2 (fun _ => ⟨_, rfl, acc, eD, lt_line ha (by omega), fun y' o' e' => ?_, _, ?_, upd_same⟩) (fun _ => ⟨s6, acc, Nat.le_succ_of_le ha, eD⟩)⟩
      · rw [upd_ne (ne_of_none e' nD)]
        exact s6 _ _ e'
      · rw [List.length_append]
        exact Nat.succ_le_succ ha
    rintro H6 ⟨s6, acc, ha, eD⟩
    have sl := unlock S.B.hk s6
    have nDk : D ≠ AA.k := Ne.symm (ne_of_none upd_same nD)
    refine ⟨s6 _ _ upd_same, D, acc, rfl, .inl ⟨SqL.of ((upd_ne nDk).trans eD), fun af hc => ?_⟩⟩
    replace S := (S.same sl).same (same_upd (o := .tup acc) hc)
    clear sl nDk eD ha s6 nD hbl ho
    generalize upd (upd H6 AA.k (.dK (encK (bookO os).kinds))) af (.tup acc) = H13 at S ⊢
    clear hc
    refine ⟨_, rfl, x, CR, dx, _, rfl, S.hx, T.cl, T.nFounders, (show 3 < 1000 by decide), ?_⟩
    replace S := S.put (fs' := (putF "founders" (.ref af) (putF "persons" (.ref ap) (putF "rows" (.ref ar) (putF "width" (.int wd) [])))))
    generalize upd H13 x (.ins CR dx (putF "founders" (.ref af) (putF "persons" (.ref ap) (putF "rows" (.ref ar) (putF "width" (.int wd) []))))) = H14 at S ⊢
    obtain ⟨ps2, p21, p22⟩ := S.B.hp
    refine ⟨_, rfl, b, CB, dxb, _, _, rfl, S.B.hb, TB.cl, TB.nParents, rfl, AA.p, _, rfl, .inl p21, fun ab hc => ?_⟩
    replace S := S.same (same_upd (o := .tup (ps2.map fun kv => kV kv.1)) hc)
    generalize upd H14 ab (.tup (ps2.map fun kv => kV kv.1)) = H15 at S ⊢
    refine ⟨_, rfl, x, CR, dx, _, rfl, S.hx, T.cl, T.nBorn, (show 4 < 1000 by decide), ?_⟩
    replace S := S.put (fs' := (putF "born" (.ref ab) (putF "founders" (.ref af) (putF "persons" (.ref ap) (putF "rows" (.ref ar) (putF "width" (.int wd) []))))))
    generalize upd H15 x (.ins CR dx (putF "born" (.ref ab) (putF "founders" (.ref af) (putF "persons" (.ref ap) (putF "rows" (.ref ar) (putF "width" (.int wd) [])))))) = H16 at S ⊢
    obtain ⟨cs, c1, c2, c3, c4⟩ := S.B.hc
    refine ⟨_, rfl, b, CB, dxb, _, _, rfl, S.B.hb, TB.cl, TB.nKids, rfl, AA.c, cs, rfl, .inl c1, fun aw bs hc _ => ?_⟩
    replace S := S.same (same_upd (o := .tup (bs.map V.ref)) hc)
    generalize upd H16 aw (.tup (bs.map V.ref)) = H17 at S ⊢
    clear c1 c3
    refine ⟨_, rfl, x, CR, dx, _, rfl, S.hx, T.cl, T.nWeddings, (show 5 < 1000 by decide), ?_⟩
    replace S := S.put (fs' := (putF "weddings" (.ref aw) (putF "born" (.ref ab) (putF "founders" (.ref af) (putF "persons" (.ref ap) (putF "rows" (.ref ar) (putF "width" (.int wd) [])))))))
    generalize upd H17 x (.ins CR dx (putF "weddings" (.ref aw) (putF "born" (.ref ab) (putF "founders" (.ref af) (putF "persons" (.ref ap) (putF "rows" (.ref ar) (putF "width" (.int wd) []))))))) = H18 at S ⊢
    obtain ⟨cs, c1, c2, c3, c4⟩ := S.B.hc
    refine ⟨AA.c, _, c1, trivial, fun od => ?_⟩
    have hbl : ∀ (H' : Hp), Same (upd H18 AA.c (.frz od (.dT cs))) H' → H' b = some (.ins CB dxb AA.fs) := fun H' s' => s' _ _ ((upd_ne S.B.cne.2.2.2.2.2.2.1).trans S.B.hb)
    have ho : ∀ (H' : Hp), Same (upd H18 AA.c (.frz od (.dT cs))) H' → H' AA.m = some (.dK (encK (bookO os).now)) := fun H' s' => s' _ _ ((upd_ne S.B.cne.2.2.2.2.1).trans S.B.hm)
    refine ⟨_, rfl, b, CB, dxb, _, _, rfl, hbl _ (Same.refl _), TB.cl, TB.nKids, rfl, AA.c, od, rfl, .inr ⟨cs, upd_same, fun D nD => lc_it walk_keysT (fun i H' => Same (upd H18 AA.c (.frz od (.dT cs))) H' ∧ ∃ acc : List V, acc.length ≤ i ∧ H' D = some (.lst acc)) ⟨same_upd nD, [], Nat.le_refl _, upd_same⟩ (fun i H' _ h => h.1 _ _ upd_same) ?_ ?_⟩⟩
    · rintro i v H6 H7 hi ⟨s6, acc, ha, eD⟩ ⟨rfl, kk, vv, q, ek, rfl, hq⟩
      have hi' : i < 100000 := by omega
      have mem : kk ∈ (bookO os).pairs.map keyT := by
        rw [← c2]
        exact List.mem_map.mpr ⟨(kk, vv), List.mem_of_getElem? ek, rfl⟩
      obtain ⟨⟨f1, m1⟩, hp, rfl⟩ := List.mem_map.mp mem
      refine ⟨rfl, ?_⟩
      refine ⟨_, rfl, b, CB, dxb, _, _, rfl, hbl _ s6, TB.cl, TB.nNow, rfl, AA.m, rfl, .inl ⟨_, .inl (ho _ s6)⟩, _, rfl, _, _, _, .str f1, rfl, rfl, .inr hq, rfl, _, DGet.k (k := Sum.inr f1) (ho _ s6), ?_⟩
      refine ⟨_, rfl, _, _, _, .str m1, rfl, rfl, .inr hq, rfl, ?_⟩
      rw [valV_enc]
      cases e1 : look (bookO os).now f1 with
      | none =>
        refine ⟨rfl, _, rfl, iteF ⟨s6, acc, Nat.le_succ_of_le ha, eD⟩⟩
      | some z =>
        refine ⟨rfl, _, rfl, ite2 (fun _ => ⟨_, rfl, acc, eD, lt_line ha (by omega), fun y' o' e' => ?_, _, ?_, upd_same⟩) (fun _ => ⟨s6, acc, Nat.le_succ_of_le ha, eD⟩)⟩
        · rw [upd_ne (ne_of_none e' nD)]
          exact s6 _ _ e'
        · rw [List.length_append]
          exact Nat.succ_le_succ ha
    rintro H6 ⟨s6, acc, ha, eD⟩
    have sl := unlock c1 s6
    have nDk : D ≠ AA.c := Ne.symm (ne_of_none upd_same nD)
    refine ⟨s6 _ _ upd_same, D, acc, rfl, .inl ⟨SqL.of ((upd_ne nDk).trans eD), fun ac hc => ?_⟩⟩
    replace S := (S.same sl).same (same_upd (o := .tup acc) hc)
    clear sl nDk eD ha s6 nD hbl ho c1 c3
    generalize upd (upd H6 AA.c (.dT cs)) ac (.tup acc) = H19 at S ⊢
    clear hc
    refine ⟨_, rfl, x, CR, dx, _, rfl, S.hx, T.cl, T.nCouples, (show 6 < 1000 by decide), ?_⟩
    replace S := S.put (fs' := (putF "couples" (.ref ac) (putF "weddings" (.ref aw) (putF "born" (.ref ab) (putF "founders" (.ref af) (putF "persons" (.ref ap) (putF "rows" (.ref ar) (putF "width" (.int wd) []))))))))
    generalize upd H19 x (.ins CR dx (putF "couples" (.ref ac) (putF "weddings" (.ref aw) (putF "born" (.ref ab) (putF "founders" (.ref af) (putF "persons" (.ref ap) (putF "rows" (.ref ar) (putF "width" (.int wd) [])))))))) = H20 at S ⊢
    refine ⟨AA.k, _, S.B.hk, trivial, fun od => ?_⟩
    have hbl : ∀ (H' : Hp), Same (upd H20 AA.k (.frz od (.dK (encK (bookO os).kinds)))) H' → H' b = some (.ins CB dxb AA.fs) := fun H' s' => s' _ _ ((upd_ne (ne_of S.B.hb S.B.hk (by intro z; cases z))).trans S.B.hb)
    obtain ⟨des, d1, d2, d3⟩ := S.B.hd
    have ho : ∀ (H' : Hp), Same (upd H20 AA.k (.frz od (.dK (encK (bookO os).kinds)))) H' → H' AA.d = some (.dK des) := fun H' s' => s' _ _ ((upd_ne (Ne.symm S.B.nds.1.2.2.1)).trans d1)
    refine ⟨_, rfl, b, CB, dxb, _, _, rfl, hbl _ (Same.refl _), TB.cl, TB.nKinds, rfl, AA.k, od, rfl, .inl ⟨_, upd_same, fun D nD => lc_it walk_keys (fun i H' => Same (upd H20 AA.k (.frz od (.dK (encK (bookO os).kinds)))) H' ∧ ∃ acc : List V, acc.length ≤ i ∧ H' D = some (.lst acc)) ⟨same_upd nD, [], Nat.le_refl _, upd_same⟩ (fun i H' _ h => h.1 _ _ upd_same) ?_ ?_⟩⟩
    · rintro i v H6 H7 hi ⟨s6, acc, ha, eD⟩ ⟨rfl, kk, vv, ek, rfl⟩
      have hi' : i < 100000 := by have z := S.B.lk; rw [show (encK (bookO os).kinds).length = (bookO os).kinds.length from List.length_map ..] at hi; omega
      refine ⟨rfl, _, rfl, _, rfl, b, CB, dxb, _, _, rfl, hbl _ s6, TB.cl, TB.nDead, rfl, AA.d, _, rfl, DGet.k (k := kk) (ho _ s6), _, rfl, ite2 (fun _ => ⟨_, rfl, acc, eD, lt_line ha (by omega), fun y' o' e' => ?_, _, ?_, upd_same⟩) (fun _ => ⟨s6, acc, Nat.le_succ_of_le ha, eD⟩)⟩
      · rw [upd_ne (ne_of_none e' nD)]
        exact s6 _ _ e'
      · rw [List.length_append]
        exact Nat.succ_le_succ ha
    rintro H6 ⟨s6, acc, ha, eD⟩
    have sl := unlock S.B.hk s6
    have nDk : D ≠ AA.k := Ne.symm (ne_of_none upd_same nD)
    refine ⟨s6 _ _ upd_same, D, acc, rfl, .inl ⟨SqL.of ((upd_ne nDk).trans eD), fun al hc => ?_⟩⟩
    replace S := (S.same sl).same (same_upd (o := .tup acc) hc)
    clear sl nDk eD ha s6 nD hbl ho
    generalize upd (upd H6 AA.k (.dK (encK (bookO os).kinds))) al (.tup acc) = H21 at S ⊢
    clear hc
    refine ⟨_, rfl, x, CR, dx, _, rfl, S.hx, T.cl, T.nLiving, (show 7 < 1000 by decide), ?_⟩
    replace S := S.put (fs' := (putF "living" (.ref al) (putF "couples" (.ref ac) (putF "weddings" (.ref aw) (putF "born" (.ref ab) (putF "founders" (.ref af) (putF "persons" (.ref ap) (putF "rows" (.ref ar) (putF "width" (.int wd) [])))))))))
    generalize upd H21 x (.ins CR dx (putF "living" (.ref al) (putF "couples" (.ref ac) (putF "weddings" (.ref aw) (putF "born" (.ref ab) (putF "founders" (.ref af) (putF "persons" (.ref ap) (putF "rows" (.ref ar) (putF "width" (.int wd) []))))))))) = H22 at S ⊢
    refine ⟨_, rfl, _, rfl, x, CR, dx, _, rfl, S.hx, T.cl, T.nBook, (show 8 < 1000 by decide), ?_⟩
    replace S := S.put (fs' := recF wd ar ap af ab aw ac al b)
    exact q1 ef _ ⟨dx, ar, ap, af, ab, aw, ac, al, b, S.hx, (S.har rfl).any⟩ S.keep
end
end K01

/-! the law's own judge is the book's -/
namespace K01
open PySem PySem.Spec PyProof.Rows L2
structure St where
  kinds : List (Str × Str)
  dead : List Str
  mates : List (Str × Str)
  pairs : List (Str × Str)
abbrev St.new : St := ⟨[], [], [], []⟩
def hasMate (Z : St) (x : Str) : Bool := match look Z.mates x with
  | none => false
  | some y => !decide (y ∈ Z.dead)
def jLc (Z : St) (wd : Int) (l : Str) (hs : List Int) : Option Str := if (look Z.kinds l).isSome = true then some ("label" : Str) else if (hs.length : Int) = wd then none else some ("width" : Str)
def jLd (Z : St) (l : Str) : Option Str := if (look Z.kinds l).isNone = true then some ("person" : Str) else if l ∈ Z.dead then some ("dead" : Str) else none
def jLb (Z : St) (f m l : Str) : Option Str := if ((look Z.kinds f).isNone || (look Z.kinds m).isNone) = true then some ("person" : Str) else if ¬ (f, m) ∈ Z.pairs ∨ f ∈ Z.dead ∨ m ∈ Z.dead then some ("couple" : Str) else if (look Z.kinds l).isSome = true then some ("label" : Str) else none
def jLw (Z : St) (f m : Str) : Option Str := if ((look Z.kinds f).isNone || (look Z.kinds m).isNone) = true then some ("person" : Str) else if look Z.kinds f ≠ some sonK ∨ look Z.kinds m ≠ some dauK then some ("kind" : Str) else if f ∈ Z.dead ∨ m ∈ Z.dead then some ("dead" : Str) else if (hasMate Z f || hasMate Z m) = true then some ("wed" : Str) else none
def jL (Z : St) (wd : Int) : Rw → Option Str
  | .comes l _ _ hs => jLc Z wd l hs
  | .weds f m => jLw Z f m
  | .born f m _ l _ => jLb Z f m l
  | .dies l => jLd Z l
/-- a dict's store, as lists of pairs -/
def putS (l : List (Str × Str)) (x k : Str) : List (Str × Str) := if (look l x).isSome = true then l.map (fun p => if p.1 = x then (p.1, k) else p) else l ++ [(x, k)]
def eL (Z : St) : Rw → St
  | .comes l k _ _ => { Z with kinds := putS Z.kinds l k }
  | .weds f m => { Z with mates := putS (putS Z.mates f m) m f, pairs := Z.pairs ++ [(f, m)] }
  | .born _ _ k l _ => { Z with kinds := putS Z.kinds l k }
  | .dies l => { Z with dead := Z.dead ++ [l] }
theorem look_put {l : List (Str × Str)} {x k y : Str} : look (putS l x k) y = if y = x then some k else look l y := by
  unfold putS
  split
  · rename_i h
    induction l with
    | nil => cases h
    | cons p l ih =>
      rw [List.map_cons]
      unfold look at ih h ⊢
      rw [List.find?_cons, List.find?_cons]
      by_cases h1 : p.1 = x
      · rw [if_pos h1]
        by_cases h2 : y = x
        · rw [if_pos h2, decide_eq_true (show p.1 = y by rw [h1, h2])]
          rfl
        · rw [if_neg h2, decide_eq_false (show ¬ p.1 = y from fun e => h2 (e.symm.trans h1))]
          by_cases h3 : (look l x).isSome = true
          · have z := ih h3
            rw [if_neg h2] at z
            exact z
          · have e : l.map (fun p => if p.1 = x then (p.1, k) else p) = l := by
              refine (List.map_congr_left (g := id) fun q hq => ?_).trans (List.map_id _)
              refine if_neg fun e => h3 ?_
              unfold look
              rw [Option.isSome_map]
              exact List.find?_isSome.mpr ⟨q, hq, decide_eq_true e⟩
            show ((l.map _).find? _).map _ = _
            rw [e]
      · rw [if_neg h1]
        rw [List.find?_cons, decide_eq_false h1] at h
        by_cases h4 : p.1 = y
        · rw [decide_eq_true h4, if_neg (fun e => h1 (h4.trans e))]
        · rw [decide_eq_false h4]
          exact ih h
  · rename_i h
    rw [look_app]
    by_cases h1 : y = x
    · rw [if_pos h1, h1]
      cases e : look l x with
      | some z => rw [e] at h; exact absurd rfl h
      | none => exact if_pos rfl
    · rw [if_neg h1]
      cases e : look l y with
      | some z => rfl
      | none => exact if_neg (Ne.symm h1)
theorem put_enc2 (l : List (Str × Str)) (x k : Str) : putK (encK l) (Sum.inr x) (.str k) = encK (putS l x k) := by
  unfold putS
  split
  · rename_i h
    have hany : (encK l).any (fun kv => decide (kv.1 = Sum.inr x)) = true := by
      have e : (valV (encK l) (Sum.inr x)).isSome = true := by rw [valV_enc, Option.isSome_map]; exact h
      obtain ⟨kv, hkv, ek⟩ := List.mem_map.mp (valV_out e)
      exact List.any_eq_true.mpr ⟨kv, hkv, decide_eq_true ek⟩
    unfold putK
    rw [if_pos hany]
    unfold encK
    rw [List.map_map, List.map_map]
    refine List.map_congr_left fun p _ => ?_
    show (if (Sum.inr p.1 : Key) = Sum.inr x then ((Sum.inr p.1 : Key), V.str k) else ((Sum.inr p.1 : Key), V.str p.2)) = _
    by_cases h1 : p.1 = x
    · rw [if_pos (by rw [h1])]
      show _ = ((Sum.inr (if p.1 = x then (p.1, k) else p).1 : Key), V.str (if p.1 = x then (p.1, k) else p).2)
      rw [if_pos h1]
    · rw [if_neg (fun e => h1 (Sum.inr.inj e))]
      show _ = ((Sum.inr (if p.1 = x then (p.1, k) else p).1 : Key), V.str (if p.1 = x then (p.1, k) else p).2)
      rw [if_neg h1]
  · rename_i h
    exact put_enc k (by
      cases e : look l x with
      | none => rfl
      | some z => rw [e] at h; exact absurd rfl h)
/-- the book and the law's state tell the same -/
structure Rel (B : Bk) (Z : St) : Prop where
  kinds : B.kinds = Z.kinds
  dead : B.dead = Z.dead
  pairs : B.pairs = Z.pairs
  now : ∀ x y, look B.now x = some y ↔ (look Z.mates x = some y ∧ ¬ x ∈ Z.dead ∧ ¬ y ∈ Z.dead)
  wed : ∀ f m, (f, m) ∈ Z.pairs → ¬ f ∈ Z.dead → ¬ m ∈ Z.dead → look Z.mates f = some m
theorem Rel.new : Rel Bk.new St.new := ⟨rfl, rfl, rfl, fun x y => ⟨fun h => (by cases h), fun h => (by cases h.1)⟩, fun f m h => by cases h⟩
theorem Rel.mate {B : Bk} {Z : St} (R : Rel B Z) {x : Str} (hx : ¬ x ∈ Z.dead) : (look B.now x).isSome = hasMate Z x := by
  unfold hasMate
  cases e : look Z.mates x with
  | none =>
    cases e2 : look B.now x with
    | none => rfl
    | some y =>
      have z := ((R.now x y).mp e2).1
      rw [e] at z
      cases z
  | some y =>
    by_cases h : y ∈ Z.dead
    · show (look B.now x).isSome = !decide (y ∈ Z.dead)
      rw [decide_eq_true h]
      cases e2 : look B.now x with
      | none => rfl
      | some y' =>
        obtain ⟨z1, _, z3⟩ := (R.now x y').mp e2
        rw [e] at z1
        cases z1
        exact absurd h z3
    · show (look B.now x).isSome = !decide (y ∈ Z.dead)
      rw [decide_eq_false h, (R.now x y).mpr ⟨e, hx, h⟩]
      rfl
theorem Rel.couple {B : Bk} {Z : St} (R : Rel B Z) (f m : Str) : coupleB B f m = true ↔ ¬ (¬ (f, m) ∈ Z.pairs ∨ f ∈ Z.dead ∨ m ∈ Z.dead) := by
  unfold coupleB
  rw [R.pairs]
  refine ⟨fun h => ?_, fun h => ?_⟩
  · obtain ⟨a, b⟩ := Bool.and_eq_true_iff.mp h
    obtain ⟨_, h2, h3⟩ := (R.now f m).mp (of_decide_eq_true b)
    exact fun z => z.elim (fun y => y (of_decide_eq_true a)) fun y => y.elim h2 h3
  · have h1 : (f, m) ∈ Z.pairs := Decidable.byContradiction fun z => h (.inl z)
    have h2 : ¬ f ∈ Z.dead := fun z => h (.inr (.inl z))
    have h3 : ¬ m ∈ Z.dead := fun z => h (.inr (.inr z))
    exact Bool.and_eq_true_iff.mpr ⟨decide_eq_true h1, decide_eq_true ((R.now f m).mpr ⟨R.wed f m h1 h2 h3, h2, h3⟩)⟩
theorem Rel.judge {B : Bk} {Z : St} (R : Rel B Z) (wd : Int) (r : Rw) : jP B wd r = jL Z wd r := by
  have hk := R.kinds
  have hd := R.dead
  cases r with
  | comes l k n hs =>
    show jPc B wd l hs = jLc Z wd l hs
    unfold jPc jLc lacks
    rw [hk]
    cases look Z.kinds l <;> rfl
  | dies l =>
    show jPd B l = jLd Z l
    unfold jPd jLd lacks
    rw [hk, hd]
  | born f m k l n =>
    show jPb B f m l = jLb Z f m l
    unfold jPb jLb lacks
    rw [hk]
    by_cases h1 : ((look Z.kinds f).isNone || (look Z.kinds m).isNone) = true
    · rw [if_pos h1, if_pos h1]
    · rw [if_neg h1, if_neg h1]
      by_cases h2 : coupleB B f m = true
      · rw [if_pos h2, if_neg ((R.couple f m).mp h2)]
        cases look Z.kinds l <;> rfl
      · rw [if_neg h2, if_pos (Decidable.byContradiction fun z => h2 ((R.couple f m).mpr z))]
  | weds f m =>
    show jPw B f m = jLw Z f m
    unfold jPw jLw lacks
    rw [hk, hd]
    by_cases h1 : ((look Z.kinds f).isNone || (look Z.kinds m).isNone) = true
    · rw [if_pos h1, if_pos h1]
    rw [if_neg h1, if_neg h1]
    by_cases h2 : look Z.kinds f ≠ some sonK ∨ look Z.kinds m ≠ some dauK
    · rw [if_pos h2, if_pos h2]
    rw [if_neg h2, if_neg h2]
    by_cases h3 : f ∈ Z.dead ∨ m ∈ Z.dead
    · rw [if_pos h3, if_pos h3]
    rw [if_neg h3, if_neg h3, R.mate (fun z => h3 (.inl z)), R.mate (fun z => h3 (.inr z))]
theorem put_new {l : List (Str × Str)} {x k : Str} (h : look l x = none) : putS l x k = l ++ [(x, k)] := by
  unfold putS
  rw [h]
  rfl
theorem Rel.step {B : Bk} {Z : St} {wd : Int} {r : Rw} (R : Rel B Z) (o : BkOk B) (h : jP B wd r = none) : Rel (wP B r) (eL Z r) := by
  cases r with
  | comes l k n hs =>
    have e := (jP_comes h).1
    refine ⟨?_, R.dead, R.pairs, R.now, R.wed⟩
    show B.kinds ++ [(l, k)] = putS Z.kinds l k
    rw [← R.kinds, put_new e]
  | born f m k l n =>
    have e := (jP_born h).2.2
    refine ⟨?_, R.dead, R.pairs, R.now, R.wed⟩
    show B.kinds ++ [(l, k)] = putS Z.kinds l k
    rw [← R.kinds, put_new e]
  | weds f m =>
    obtain ⟨_, _, _, _, df, dm, nf, nm, fm⟩ := jP_weds h
    have df : ¬ f ∈ Z.dead := R.dead ▸ df
    have dm : ¬ m ∈ Z.dead := R.dead ▸ dm
    have new : ¬ (f, m) ∈ Z.pairs := fun z => by
      have y := (R.now f m).mpr ⟨R.wed f m z df dm, df, dm⟩
      rw [nf] at y
      cases y
    have keyN : ∀ x, look (B.now ++ [(f, m)] ++ [(m, f)]) x = if x = f then some m else if x = m then some f else look B.now x := fun x => by
      rw [look_app, look_app]
      by_cases h1 : x = f
      · rw [h1, nf, if_pos rfl, if_pos rfl]
      · rw [if_neg h1]
        by_cases h2 : x = m
        · rw [h2, nm, if_neg (fun e => fm e), if_pos rfl]
        · rw [if_neg h2]
          cases e : look B.now x with
          | some z => rfl
          | none => rw [if_neg (Ne.symm h1), if_neg (Ne.symm h2)]
    have keyM : ∀ x, look (putS (putS Z.mates f m) m f) x = if x = f then some m else if x = m then some f else look Z.mates x := fun x => by
      rw [look_put, look_put]
      by_cases h1 : x = f
      · rw [if_pos h1, if_pos h1, if_neg (fun e => fm (h1.symm.trans e))]
      · rw [if_neg h1, if_neg h1]
    refine ⟨R.kinds, R.dead, ?_, fun x y => ?_, fun f' m' hp d1 d2 => ?_⟩
    · show (if (f, m) ∈ B.pairs then B.pairs else B.pairs ++ [(f, m)]) = Z.pairs ++ [(f, m)]
      rw [R.pairs, if_neg new]
    · show look (B.now ++ [(f, m)] ++ [(m, f)]) x = some y ↔ (look (putS (putS Z.mates f m) m f) x = some y ∧ ¬ x ∈ Z.dead ∧ ¬ y ∈ Z.dead)
      rw [keyN, keyM]
      by_cases h1 : x = f
      · rw [if_pos h1, if_pos h1]
        exact ⟨(fun z => by cases z; exact ⟨rfl, h1 ▸ df, dm⟩), fun z => z.1⟩
      · rw [if_neg h1, if_neg h1]
        by_cases h2 : x = m
        · rw [if_pos h2, if_pos h2]
          exact ⟨(fun z => by cases z; exact ⟨rfl, h2 ▸ dm, df⟩), fun z => z.1⟩
        · rw [if_neg h2, if_neg h2]
          exact R.now x y
    · show look (putS (putS Z.mates f m) m f) f' = some m'
      rw [keyM]
      have d1 : ¬ f' ∈ Z.dead := d1
      have d2 : ¬ m' ∈ Z.dead := d2
      rcases List.mem_append.mp (show (f', m') ∈ Z.pairs ++ [(f, m)] from hp) with hp | hp
      · have e := R.wed f' m' hp d1 d2
        have y := (R.now f' m').mpr ⟨e, d1, d2⟩
        rw [if_neg (fun q => by rw [q, nf] at y; cases y), if_neg (fun q => by rw [q, nm] at y; cases y)]
        exact e
      · rw [List.mem_singleton] at hp
        cases hp
        rw [if_pos rfl]
  | dies l =>
    refine ⟨R.kinds, ?_, R.pairs, fun x y => ?_, fun f m hp d1 d2 => R.wed f m hp (fun z => d1 (List.mem_append.mpr (.inl z))) fun z => d2 (List.mem_append.mpr (.inl z))⟩
    · show B.dead ++ [l] = Z.dead ++ [l]
      rw [R.dead]
    · have sp : ∀ z, ¬ z ∈ Z.dead ++ [l] ↔ (¬ z ∈ Z.dead ∧ z ≠ l) := fun z => ⟨fun q => ⟨fun w => q (List.mem_append.mpr (.inl w)), fun w => q (List.mem_append.mpr (.inr (List.mem_singleton.mpr w)))⟩, fun q w => (List.mem_append.mp w).elim q.1 fun w => q.2 (List.mem_singleton.mp w)⟩
      show look (match look B.now l with | none => B.now | some y => without (without B.now y) l) x = some y ↔ (look Z.mates x = some y ∧ ¬ x ∈ Z.dead ++ [l] ∧ ¬ y ∈ Z.dead ++ [l])
      rw [sp, sp]
      cases e : look B.now l with
      | none =>
        refine (R.now x y).trans ⟨fun q => ⟨q.1, ⟨q.2.1, fun w => ?_⟩, q.2.2, fun w => ?_⟩, fun q => ⟨q.1, q.2.1.1, q.2.2.1⟩⟩
        · have z := (R.now x y).mpr q
          rw [w, e] at z
          cases z
        · have z := o.sym x y ((R.now x y).mpr q)
          rw [w, e] at z
          cases z
      | some v =>
        show look (without (without B.now v) l) x = some y ↔ _
        rw [look_without, look_without]
        by_cases h1 : x = l
        · rw [if_pos h1]
          exact ⟨(fun z => by cases z), fun z => absurd h1 z.2.1.2⟩
        rw [if_neg h1]
        by_cases h2 : x = v
        · rw [if_pos h2]
          refine ⟨(fun z => by cases z), fun z => ?_⟩
          have back := o.sym l v e
          have w := (R.now x y).mpr ⟨z.1, z.2.1.1, z.2.2.1⟩
          rw [h2, back] at w
          cases w
          exact absurd rfl z.2.2.2
        · rw [if_neg h2]
          refine (R.now x y).trans ⟨fun q => ⟨q.1, ⟨q.2.1, h1⟩, q.2.2, fun w => ?_⟩, fun q => ⟨q.1, q.2.1.1, q.2.2.1⟩⟩
          have z := o.sym x y ((R.now x y).mpr q)
          rw [w, e] at z
          exact h2 (Option.some.inj z).symm
/-- the law's own count -/
def jLO (Z : St) (wd : Int) : Option Rw → Option Str
  | none => some "row"
  | some r => jL Z wd r
def eLO (Z : St) : Option Rw → St
  | none => Z
  | some r => eL Z r
def dueO (wd : Int) : St → Nat → List (Option Rw) → Option (Nat × Str)
  | _, _, [] => none
  | Z, i, o :: os => match jLO Z wd o with
    | some z => some (i, z)
    | none => dueO wd (eLO Z o) (i + 1) os
theorem due_is {wd : Int} : ∀ (os : List (Option Rw)) {B : Bk} {Z : St} {i : Nat}, Rel B Z → BkOk B → faultO wd B i os = dueO wd Z i os
  | [], _, _, _, _, _ => rfl
  | none :: os, B, Z, i, R, o => rfl
  | some r :: os, B, Z, i, R, o => by
    show (match jP B wd r with | some z => some (i, z) | none => faultO wd (wP B r) (i + 1) os) = (match jL Z wd r with | some z => some (i, z) | none => dueO wd (eL Z r) (i + 1) os)
    rw [← R.judge wd r]
    cases e : jP B wd r with
    | some z => rfl
    | none => exact due_is os (R.step o e) (o.step e)
theorem due_new {wd : Int} (os : List (Option Rw)) : faultO wd Bk.new 0 os = dueO wd St.new 0 os := due_is os Rel.new BkOk.new
end K01

/-! the law's state: made, asked, changed -/
namespace K01
open PySem PySem.Spec PyProof.Rows L2
section
variable {S : Addr → Prop} {H : Hp}
mutual
theorem Dt.lay {v : V} {d : PyData} (h : Dt S H v d) : d.canLay0 = true := by
  cases h with
  | non => rfl
  | bl b => rfl
  | int i => rfl
  | str x h1 h2 => exact h2
  | lst s e r => exact r.lay
  | tup s e r => exact r.lay
theorem DtAll.lay {vs : List V} {ds : List PyData} (h : DtAll S H vs ds) : PyData.canLayAll0 ds = true := by
  cases h with
  | nil => rfl
  | cons a b => exact Bool.and_eq_true_iff.mpr ⟨a.lay, b.lay⟩
end
end
theorem shaped_of {d : PyData} (h : d.canLay0 = true) (k : d.depth ≤ 64) : SeqAt.shaped d = true := Bool.and_eq_true_iff.mpr ⟨h, decide_eq_true k⟩
def pairD (p : Str × Str) : PyData := .tuple [.str p.1, .str p.2]
theorem depth_pairs : ∀ ps : List (Str × Str), PyData.depthAll (ps.map pairD) ≤ 1
  | [] => Nat.zero_le _
  | p :: ps => by
    show max (PyData.depth (pairD p)) (PyData.depthAll (ps.map pairD)) ≤ 1
    have h : PyData.depth (pairD p) = 1 := rfl
    have ih := depth_pairs ps
    omega
theorem noL_pairs : ∀ ps : List (Str × Str), noLAll (ps.map pairD) = true
  | [] => rfl
  | p :: ps => noL_pairs ps
theorem any_pair (ps : List (Str × Str)) (f m : Str) : (ps.map pairD).any (fun z => PyData.eqv z (pairD (f, m))) = decide ((f, m) ∈ ps) := by
  induction ps with
  | nil => rfl
  | cons p ps ih =>
    rw [List.map_cons, List.any_cons, ih]
    have e : PyData.eqv (pairD p) (pairD (f, m)) = ((p.1 == f) && ((p.2 == m) && true)) := rfl
    rw [e]
    by_cases h : (f, m) = p
    · rw [decide_eq_true (show (f, m) ∈ p :: ps by rw [h]; exact List.mem_cons_self), ← h]
      simp
    · have h2 : ((p.1 == f) && ((p.2 == m) && true)) = false := by
        by_cases h3 : p.1 = f
        · by_cases h4 : p.2 = m
          · exact absurd (Prod.ext h3.symm h4.symm) h
          · rw [show (p.2 == m) = false from beq_eq_false_iff_ne.mpr h4, Bool.false_and, Bool.and_false]
        · rw [show (p.1 == f) = false from beq_eq_false_iff_ne.mpr h3, Bool.false_and]
      rw [h2, Bool.false_or]
      exact decide_eq_decide.mpr ⟨fun z => List.mem_cons_of_mem _ z, fun z => (List.mem_cons.mp z).elim (fun e => absurd e h) id⟩
theorem inV_strs (x : Str) (xs : List Str) : inV (V.str x) (xs.map V.str) = decide (x ∈ xs) := by
  induction xs with
  | nil => rfl
  | cons y ys ih =>
    show (eqV (V.str y) (V.str x) || inV (V.str x) (ys.map V.str)) = _
    rw [ih]
    have e : eqV (V.str y) (V.str x) = (y == x) := rfl
    rw [e]
    by_cases h : x = y
    · rw [decide_eq_true (show x ∈ y :: ys by rw [h]; exact List.mem_cons_self), h]
      simp
    · rw [show (y == x) = false from beq_eq_false_iff_ne.mpr (Ne.symm h), Bool.false_or]
      exact decide_eq_decide.mpr ⟨fun z => List.mem_cons_of_mem _ z, fun z => (List.mem_cons.mp z).elim (fun e => absurd e h) id⟩
theorem flat_strs : ∀ xs : List Str, (xs.map V.str).all flatV = true
  | [] => rfl
  | _ :: xs => flat_strs xs
abbrev stF (k d m p : Addr) : List (Key × V) := [(Sum.inr "kinds", .ref k), (Sum.inr "dead", .ref d), (Sum.inr "mates", .ref m), (Sum.inr "pairs", .ref p)]
/-- the law's state, where it stands -/
structure StAt (Z : St) (n : Nat) (H : Hp) (s k d m p : Addr) : Prop where
  hs : H s = some (.dK (stF k d m p))
  hk : H k = some (.dK (encK Z.kinds))
  hd : H d = some (.lst (Z.dead.map V.str))
  hm : H m = some (.dK (encK Z.mates))
  hp : ∃ ts, H p = some (.lst ts) ∧ DtAll Any H ts (Z.pairs.map pairD)
  lk : Z.kinds.length ≤ n
  ld : Z.dead.length ≤ n
  lm : Z.mates.length ≤ n
  lp : Z.pairs.length ≤ n
  n1 : s ≠ k
  n2 : s ≠ m
  n3 : k ≠ m
  n4 : d ≠ p
theorem StAt.to {Z : St} {n : Nat} {H H' : Hp} {s k d m p : Addr} (h : StAt Z n H s k d m p) (a : ∀ b o, b ∈ [s, k, d, m, p] → H b = some o → H' b = some o) (t : ∀ b xs, H b = some (.tup xs) → H' b = some (.tup xs)) : StAt Z n H' s k d m p := by
  obtain ⟨hs, hk, hd, hm, ⟨ts, p1, p2⟩, lk, ld, lm, lp, n1, n2, n3, n4⟩ := h
  exact ⟨a _ _ (by simp) hs, a _ _ (by simp) hk, a _ _ (by simp) hd, a _ _ (by simp) hm, ⟨ts, a _ _ (by simp) p1, p2.tups (noL_pairs _) fun b xs _ e => t b xs e⟩, lk, ld, lm, lp, n1, n2, n3, n4⟩
theorem StAt.mono {Z : St} {n j : Nat} {H : Hp} {s k d m p : Addr} (h : StAt Z n H s k d m p) (hn : n ≤ j) : StAt Z j H s k d m p := by
  obtain ⟨hs, hk, hd, hm, hp, lk, ld, lm, lp, n1, n2, n3, n4⟩ := h
  exact ⟨hs, hk, hd, hm, hp, Nat.le_trans lk hn, Nat.le_trans ld hn, Nat.le_trans lm hn, Nat.le_trans lp hn, n1, n2, n3, n4⟩
theorem StAt.same {Z : St} {n : Nat} {H H' : Hp} {s k d m p : Addr} (h : StAt Z n H s k d m p) (s' : Same H H') : StAt Z n H' s k d m p := h.to (fun b o _ e => s' _ _ e) fun b xs e => s' _ _ e
theorem StAt.gk {Z : St} {n : Nat} {H : Hp} {s k d m p : Addr} (h : StAt Z n H s k d m p) : DGet H s (.str "kinds") (some (.ref k)) := DGet.k (k := Sum.inr "kinds") h.hs
theorem StAt.gd {Z : St} {n : Nat} {H : Hp} {s k d m p : Addr} (h : StAt Z n H s k d m p) : DGet H s (.str "dead") (some (.ref d)) := DGet.k (k := Sum.inr "dead") h.hs
theorem StAt.gm {Z : St} {n : Nat} {H : Hp} {s k d m p : Addr} (h : StAt Z n H s k d m p) : DGet H s (.str "mates") (some (.ref m)) := DGet.k (k := Sum.inr "mates") h.hs
theorem StAt.gp {Z : St} {n : Nat} {H : Hp} {s k d m p : Addr} (h : StAt Z n H s k d m p) : DGet H s (.str "pairs") (some (.ref p)) := DGet.k (k := Sum.inr "pairs") h.hs
theorem StAt.kind {Z : St} {n : Nat} {H : Hp} {s k d m p : Addr} (h : StAt Z n H s k d m p) (x : Str) : DGet H k (.str x) ((look Z.kinds x).map V.str) := by
  have g := DGet.k (k := Sum.inr x) h.hk
  rw [valV_enc] at g
  exact g
theorem StAt.mate {Z : St} {n : Nat} {H : Hp} {s k d m p : Addr} (h : StAt Z n H s k d m p) (x : Str) : DGet H m (.str x) ((look Z.mates x).map V.str) := by
  have g := DGet.k (k := Sum.inr x) h.hm
  rw [valV_enc] at g
  exact g
def spStart : Sp := fun vs H Q _ => vs = [] ∧ ∀ (H' : Hp) (s k d m p : Addr), Same H H' → StAt St.new 0 H' s k d m p → (∀ x ∈ [s, k, d, m, p], H x = none) → Q (.ref s) H'
def spMate : Sp := fun vs H Q _ => ∃ (s k d m p : Addr) (Z : St) (n : Nat) (x : Str), vs = [.ref s, .str x] ∧ StAt Z n H s k d m p ∧ Q (.bl (hasMate Z x)) H
def spWord : Sp := fun vs H Q _ => ∃ (s k d m p : Addr) (Z : St) (n : Nat) (wd : Int) (v : V) (dd : PyData) (xs : List PyData) (r : Rw), vs = [.ref s, .int wd, v] ∧ StAt Z n H s k d m p ∧ Dt Any H v dd ∧ seqD dd = some xs ∧ RwL xs r ∧ ∀ H', Same H H' → Q (optV (jL Z wd r)) H'
def spEnter : Sp := fun vs H Q _ => ∃ (s k d m p : Addr) (Z : St) (n : Nat) (v : V) (xs : List PyData) (r : Rw), vs = [.ref s, v] ∧ StAt Z n H s k d m p ∧ Dt Any H v (.tuple xs) ∧ RwL xs r ∧ n < 100000 ∧
  ∀ H', StAt (eL Z r) (n + 3) H' s k d m p → (∀ y o, y ∉ [k, d, m, p] → H y = some o → H' y = some o) → Q .non H'
theorem putS_len (l : List (Str × Str)) (x k : Str) : (putS l x k).length ≤ l.length + 1 := by
  unfold putS
  split
  · rw [List.length_map]; omega
  · rw [List.length_append]; exact Nat.le_refl _
theorem fst_inv {S : Addr → Prop} {H : Hp} {ds : List PyData} {v1 v2 : V} {d0 d1 d2 : PyData} {f m : Str} (h : RwL (d0 :: d1 :: d2 :: ds) (.weds f m)) (g1 : Dt S H v1 d1) (g2 : Dt S H v2 d2) : v1 = .str f ∧ f.length ≤ 1000 ∧ (PyData.str f).canLay0 = true := by
  cases h with
  | weds hf hm => exact g1.str_inv
theorem snd_inv {S : Addr → Prop} {H : Hp} {ds : List PyData} {v1 v2 : V} {d0 d1 d2 : PyData} {f m : Str} (h : RwL (d0 :: d1 :: d2 :: ds) (.weds f m)) (g1 : Dt S H v1 d1) (g2 : Dt S H v2 d2) : v2 = .str m ∧ m.length ≤ 1000 ∧ (PyData.str m).canLay0 = true := by
  cases h with
  | weds hf hm => exact g2.str_inv
theorem StAt.put_k {Z : St} {n : Nat} {H : Hp} {s k d m p : Addr} (h : StAt Z n H s k d m p) (x y : Str) : StAt { Z with kinds := putS Z.kinds x y } (n + 1) (upd H k (.dK (encK (putS Z.kinds x y)))) s k d m p := by
  obtain ⟨hs, hk, hd, hm, ⟨ts, p1, p2⟩, lk, ld, lm, lp, n1, n2, n3, n4⟩ := h
  exact ⟨(upd_ne n1).trans hs, upd_same, (upd_ne (ne_of hd hk (by intro z; cases z))).trans hd, (upd_ne (Ne.symm n3)).trans hm, ⟨ts, (upd_ne (ne_of p1 hk (by intro z; cases z))).trans p1, p2.tups (noL_pairs _) fun b xs _ e => (upd_ne (ne_of e hk (by intro z; cases z))).trans e⟩,
    Nat.le_trans (putS_len _ _ _) (Nat.succ_le_succ lk), Nat.le_succ_of_le ld, Nat.le_succ_of_le lm, Nat.le_succ_of_le lp, n1, n2, n3, n4⟩
theorem StAt.put_m {Z : St} {n : Nat} {H : Hp} {s k d m p : Addr} (h : StAt Z n H s k d m p) (x y : Str) : StAt { Z with mates := putS Z.mates x y } (n + 1) (upd H m (.dK (encK (putS Z.mates x y)))) s k d m p := by
  obtain ⟨hs, hk, hd, hm, ⟨ts, p1, p2⟩, lk, ld, lm, lp, n1, n2, n3, n4⟩ := h
  exact ⟨(upd_ne n2).trans hs, (upd_ne n3).trans hk, (upd_ne (ne_of hd hm (by intro z; cases z))).trans hd, upd_same, ⟨ts, (upd_ne (ne_of p1 hm (by intro z; cases z))).trans p1, p2.tups (noL_pairs _) fun b xs _ e => (upd_ne (ne_of e hm (by intro z; cases z))).trans e⟩,
    Nat.le_succ_of_le lk, Nat.le_succ_of_le ld, Nat.le_trans (putS_len _ _ _) (Nat.succ_le_succ lm), Nat.le_succ_of_le lp, n1, n2, n3, n4⟩
theorem StAt.put_d {Z : St} {n : Nat} {H : Hp} {s k d m p : Addr} (h : StAt Z n H s k d m p) (x : Str) : StAt { Z with dead := Z.dead ++ [x] } (n + 1) (upd H d (.lst (Z.dead.map V.str ++ [.str x]))) s k d m p := by
  obtain ⟨hs, hk, hd, hm, ⟨ts, p1, p2⟩, lk, ld, lm, lp, n1, n2, n3, n4⟩ := h
  exact ⟨(upd_ne (ne_of hs hd (by intro z; cases z))).trans hs, (upd_ne (ne_of hk hd (by intro z; cases z))).trans hk, by rw [upd_same, List.map_append]; rfl, (upd_ne (ne_of hm hd (by intro z; cases z))).trans hm,
    ⟨ts, (upd_ne (Ne.symm n4)).trans p1, p2.tups (noL_pairs _) fun b xs _ e => (upd_ne (ne_of e hd (by intro z; cases z))).trans e⟩,
    Nat.le_succ_of_le lk, (by show (Z.dead ++ [x]).length ≤ n + 1; rw [List.length_append]; exact Nat.succ_le_succ ld), Nat.le_succ_of_le lm, Nat.le_succ_of_le lp, n1, n2, n3, n4⟩
theorem StAt.put_p {Z : St} {n : Nat} {H : Hp} {s k d m p t : Addr} (h : StAt Z n H s k d m p) {ts : List V} {x y : Str} (e : H p = some (.lst ts)) (et : Dt Any H (.ref t) (pairD (x, y))) : StAt { Z with pairs := Z.pairs ++ [(x, y)] } (n + 1) (upd H p (.lst (ts ++ [.ref t]))) s k d m p := by
  obtain ⟨hs, hk, hd, hm, ⟨ts', p1, p2⟩, lk, ld, lm, lp, n1, n2, n3, n4⟩ := h
  cases e.symm.trans p1
  refine ⟨(upd_ne (ne_of hs e (by intro z; cases z))).trans hs, (upd_ne (ne_of hk e (by intro z; cases z))).trans hk, (upd_ne n4).trans hd, (upd_ne (ne_of hm e (by intro z; cases z))).trans hm,
    ⟨ts ++ [.ref t], upd_same, ?_⟩, Nat.le_succ_of_le lk, Nat.le_succ_of_le ld, Nat.le_succ_of_le lm, (by show (Z.pairs ++ [(x, y)]).length ≤ n + 1; rw [List.length_append]; exact Nat.succ_le_succ lp), n1, n2, n3, n4⟩
  show DtAll Any _ _ ((Z.pairs ++ [(x, y)]).map pairD)
  rw [List.map_append]
  have z := p2.app (.cons et .nil)
  exact z.tups (noLAll_app (noL_pairs _) rfl) fun b xs _ eb => (upd_ne (ne_of eb e (by intro z; cases z))).trans eb
section
variable {P : Program} {w : World} {K : PySem.W.Frag} {mg : Str → Option Value} {base : Heap}
theorem ok_mate {f : Addr} {fd : FuncData} (F : FnP K "_law_has_mate" sHasMate f fd) : FnOk P w K mg base CX0 1 f fd ["_law_state", "_law_label"] spMate := by
  have sc : FnScope ["_law_state", "_law_label"] ["_law_state", "_law_label"] (defScope sHasMate) := ⟨rfl, rfl, rfl, by decide +kernel, rfl, by decide +kernel, by decide +kernel⟩
  refine F.ok sc (fun vs H Q E h => ?_) (fun cdv A outer s H vs Q E hr h => ?_)
  · obtain ⟨s, k, d, m, p, Z, n, x, rfl, _⟩ := h
    rfl
  · obtain ⟨s, k, d, m, p, Z, n, x, rfl, hZ, q⟩ := h
    have hu := hu_of hr
    refine ⟨_, PSs.nox (pss_one (ps_ret (pe_and (pe_cmp (pc_din hu (pv 1) (pe_dget hu (pv 0) pe_str (fun _ _ => rfl))) rfl) (pe_one (pe_cmpR op_notIn_seq (pe_dget hu (pe_dget hu (pv 0) pe_str (fun _ _ => rfl)) (pv 1) (fun _ _ => rfl)) (pe_dget hu (pv 0) pe_str (fun _ _ => rfl)) (by rfl)))))), ?_⟩
    unfold hasMate at q
    refine ⟨_, rfl, _, rfl, s, _, rfl, hZ.gm, m, _, rfl, hZ.mate x, _, rfl, ?_⟩
    cases e : look Z.mates x with
    | none =>
      rw [e] at q
      exact iteF q
    | some y =>
      rw [e] at q
      have g := hZ.mate x
      rw [e] at g
      refine iteT ⟨_, rfl, s, _, rfl, hZ.gm, _, rfl, m, _, rfl, g, _, rfl, s, _, rfl, hZ.gd, d, _, rfl, .inl (SqL.of hZ.hd), rfl, flat_strs _, ?_⟩
      show Q (.bl (!inV (V.str y) (Z.dead.map V.str))) H
      rw [inV_strs]
      exact q
theorem ok_start {f : Addr} {fd : FuncData} (F : FnP K "_law_start" sStart f fd) : FnOk P w K mg base CX0 1 f fd [] spStart := by
  have sc : FnScope [] [] (defScope sStart) := ⟨rfl, rfl, rfl, by decide +kernel, rfl, by decide +kernel, by decide +kernel⟩
  refine F.ok sc (fun vs H Q E h => ?_) (fun cdv A outer s H vs Q E hr h => ?_)
  · obtain ⟨rfl, _⟩ := h
    rfl
  · obtain ⟨rfl, q⟩ := h
    refine ⟨_, PSs.nox (pss_one (ps_ret (pe_disp (pps_cons pe_str pe_dnewK (pps_cons pe_str (pe_lst pa_nil) (pps_cons pe_str pe_dnewK (pps_cons pe_str (pe_lst pa_nil) pps_nil)))) (by rfl) (by rfl) (fun z => by cases z) (by decide)))), ?_⟩
    intro a na k nk
    refine ⟨Nat.zero_le _, fun d nd => fun m nm => ⟨Nat.zero_le _, fun p np => ?_⟩⟩
    have ea : upd H a (.dK []) a = some (.dK []) := upd_same
    have sa := same_upd (o := .dK []) na
    generalize upd H a (.dK []) = H1 at ea sa nk nd nm np ⊢
    have ek : upd H1 k (.dK []) k = some (.dK []) := upd_same
    have sk := same_upd (o := .dK []) nk
    have nka : k ≠ a := Ne.symm (ne_of_none ea nk)
    generalize upd H1 k (.dK []) = H2 at ek sk nd nm np ⊢
    have ed : upd H2 d (.lst []) d = some (.lst []) := upd_same
    have sd := same_upd (o := .lst []) nd
    generalize upd H2 d (.lst []) = H3 at ed sd nm np ⊢
    have em : upd H3 m (.dK []) m = some (.dK []) := upd_same
    have sm := same_upd (o := .dK []) nm
    have nmk : m ≠ k := Ne.symm (ne_of_none (sd _ _ ek) nm)
    have nma : m ≠ a := Ne.symm (ne_of_none (sd _ _ (sk _ _ ea)) nm)
    generalize upd H3 m (.dK []) = H4 at em sm np ⊢
    have ep : upd H4 p (.lst []) p = some (.lst []) := upd_same
    have sp := same_upd (o := .lst []) np
    have npd : p ≠ d := Ne.symm (ne_of_none (sm _ _ ed) np)
    generalize upd H4 p (.lst []) = H5 at ep sp ⊢
    have a5 := sp _ _ (sm _ _ (sd _ _ (sk _ _ ea)))
    refine ⟨a5, stF k d m p, rfl, (by show 4 ≤ 15; decide), ?_⟩
    have e0 : mergeK [] (stF k d m p) = stF k d m p := rfl
    rw [e0]
    have st : ∀ {y : Addr} {o : HO}, y ≠ a → H5 y = some o → upd H5 a (.dK (stF k d m p)) y = some o := fun {y o} n e => (upd_ne n).trans e
    have d5 := sp _ _ (sm _ _ ed)
    have s5 : Same H H5 := (((sa.trans sk).trans sd).trans sm).trans sp
    refine q _ a k d m p (fun y o e => st (ne_of_none e na) (s5 _ _ e)) ⟨upd_same, st nka (sp _ _ (sm _ _ (sd _ _ ek))), st (ne_of d5 a5 (by intro z; cases z)) d5, st nma (sp _ _ em), ⟨[], st (ne_of ep a5 (by intro z; cases z)) ep, .nil⟩, Nat.le_refl _, Nat.le_refl _, Nat.le_refl _, Nat.le_refl _, Ne.symm nka, Ne.symm nma, Ne.symm nmk, Ne.symm npd⟩ ?_
    intro x hx
    simp only [List.mem_cons, List.not_mem_nil, or_false] at hx
    rcases hx with rfl | rfl | rfl | rfl | rfl
    · exact na
    · exact none_of sa nk
    · exact none_of (sa.trans sk) nd
    · exact none_of ((sa.trans sk).trans sd) nm
    · exact none_of (((sa.trans sk).trans sd).trans sm) np
theorem ok_enter {f : Addr} {fd : FuncData} (F : FnP K "_law_enter" sEnter f fd) : FnOk P w K mg base CX0 1 f fd ["_law_state", "_law_row"] spEnter := by
  have sc : FnScope ["_law_state", "_law_row", "_law_kinds", "_law_mates"] ["_law_state", "_law_row"] (defScope sEnter) := ⟨rfl, rfl, rfl, by decide +kernel, rfl, by decide +kernel, by decide +kernel⟩
  refine F.ok sc (fun vs H Q E h => ?_) (fun cdv A outer s H vs Q E hr h => ?_)
  · obtain ⟨s, k, d, m, p, Z, n, v, xs, r, rfl, _⟩ := h
    rfl
  · obtain ⟨s, k, d, m, p, Z, n, v, xs, r, rfl, hZ, hd, hw, hn, q⟩ := h
    have hu := hu_of hr
    refine ⟨_, PSs.nox (pss_cons (ps_par (i := 2) (j := 3) rfl sc.nd rfl rfl (by decide) rfl rfl (pa_cons (pe_dget hu (pv 0) pe_str (fun _ _ => rfl)) (pa_cons (pe_dget hu (pv 0) pe_str (fun _ _ => rfl)) pa_nil)) rfl)
    (pss_one (ps_if (pt_cmpR op_eq (pe_ix ixS (pv 1) pe_int (fun _ _ => rfl)) pe_str (nomark _))
      (pss_one (ps_dput hu (pv 2) (pe_ix ixS (pv 1) pe_int (fun _ _ => rfl)) (pe_ix ixS (pv 1) pe_int (fun _ _ => rfl)) rfl))
      (pss_one (ps_if (pt_cmpR op_eq (pe_ix ixS (pv 1) pe_int (fun _ _ => rfl)) pe_str (nomark _))
        (pss_one (ps_dput hu (pv 2) (pe_ix ixS (pv 1) pe_int (fun _ _ => rfl)) (pe_ix ixS (pv 1) pe_int (fun _ _ => rfl)) rfl))
        (pss_one (ps_if (pt_cmpR op_eq (pe_ix ixS (pv 1) pe_int (fun _ _ => rfl)) pe_str (nomark _))
          (pss_one (ps_expr (pe_bm PySem.F.plainAttrs_list PySem.F.slot_list_append PySem.F.type_list_append mt_append (pe_dget hu (pv 0) pe_str (fun _ _ => rfl)) (pa_cons (pe_ix ixS (pv 1) pe_int (fun _ _ => rfl)) pa_nil))))
          (pss_cons (ps_dput hu (pv 3) (pe_ix ixS (pv 1) pe_int (fun _ _ => rfl)) (pe_ix ixS (pv 1) pe_int (fun _ _ => rfl)) rfl)
          (pss_cons (ps_dput hu (pv 3) (pe_ix ixS (pv 1) pe_int (fun _ _ => rfl)) (pe_ix ixS (pv 1) pe_int (fun _ _ => rfl)) rfl)
          (pss_one (ps_expr (pe_bm PySem.F.plainAttrs_list PySem.F.slot_list_append PySem.F.type_list_append mt_append (pe_dget hu (pv 0) pe_str (fun _ _ => rfl)) (pa_cons (pe_tup (pa_cons (pe_ix ixS (pv 1) pe_int (fun _ _ => rfl)) (pa_cons (pe_ix ixS (pv 1) pe_int (fun _ _ => rfl)) pa_nil))) pa_nil))))))))))))), ?_⟩
    have ln : ∀ {l : List (Str × Str)}, (encK l).length = l.length := fun {l} => List.length_map ..
    cases hd with
    | @tup a vs _ _ ha hvs =>
    have hS : Sq H a vs := .inr ha
    refine ⟨_, rfl, s, _, rfl, hZ.gk, _, rfl, s, _, rfl, hZ.gm, _, _, rfl, ?_⟩
    cases r with
    | comes l kk j hs =>
      obtain ⟨e5, v5, rfl, _, _⟩ := hw.comes_at hvs
      refine ⟨_, rfl, _, _, _, _, rfl, rfl, hS, rfl, rfl, _, rfl, iteT ?_⟩
      refine ⟨_, rfl, _, _, _, _, rfl, rfl, hS, rfl, _, rfl, _, rfl, _, _, _, _, rfl, rfl, hS, rfl, k, _, rfl, DPut.k (k := Sum.inr l) hZ.hk (by rw [ln]; exact lt_line hZ.lk (by omega)), ?_⟩
      rw [put_enc2]
      refine q _ ((hZ.put_k l kk).mono (by omega)) fun y o ny e => (upd_ne (fun z => ny (by simp [z]))).trans e
    | born f mm kk l j =>
      obtain rfl := hw.born_at hvs
      refine ⟨_, rfl, _, _, _, _, rfl, rfl, hS, rfl, rfl, _, rfl, iteF ?_⟩
      refine ⟨_, rfl, _, _, _, _, rfl, rfl, hS, rfl, rfl, _, rfl, iteT ?_⟩
      refine ⟨_, rfl, _, _, _, _, rfl, rfl, hS, rfl, _, rfl, _, rfl, _, _, _, _, rfl, rfl, hS, rfl, k, _, rfl, DPut.k (k := Sum.inr l) hZ.hk (by rw [ln]; exact lt_line hZ.lk (by omega)), ?_⟩
      rw [put_enc2]
      refine q _ ((hZ.put_k l kk).mono (by omega)) fun y o ny e => (upd_ne (fun z => ny (by simp [z]))).trans e
    | dies l =>
      obtain rfl := hw.dies_at hvs
      refine ⟨_, rfl, _, _, _, _, rfl, rfl, hS, rfl, rfl, _, rfl, iteF ?_⟩
      refine ⟨_, rfl, _, _, _, _, rfl, rfl, hS, rfl, rfl, _, rfl, iteF ?_⟩
      refine ⟨_, rfl, _, _, _, _, rfl, rfl, hS, rfl, rfl, _, rfl, iteT ?_⟩
      refine ⟨_, rfl, s, _, rfl, hZ.gd, .inl ⟨rfl, _, SqL.of hZ.hd⟩, _, rfl, _, _, _, _, rfl, rfl, hS, rfl, d, _, _, rfl, rfl, hZ.hd, lt_line (by rw [List.length_map]; exact hZ.ld) (by omega), ?_⟩
      refine q _ ((hZ.put_d l).mono (by omega)) fun y o ny e => (upd_ne (fun z => ny (by simp [z]))).trans e
    | weds f mm =>
      have hvs' := hvs
      obtain rfl := hw.weds_at hvs
      refine ⟨_, rfl, _, _, _, _, rfl, rfl, hS, rfl, rfl, _, rfl, iteF ?_⟩
      refine ⟨_, rfl, _, _, _, _, rfl, rfl, hS, rfl, rfl, _, rfl, iteF ?_⟩
      refine ⟨_, rfl, _, _, _, _, rfl, rfl, hS, rfl, rfl, _, rfl, iteF ?_⟩
      refine ⟨_, rfl, _, _, _, _, rfl, rfl, hS, rfl, _, rfl, _, rfl, _, _, _, _, rfl, rfl, hS, rfl, m, _, rfl, DPut.k (k := Sum.inr f) hZ.hm (by rw [ln]; exact lt_line hZ.lm (by omega)), ?_⟩
      rw [put_enc2]
      have h1 := hZ.put_m f mm
      have hS1 : Sq (upd H m (.dK (encK (putS Z.mates f mm)))) a _ := .inr ((upd_ne (ne_of ha hZ.hm (by intro z; cases z))).trans ha)
      have k1 : ∀ y o, y ≠ m → H y = some o → upd H m (.dK (encK (putS Z.mates f mm))) y = some o := fun y o ny e => (upd_ne ny).trans e
      generalize upd H m (.dK (encK (putS Z.mates f mm))) = H1 at h1 hS1 k1 ⊢
      refine ⟨_, rfl, _, _, _, _, rfl, rfl, hS1, rfl, _, rfl, _, rfl, _, _, _, _, rfl, rfl, hS1, rfl, m, _, rfl, DPut.k (k := Sum.inr mm) h1.hm (by rw [ln]; exact lt_line h1.lm (by omega)), ?_⟩
      rw [put_enc2]
      have h2 := h1.put_m mm f
      have ha1 : H1 a = some (.tup [V.str "weds", V.str f, V.str mm]) := hS1.elim (fun e => by
        have z := k1 a _ (ne_of ha hZ.hm (by intro z; cases z)) ha
        exact z) id
      have hS2 : Sq (upd H1 m (.dK (encK (putS (putS Z.mates f mm) mm f)))) a _ := .inr ((upd_ne (ne_of ha1 h1.hm (by intro z; cases z))).trans ha1)
      have k2 : ∀ y o, y ≠ m → H1 y = some o → upd H1 m (.dK (encK (putS (putS Z.mates f mm) mm f))) y = some o := fun y o ny e => (upd_ne ny).trans e
      show _
      generalize upd H1 m (.dK (encK (putS (putS Z.mates f mm) mm f))) = H2 at h2 hS2 k2 ⊢
      obtain ⟨ts, p1, p2⟩ := h2.hp
      refine ⟨_, rfl, s, _, rfl, h2.gp, .inl ⟨rfl, _, SqL.of p1⟩, _, rfl, _, _, _, _, rfl, rfl, hS2, rfl, _, rfl, _, _, _, _, rfl, rfl, hS2, rfl, (by show 2 ≤ sizeLine; decide), fun t nt => ?_⟩
      have sT := same_upd (o := .tup [V.str f, V.str mm]) nt
      have et : Dt Any (upd H2 t (.tup [V.str f, V.str mm])) (.ref t) (pairD (f, mm)) := by
        cases hvs' with | cons g0 g => cases g with | cons g1 g => cases g with | cons g2 g =>
        obtain ⟨_, l1, c1⟩ := fst_inv hw g1 g2
        obtain ⟨_, l2, c2⟩ := snd_inv hw g1 g2
        exact .tup trivial upd_same (.cons (.str f l1 c1) (.cons (.str mm l2 c2) .nil))
      have h3 := h2.same sT
      have p3 := sT _ _ p1
      have k3 : ∀ y o, H2 y = some o → upd H2 t (.tup [V.str f, V.str mm]) y = some o := fun y o e => sT y o e
      generalize upd H2 t (.tup [V.str f, V.str mm]) = H3 at h3 p3 k3 et ⊢
      refine ⟨p, ts, _, rfl, rfl, p3, lt_line (by rw [p2.len, List.length_map]; exact h2.lp) (by omega), ?_⟩
      refine q _ ((h3.put_p p3 et).mono (by omega)) fun y o ny e => (upd_ne (fun z => ny (by simp [z]))).trans (k3 _ _ (k2 _ _ (fun z => ny (by simp [z])) (k1 _ _ (fun z => ny (by simp [z])) e)))
end
end K01

/-! the law's word for a row -/
namespace K01
open PySem PySem.Spec PyProof.Rows L2
theorem str2_inv {S : Addr → Prop} {H : Hp} {ds : List PyData} {vs : List V} {d0 : PyData} {f m : Str} (h : DtAll S H vs (d0 :: .str f :: .str m :: ds)) : f.length ≤ 1000 ∧ (PyData.str f).canLay0 = true ∧ m.length ≤ 1000 ∧ (PyData.str m).canLay0 = true := by
  cases h with | cons a h => cases h with | cons b h => cases h with | cons c h =>
  exact ⟨b.str_inv.2.1, b.str_inv.2.2, c.str_inv.2.1, c.str_inv.2.2⟩
section
variable {P : Program} {w : World} {K : PySem.W.Frag} {mg : Str → Option Value} {base : Heap}
theorem ok_word {f fM : Addr} {fd fdM : FuncData} (F : FnP K "_law_word" sWord f fd) (z_len : mg "len" = none) (dM : Df P w K mg base "_law_has_mate" 1 ["_law_state", "_law_label"] spMate fM fdM) : FnOk P w K mg base CX0 2 f fd ["_law_state", "_law_width", "_law_row"] spWord := by
  have sc : FnScope ["_law_state", "_law_width", "_law_row", "_law_kinds", "_law_dead", "_law_father", "_law_mother"] ["_law_state", "_law_width", "_law_row"] (defScope sWord) := ⟨rfl, rfl, rfl, by decide +kernel, rfl, by decide +kernel, by decide +kernel⟩
  refine F.ok sc (fun vs H Q E h => ?_) (fun cdv A outer s9 H vs Q E hr1 h => ?_)
  · obtain ⟨s, k, d, m, p, Z, n, wd, v, dd, xs, r, rfl, _⟩ := h
    rfl
  · obtain ⟨s, k, d, m, p, Z, n, wd, v, dd, xs, r, rfl, hZ, hd, e, hw, q⟩ := h
    have hu := hu_of hr1
    have hu65 : (A.deeper (envOfC "_law_word" (defScope sWord) s9.heap.objs.size f cdv)).units + 65 < cLine := by have := hr1.un; omega
    refine ⟨_, PSs.nox (pss_cons (ps_par (i := 3) (j := 4) rfl sc.nd rfl rfl (by decide) rfl rfl (pa_cons (pe_dget hu (pv 0) pe_str (fun _ _ => rfl)) (pa_cons (pe_dget hu (pv 0) pe_str (fun _ _ => rfl)) pa_nil)) rfl)
    (pss_cons (ps_if (pt_cmpR op_eq (pe_ix ixS (pv 2) pe_int (fun _ _ => rfl)) pe_str (nomark _))
      (pss_cons (ps_if (pt_cmp (pc_din hu (pe_ix ixS (pv 2) pe_int (fun _ _ => rfl)) (pv 3)))
        (pss_one (ps_ret pe_str))
        pss_nil)
      (pss_one (ps_ret (pe_ifExp (pt_cmpR op_ne (pe_callB call_len_seq (by rfl) z_len boot_len (pa_cons (pe_ix ixS (pv 2) pe_int (fun _ _ => rfl)) pa_nil)) (pv 1) (nomark _)) pe_str pe_non))))
      pss_nil)
    (pss_cons (ps_if (pt_cmpR op_eq (pe_ix ixS (pv 2) pe_int (fun _ _ => rfl)) pe_str (nomark _))
      (pss_cons (ps_if (pt_cmp (pc_dnotin hu (pe_ix ixS (pv 2) pe_int (fun _ _ => rfl)) (pv 3)))
        (pss_one (ps_ret pe_str))
        pss_nil)
      (pss_one (ps_ret (pe_ifExp (pt_cmpR op_in_seq (pe_ix ixS (pv 2) pe_int (fun _ _ => rfl)) (pv 4) (by rfl)) pe_str pe_non))))
      pss_nil)
    (pss_cons (ps_par (i := 5) (j := 6) rfl sc.nd rfl rfl (by decide) rfl rfl (pa_cons (pe_ix ixS (pv 2) pe_int (fun _ _ => rfl)) (pa_cons (pe_ix ixS (pv 2) pe_int (fun _ _ => rfl)) pa_nil)) rfl)
    (pss_cons (ps_if (PW.pt (pw_or (pt_cmp (pc_dnotin hu (pv 5) (pv 3))) (pw_or1 (pt_cmp (pc_dnotin hu (pv 6) (pv 3))))))
      (pss_one (ps_ret pe_str))
      pss_nil)
    (pss_cons (ps_if (pt_cmpR op_eq (pe_ix ixS (pv 2) pe_int (fun _ _ => rfl)) pe_str (nomark _))
      (pss_cons (ps_if (PW.pt (pw_or (pt_cmpR (op_notInD hu65) (pe_tup (pa_cons (pv 5) (pa_cons (pv 6) pa_nil))) (pe_dget hu (pv 0) pe_str (fun _ _ => rfl)) (by rfl)) (pw_or (pt_cmpR op_in_seq (pv 5) (pv 4) (by rfl)) (pw_or1 (pt_cmpR op_in_seq (pv 6) (pv 4) (by rfl))))))
        (pss_one (ps_ret pe_str))
        pss_nil)
      (pss_one (ps_ret (pe_ifExp (pt_cmp (pc_din hu (pe_ix ixS (pv 2) pe_int (fun _ _ => rfl)) (pv 3))) pe_str pe_non))))
      pss_nil)
    (pss_cons (ps_if (PW.pt (pw_or (pt_cmpR op_ne (pe_dget hu (pv 3) (pv 5) (fun _ _ => rfl)) pe_str (nomark _)) (pw_or1 (pt_cmpR op_ne (pe_dget hu (pv 3) (pv 6) (fun _ _ => rfl)) pe_str (nomark _)))))
      (pss_one (ps_ret pe_str))
      pss_nil)
    (pss_cons (ps_if (PW.pt (pw_or (pt_cmpR op_in_seq (pv 5) (pv 4) (by rfl)) (pw_or1 (pt_cmpR op_in_seq (pv 6) (pv 4) (by rfl)))))
      (pss_one (ps_ret pe_str))
      pss_nil)
    (pss_one (ps_ret (pe_ifExp (PW.pt (pw_or (pt_val (pe_call dM.ok hr1 (by rfl) dM.gl dM.kp dM.bi .nil pass0 (pa_cons (pv 0) (pa_cons (pv 5) pa_nil)))) (pw_or1 (pt_val (pe_call dM.ok hr1 (by rfl) dM.gl dM.kp dM.bi .nil pass0 (pa_cons (pv 0) (pa_cons (pv 6) pa_nil))))))) pe_str pe_non))))))))))), ?_⟩
    obtain ⟨a, vs, rfl, _, hS, hvs⟩ := id (hd.seq e)
    refine ⟨_, rfl, s, _, rfl, hZ.gk, _, rfl, s, _, rfl, hZ.gd, _, _, rfl, ?_⟩
    have fl := flat_strs Z.dead
    cases r with
    | comes l kk j hs =>
      obtain ⟨e5, v5, rfl, h5, eh⟩ := hw.comes_at hvs
      obtain ⟨a5, vs5, rfl, _, hS5, hvs5⟩ := h5.seq eh
      have ln : vs5.length = hs.length := by rw [hvs5.len, List.length_map]
      replace q : ∀ H', Same H H' → Q (optV (jLc Z wd l hs)) H' := q
      unfold jLc at q
      refine ⟨_, rfl, _, _, _, _, rfl, rfl, hS, rfl, rfl, _, rfl, iteT ?_⟩
      refine ⟨_, rfl, _, _, _, _, rfl, rfl, hS, rfl, _, rfl, k, _, rfl, hZ.kind l, _, rfl, ?_⟩
      cases el : look Z.kinds l with
      | some z =>
        rw [el] at q
        exact iteT (q _ (Same.refl _))
      | none =>
        rw [el] at q
        have q : ∀ H', Same H H' → Q (optV (if (hs.length : Int) = wd then none else some "width")) H' := q
        refine iteF ?_
        refine ⟨_, rfl, _, _, _, _, rfl, rfl, hS, rfl, _, _, rfl, hS5.or, _, rfl, rfl, _, rfl, ?_⟩
        rw [ln]
        by_cases g : (hs.length : Int) = wd
        · rw [if_pos g] at q
          refine ite2 (fun y => absurd y (by rw [g, decide_eq_true rfl]; decide)) (fun _ => q _ (Same.refl _))
        · rw [if_neg g] at q
          refine ite2 (fun _ => q _ (Same.refl _)) (fun y => absurd (show (!decide (V.int (hs.length : Int) = V.int wd)) = true by rw [decide_eq_false (fun z => g (V.int.inj z))]; rfl) y)
    | dies l =>
      obtain rfl := hw.dies_at hvs
      replace q : ∀ H', Same H H' → Q (optV (jLd Z l)) H' := q
      unfold jLd at q
      refine ⟨_, rfl, _, _, _, _, rfl, rfl, hS, rfl, rfl, _, rfl, iteF ?_⟩
      refine ⟨_, rfl, _, _, _, _, rfl, rfl, hS, rfl, rfl, _, rfl, iteT ?_⟩
      refine ⟨_, rfl, _, _, _, _, rfl, rfl, hS, rfl, _, rfl, k, _, rfl, hZ.kind l, _, rfl, ?_⟩
      cases el : look Z.kinds l with
      | none =>
        rw [el] at q
        exact iteT (q _ (Same.refl _))
      | some z =>
        rw [el] at q
        have q : ∀ H', Same H H' → Q (optV (if l ∈ Z.dead then some "dead" else none)) H' := q
        refine iteF ?_
        refine ⟨_, rfl, _, _, _, _, rfl, rfl, hS, rfl, _, rfl, d, _, rfl, .inl (SqL.of hZ.hd), rfl, fl, _, rfl, ?_⟩
        show (if inV (V.str l) (Z.dead.map V.str) = true then _ else _)
        rw [inV_strs]
        refine ite2 (fun g => ?_) (fun g => ?_)
        · rw [if_pos (of_decide_eq_true g)] at q
          exact q _ (Same.refl _)
        · rw [if_neg (fun y => g (decide_eq_true y))] at q
          exact q _ (Same.refl _)
    | born f mm kk l j =>
      obtain rfl := hw.born_at hvs
      obtain ⟨l1, c1, l2, c2⟩ : f.length ≤ 1000 ∧ (PyData.str f).canLay0 = true ∧ mm.length ≤ 1000 ∧ (PyData.str mm).canLay0 = true := by
        cases hw
        exact str2_inv hvs
      replace q : ∀ H', Same H H' → Q (optV (jLb Z f mm l)) H' := q
      unfold jLb at q
      refine ⟨_, rfl, _, _, _, _, rfl, rfl, hS, rfl, rfl, _, rfl, iteF ?_⟩
      refine ⟨_, rfl, _, _, _, _, rfl, rfl, hS, rfl, rfl, _, rfl, iteF ?_⟩
      refine ⟨_, rfl, _, _, _, _, rfl, rfl, hS, rfl, _, rfl, _, _, _, _, rfl, rfl, hS, rfl, _, _, rfl, ?_⟩
      refine ⟨_, rfl, _, rfl, k, _, rfl, hZ.kind f, _, rfl, ?_⟩
      cases ef : look Z.kinds f with
      | none =>
        rw [ef] at q
        exact iteT (iteT (q _ (Same.refl _)))
      | some kf =>
      rw [ef] at q
      refine iteF ?_
      refine ⟨_, rfl, _, rfl, k, _, rfl, hZ.kind mm, _, rfl, ?_⟩
      cases em : look Z.kinds mm with
      | none =>
        rw [em] at q
        exact iteT (q _ (Same.refl _))
      | some km =>
      rw [em] at q
      refine iteF ?_
      have q : ∀ H', Same H H' → Q (optV (if ¬ (f, mm) ∈ Z.pairs ∨ f ∈ Z.dead ∨ mm ∈ Z.dead then some "couple" else if (look Z.kinds l).isSome = true then some "label" else none)) H' := q
      refine ⟨_, rfl, _, _, _, _, rfl, rfl, hS, rfl, rfl, _, rfl, iteT ?_⟩
      -- the pair
      refine ⟨_, rfl, _, rfl, (by show 2 ≤ sizeLine; decide), fun t nt => ?_⟩
      have sT := same_upd (o := .tup [V.str f, V.str mm]) nt
      have et : Dt Any (upd H t (.tup [V.str f, V.str mm])) (.ref t) (pairD (f, mm)) := .tup trivial upd_same (.cons (.str f l1 c1) (.cons (.str mm l2 c2) .nil))
      have hZ1 := hZ.same sT
      replace q : ∀ H', Same (upd H t (.tup [V.str f, V.str mm])) H' → Q (optV (if ¬ (f, mm) ∈ Z.pairs ∨ f ∈ Z.dead ∨ mm ∈ Z.dead then some "couple" else if (look Z.kinds l).isSome = true then some "label" else none)) H' := fun H' s' => q H' (sT.trans s')
      replace hS := hS.same sT
      generalize upd H t (.tup [V.str f, V.str mm]) = H1 at hZ1 et q hS ⊢
      obtain ⟨ts, p1, p2⟩ := hZ1.hp
      have sh1 : SeqAt.shaped (.list (Z.pairs.map pairD)) = true := shaped_of p2.lay (by have := depth_pairs Z.pairs; show PyData.depthAll (Z.pairs.map pairD) + 1 ≤ 64; omega)
      refine ⟨_, rfl, s, _, rfl, hZ1.gp, _, _, et.dp, .lst (SqL.of p1) p2.dp, shaped_of et.lay (show (1 : Nat) ≤ 64 by decide), sh1, _, rfl, ?_⟩
      rw [any_pair]
      by_cases g1 : (f, mm) ∈ Z.pairs
      rotate_left
      · rw [if_pos (.inl g1)] at q
        refine ite2 (fun _ => iteT (q _ (Same.refl _))) (fun y => absurd (show (!decide ((f, mm) ∈ Z.pairs)) = true by rw [decide_eq_false g1]; rfl) y)
      refine ite2 (fun y => absurd y (by rw [decide_eq_true g1]; decide)) (fun _ => ?_)
      refine ⟨_, rfl, _, rfl, d, _, rfl, .inl (SqL.of hZ1.hd), rfl, fl, _, rfl, ?_⟩
      show (if inV (V.str f) (Z.dead.map V.str) = true then _ else _)
      rw [inV_strs]
      by_cases g2 : f ∈ Z.dead
      · rw [if_pos (.inr (.inl g2))] at q
        rw [decide_eq_true g2]
        exact iteT (iteT (q _ (Same.refl _)))
      rw [decide_eq_false g2]
      refine iteF ?_
      refine ⟨_, rfl, _, rfl, d, _, rfl, .inl (SqL.of hZ1.hd), rfl, fl, _, rfl, ?_⟩
      show (if inV (V.str mm) (Z.dead.map V.str) = true then _ else _)
      rw [inV_strs]
      by_cases g3 : mm ∈ Z.dead
      · rw [if_pos (.inr (.inr g3))] at q
        rw [decide_eq_true g3]
        exact iteT (q _ (Same.refl _))
      rw [decide_eq_false g3]
      rw [if_neg (fun z => z.elim (fun y => y g1) fun y => y.elim g2 g3)] at q
      refine iteF ?_
      refine ⟨_, rfl, _, _, _, _, rfl, rfl, hS, rfl, _, rfl, k, _, rfl, hZ1.kind l, _, rfl, ?_⟩
      cases el : look Z.kinds l with
      | some z =>
        rw [el] at q
        exact iteT (q _ (Same.refl _))
      | none =>
        rw [el] at q
        exact iteF (q _ (Same.refl _))
    | weds f mm =>
      obtain rfl := hw.weds_at hvs
      replace q : Q (optV (jLw Z f mm)) H := q _ (Same.refl _)
      unfold jLw at q
      refine ⟨_, rfl, _, _, _, _, rfl, rfl, hS, rfl, rfl, _, rfl, iteF ?_⟩
      refine ⟨_, rfl, _, _, _, _, rfl, rfl, hS, rfl, rfl, _, rfl, iteF ?_⟩
      refine ⟨_, rfl, _, _, _, _, rfl, rfl, hS, rfl, _, rfl, _, _, _, _, rfl, rfl, hS, rfl, _, _, rfl, ?_⟩
      refine ⟨_, rfl, _, rfl, k, _, rfl, hZ.kind f, _, rfl, ?_⟩
      cases ef : look Z.kinds f with
      | none =>
        rw [ef] at q
        exact iteT (iteT q)
      | some kf =>
      rw [ef] at q
      refine iteF ?_
      refine ⟨_, rfl, _, rfl, k, _, rfl, hZ.kind mm, _, rfl, ?_⟩
      cases em : look Z.kinds mm with
      | none =>
        rw [em] at q
        exact iteT q
      | some km =>
      rw [em] at q
      refine iteF ?_
      have q : Q (optV (if some kf ≠ some sonK ∨ some km ≠ some dauK then some "kind" else if f ∈ Z.dead ∨ mm ∈ Z.dead then some "dead" else if (hasMate Z f || hasMate Z mm) = true then some "wed" else none)) H := q
      refine ⟨_, rfl, _, _, _, _, rfl, rfl, hS, rfl, rfl, _, rfl, iteF ?_⟩
      have gf := hZ.kind f
      rw [ef] at gf
      have gm := hZ.kind mm
      rw [em] at gm
      refine ⟨_, rfl, _, rfl, k, _, rfl, gf, rfl, _, rfl, ite2 (fun g => ?_) (fun g => ?_)⟩
      · have n1 : some kf ≠ some sonK := fun y => by
          rw [Option.some.inj y] at g
          exact absurd g (by decide)
        rw [if_pos (.inl n1)] at q
        exact iteT q
      have k1 : kf = sonK := Decidable.byContradiction fun y => g (by
        show (!decide (V.str kf = V.str "s")) = true
        rw [decide_eq_false (fun z => y (V.str.inj z))]
        rfl)
      refine ⟨_, rfl, _, rfl, k, _, rfl, gm, rfl, _, rfl, ite2 (fun g => ?_) (fun g => ?_)⟩
      · have n1 : some km ≠ some dauK := fun y => by
          rw [Option.some.inj y] at g
          exact absurd g (by decide)
        rw [if_pos (.inr n1)] at q
        exact q
      have k2 : km = dauK := Decidable.byContradiction fun y => g (by
        show (!decide (V.str km = V.str "d")) = true
        rw [decide_eq_false (fun z => y (V.str.inj z))]
        rfl)
      subst k1
      subst k2
      rw [if_neg (fun z => z.elim (fun y => y rfl) fun y => y rfl)] at q
      refine ⟨_, rfl, _, rfl, d, _, rfl, .inl (SqL.of hZ.hd), rfl, fl, _, rfl, ?_⟩
      show (if inV (V.str f) (Z.dead.map V.str) = true then _ else _)
      rw [inV_strs]
      by_cases g2 : f ∈ Z.dead
      · rw [if_pos (.inl g2)] at q
        rw [decide_eq_true g2]
        exact iteT (iteT q)
      rw [decide_eq_false g2]
      refine iteF ?_
      refine ⟨_, rfl, _, rfl, d, _, rfl, .inl (SqL.of hZ.hd), rfl, fl, _, rfl, ?_⟩
      show (if inV (V.str mm) (Z.dead.map V.str) = true then _ else _)
      rw [inV_strs]
      by_cases g3 : mm ∈ Z.dead
      · rw [if_pos (.inr g3)] at q
        rw [decide_eq_true g3]
        exact iteT q
      rw [decide_eq_false g3]
      rw [if_neg (fun z => z.elim g2 g3)] at q
      refine iteF ?_
      refine ⟨_, rfl, _, rfl, s, k, d, m, p, Z, n, f, rfl, hZ, ?_⟩
      cases e1 : hasMate Z f with
      | true =>
        rw [e1] at q
        exact ⟨_, rfl, iteT (iteT q)⟩
      | false =>
      rw [e1] at q
      refine ⟨_, rfl, iteF ?_⟩
      refine ⟨_, rfl, _, rfl, s, k, d, m, p, Z, n, mm, rfl, hZ, ?_⟩
      cases e2 : hasMate Z mm with
      | true =>
        rw [e2] at q
        exact ⟨_, rfl, iteT q⟩
      | false =>
        rw [e2] at q
        exact ⟨_, rfl, iteF q⟩
end
end K01

/-! what is drawn: names, rows -/
namespace K01
open PySem PySem.Spec PyProof.Rows L2
/-- the hand stands at p -/
def Hand (p l : Addr) (H : Hp) : Prop := ∃ (cells : List Int) (i r t : Int), HandAt H p l cells i r t
theorem Hand.same {p l : Addr} {H H' : Hp} (h : Hand p l H) (s : Same H H') : Hand p l H' := by
  obtain ⟨cells, i, r, t, h⟩ := h
  exact ⟨cells, i, r, t, hand_same h s⟩
theorem Hand.at_ {p l : Addr} {H : Hp} (h : Hand p l H) : ∃ xs, H p = some (.lst xs) := by
  obtain ⟨cells, i, r, t, h⟩ := h
  exact ⟨_, h.1⟩
theorem Hand.nn {p l : Addr} {H : Hp} (h : Hand p l H) {a : Addr} (n : H a = none) : a ≠ p := fun z => by
  obtain ⟨xs, e⟩ := h.at_
  rw [z, e] at n
  cases n
theorem Hand.app {p l a : Addr} {H : Hp} {o : HO} (h : Hand p l H) (n1 : a ≠ p) (n2 : a ≠ l) : Hand p l (upd H a o) := by
  obtain ⟨cells, i, r, t, h⟩ := h
  exact ⟨cells, i, r, t, (upd_ne (Ne.symm n1)).trans h.1, (upd_ne (Ne.symm n2)).trans h.2.1, h.2.2⟩
theorem Hand.nl {p l : Addr} {H : Hp} (h : Hand p l H) {a : Addr} (n : H a = none) : a ≠ l := fun z => by
  obtain ⟨cells, i, r, t, h⟩ := h
  rw [z, h.2.1] at n
  cases n
theorem Hand.back {p l : Addr} {H H' : Hp} (h : Hand p l H') (k : Kept p H H') {a : Addr} (n : H' a = none) : H a = none := by
  cases e : H a with
  | none => rfl
  | some o =>
    have z := k _ _ (h.nn n) e
    rw [n] at z
    cases z
abbrev New (H : Hp) : Addr → Prop := fun a => H a = none
theorem Dt.newer {H H1 H' : Hp} {v : V} {d : PyData} {p l : Addr} (h : Dt (New H1) H' v d) (hp : Hand p l H1) (k : Kept p H H1) : Dt (New H) H' v d := h.to (fun a n => hp.back k n) fun _ _ _ e => e
theorem Dt.new_kept {H H1 H' : Hp} {v : V} {d : PyData} {p l : Addr} (h : Dt (New H) H1 v d) (hp : Hand p l H) (k : Kept p H1 H') : Dt (New H) H' v d := h.kept (fun n => (hp.nn n) rfl) k
theorem DtAll.newer {H H1 H' : Hp} {v : List V} {d : List PyData} {p l : Addr} (h : DtAll (New H1) H' v d) (hp : Hand p l H1) (k : Kept p H H1) : DtAll (New H) H' v d := h.to (fun a n => hp.back k n) fun _ _ _ e => e
theorem DtAll.new_kept {H H1 H' : Hp} {v : List V} {d : List PyData} {p l : Addr} (h : DtAll (New H) H1 v d) (hp : Hand p l H) (k : Kept p H1 H') : DtAll (New H) H' v d := h.kept (fun n => (hp.nn n) rfl) k
def spDr : Sp := fun vs H Q _ => ∃ (p l : Addr) (m : Int), vs = [.ref p, .int m] ∧ Hand p l H ∧ 0 < m ∧ m.natAbs < 2 ^ 200 ∧ ∀ (d : Int) (H' : Hp), 0 ≤ d → d < m → Kept p H H' → Hand p l H' → Q (.int d) H'
def spPk : Sp := fun vs H Q _ => ∃ (p l a : Addr) (xs : List V), vs = [.ref p, .ref a] ∧ Hand p l H ∧ H a = some (.lst xs) ∧ a ≠ p ∧ 0 < xs.length ∧ xs.length ≤ 1000 ∧ ∀ (v : V) (H' : Hp), v ∈ xs → Kept p H H' → Hand p l H' → Q v H'
section
variable {P : Program} {w : World} {K : PySem.W.Frag} {mg : Str → Option Value} {base : Heap}
theorem Df.draw {f : Addr} {fd : FuncData} (d : Df P w K mg base "_law_draw" 2 ["_law_hand_here", "_law_many"] spDraw f fd) : Df P w K mg base "_law_draw" 2 ["_law_hand_here", "_law_many"] spDr f fd :=
  ⟨d.gl, d.ok.imp fun vs H Q E ⟨p, l, m, e, ⟨cells, i, r, t, h⟩, h0, h1, q⟩ => ⟨p, l, cells, i, r, t, m, e, h, h0, small2 h1, fun d i' r' t' d0 d1 ok => q _ _ d0 d1 Kept.upd ⟨cells, i', r', t', hand_upd h ok⟩⟩, d.bi, d.kp⟩
theorem Df.pick {f : Addr} {fd : FuncData} (d : Df P w K mg base "_law_pick" 3 ["_law_hand_here", "_law_things"] (spPick K) f fd) : Df P w K mg base "_law_pick" 3 ["_law_hand_here", "_law_things"] spPk f fd :=
  ⟨d.gl, d.ok.imp fun vs H Q E ⟨p, l, a, xs, e, ⟨cells, i, r, t, h⟩, ha, nap, h0, h1, q⟩ => ⟨p, l, cells, i, r, t, h, .inl ⟨a, xs, e, SqL.of ha, nap, h0, h1, fun v i' r' t' hv ok => q _ _ hv Kept.upd ⟨cells, i', r', t', hand_upd h ok⟩⟩⟩, d.bi, d.kp⟩
end
/-! ### written things -/
def DtE (t : TE) (d : PyData) : Prop := ∀ (σ : L2.St) (H : Hp) (Q : VK), (∀ v H', Same H H' → Dt (New H) H' v d → Q v H') → t σ H Q
def DtA (t : TA) (ds : List PyData) : Prop := ∀ (σ : L2.St) (H : Hp) (Q : List V → Hp → Prop), (∀ vs H', Same H H' → DtAll (New H) H' vs ds → Q vs H') → t σ H Q
theorem deN : DtE (tC .non) .none := fun σ H Q q => q _ _ (Same.refl _) .non
theorem deB {b : Bool} : DtE (tC (.bl b)) (.bool b) := fun σ H Q q => q _ _ (Same.refl _) (.bl b)
theorem deI {i : Int} : DtE (tC (.int i)) (.int i) := fun σ H Q q => q _ _ (Same.refl _) (.int i)
def okS (x : Str) : Bool := decide (x.length ≤ 1000) && (PyData.str x).canLay0
theorem okS_dt {S : Addr → Prop} {H : Hp} {x : Str} (h : okS x = true) : Dt S H (.str x) (.str x) := by
  obtain ⟨a, b⟩ := Bool.and_eq_true_iff.mp h
  exact .str x (of_decide_eq_true a) b
theorem deS {x : Str} (h : okS x = true) : DtE (tC (.str x)) (.str x) := fun σ H Q q => q _ _ (Same.refl _) (okS_dt h)
theorem deU {i : Int} : DtE (tUn (rU fun i => .int (-i)) (tC (.int i))) (.int (-i)) := fun σ H Q q => ⟨i, rfl, q _ _ (Same.refl _) (.int _)⟩
theorem deP {i j : Int} (h : 0 ≤ j ∧ j ≤ 1000000 ∧ i.natAbs < 2 ^ 64) : DtE (tOp (rI CPow fun i j => .int (i ^ j.toNat)) (tC (.int i)) (tC (.int j))) (.int (i ^ j.toNat)) := fun σ H Q q => ⟨_, _, rfl, rfl, h, q _ _ (Same.refl _) (.int _)⟩
theorem dePA {i j k : Int} (h : 0 ≤ j ∧ j ≤ 1000000 ∧ i.natAbs < 2 ^ 64) : DtE (tOp (rI0 fun i j => .int (i + j)) (tOp (rI CPow fun i j => .int (i ^ j.toNat)) (tC (.int i)) (tC (.int j))) (tC (.int k))) (.int (i ^ j.toNat + k)) := fun σ H Q q => ⟨_, _, rfl, rfl, h, _, _, rfl, rfl, q _ _ (Same.refl _) (.int _)⟩
theorem daN : DtA tNil [] := fun σ H Q q => q [] H (Same.refl _) .nil
theorem Dt.from {H H1 H2 : Hp} {v : V} {d : PyData} (h : Dt (New H1) H2 v d) (s : Same H H1) : Dt (New H) H2 v d := h.to (fun a n => none_of s n) fun _ _ _ e => e
theorem DtAll.from {H H1 H2 : Hp} {v : List V} {d : List PyData} (h : DtAll (New H1) H2 v d) (s : Same H H1) : DtAll (New H) H2 v d := h.to (fun a n => none_of s n) fun _ _ _ e => e
theorem daK {t : TE} {d : PyData} {ta : TA} {ds : List PyData} (h : DtE t d) (r : DtA ta ds) : DtA (tCons t ta) (d :: ds) := fun σ H Q q => h σ H _ fun v H1 s1 h1 => r σ H1 _ fun vs H2 s2 h2 => q _ _ (s1.trans s2) (.cons (h1.same s2) (h2.from s1))
theorem deL {t : TA} {ds : List PyData} (h : DtA t ds) (hl : ds.length ≤ 1000) : DtE (tLst t) (.list ds) := fun σ H Q q => h σ H _ fun vs H1 s1 h1 => ⟨by rw [h1.len]; exact Nat.le_trans hl (by decide), fun p np => q _ _ (s1.trans (same_upd np)) (.lst (none_of s1 np) upd_same (h1.same (same_upd np)))⟩
theorem deT {t : TA} {ds : List PyData} (h : DtA t ds) (hl : ds.length ≤ 1000) : DtE (tTup t) (.tuple ds) := fun σ H Q q => h σ H _ fun vs H1 s1 h1 => ⟨by rw [h1.len]; exact Nat.le_trans hl (by decide), fun p np => q _ _ (s1.trans (same_upd np)) (.tup (none_of s1 np) upd_same (h1.same (same_upd np)))⟩
theorem DtAll.mem {S : Addr → Prop} {H : Hp} {vs : List V} {ds : List PyData} (h : DtAll S H vs ds) {v : V} (hv : v ∈ vs) : ∃ d ∈ ds, Dt S H v d := by
  obtain ⟨i, hi, e⟩ := List.mem_iff_getElem.mp hv
  obtain ⟨d, ed, hd⟩ := h.get (i := i) (v := v) (by rw [List.getElem?_eq_getElem hi, e])
  exact ⟨d, List.mem_of_getElem? ed, hd⟩
/-- one of a written list is picked -/
theorem pick_menu {j : Nat} {p l : Addr} {tl : TE} {ds : List PyData} {σ : L2.St} {H : Hp} {Q : VK} (e : σ[j]? = some (some (.ref p))) (hp : Hand p l H) (hl : DtE tl (.list ds)) (h0 : 0 < ds.length) (h1 : ds.length ≤ 1000)
    (q : ∀ v d H', d ∈ ds → Dt (New H) H' v d → Kept p H H' → Hand p l H' → Q v H') : tCall spPk [] E0 (tCons (tVar j) (tCons tl tNil)) σ H Q := by
  refine ⟨_, e, hl σ H _ fun v H1 s1 hd => ?_⟩
  cases hd with
  | @lst a xs _ na ea hx =>
    have el := hx.len
    refine ⟨p, l, a, xs, rfl, hp.same s1, ea, hp.nn na, by omega, by omega, fun v H2 hv k h2 => ?_⟩
    obtain ⟨d, hd, hvd⟩ := hx.mem hv
    exact q v d H2 hd (hvd.new_kept hp k) ((Kept.same s1).trans k) h2
/-! ### names, rows -/
def spNm : Sp := fun vs H Q _ => ∃ p l, vs = [.ref p] ∧ Hand p l H ∧ ∀ (n : Int) (H' : Hp), nameI n → Kept p H H' → Hand p l H' → Q (.int n) H'
theorem dt_ints {S : Addr → Prop} {H : Hp} : ∀ acc : List Int, DtAll S H (acc.map V.int) (acc.map PyData.int)
  | [] => .nil
  | x :: xs => .cons (.int x) (dt_ints xs)
/-- labels that may stand in a row -/
def Lab (x : Str) : Prop := labelV (.str x) = true ∧ okS x = true
/-- a row as the law draws it -/
structure RowN (S : Addr → Prop) (H : Hp) (v : V) (xs : List PyData) (r : Rw) : Prop where
  dt : Dt S H v (.tuple xs)
  row : RwL xs r
  hs : ∀ x ∈ xs, ∀ ys, seqD x = some ys → ys.length ≤ 1000
theorem RowN.to {S S' : Addr → Prop} {H H' : Hp} {v : V} {xs : List PyData} {r : Rw} (h : RowN S H v xs r) (hS : ∀ a, S a → S' a) (k : ∀ a o, S a → H a = some o → H' a = some o) : RowN S' H' v xs r := ⟨h.dt.to hS k, h.row, h.hs⟩
def spAny : Sp := fun vs H Q _ => ∃ (p l la : Addr) (L : List Str) (n : Nat), vs = [.ref p, .ref la, .int (n : Int)] ∧ Hand p l H ∧ H la = some (.lst (L.map V.str)) ∧ la ≠ p ∧ 0 < L.length ∧ L.length ≤ 6 ∧ (∀ x ∈ L, Lab x) ∧ n ≤ 2 ∧
  ∀ (v : V) (xs : List PyData) (r : Rw) (H' : Hp), RowN (New H) H' v xs r → Kept p H H' → Hand p l H' → Q v H'
section
variable {P : Program} {w : World} {K : PySem.W.Frag} {mg : Str → Option Value} {base : Heap}
theorem pow30 : (10 : Int) ^ (30 : Int).toNat = 10 ^ 30 := rfl
theorem ok_nm {f fD : Addr} {fd fdD : FuncData} (F : FnP K "_law_name" sName f fd) (dD : Df P w K mg base "_law_draw" 2 ["_law_hand_here", "_law_many"] spDr fD fdD) : FnOk P w K mg base CX0 3 f fd ["_law_hand_here"] spNm := by
  have sc : FnScope ["_law_hand_here", "_law_sort"] ["_law_hand_here"] (defScope sName) := ⟨rfl, rfl, rfl, by decide +kernel, rfl, by decide +kernel, by decide +kernel⟩
  refine F.ok sc (fun vs H Q E h => ?_) (fun cdv A outer s H vs Q E hr2 h => ?_)
  · obtain ⟨p, l, rfl, _⟩ := h
    rfl
  · obtain ⟨p, l, rfl, hp, q⟩ := h
    refine ⟨_, PSs.nox (pss_cons (ps_set (i := 1) sc.nd rfl (.inl rfl) (pe_call dD.ok hr2 (by rfl) dD.gl dD.kp dD.bi .nil pass0 (pa_cons (pv 0) (pa_cons pe_int pa_nil))))
    (pss_cons (ps_if (pt_cmpR op_eq (pv 1) pe_int (nomark _))
      (pss_one (ps_ret (pe_call dD.ok hr2 (by rfl) dD.gl dD.kp dD.bi .nil pass0 (pa_cons (pv 0) (pa_cons (pe_op op_add (pe_op op_pow pe_int pe_int) pe_int) pa_nil)))))
      pss_nil)
    (pss_one (ps_ret (pe_ifExp (pt_cmpR op_eq (pv 1) pe_int (nomark _)) (pe_op op_pow pe_int pe_int) (pe_call dD.ok hr2 (by rfl) dD.gl dD.kp dD.bi .nil pass0 (pa_cons (pv 0) (pa_cons pe_int pa_nil)))))))), ?_⟩
    refine ⟨_, rfl, p, l, 4, rfl, hp, by decide, by decide, fun d H1 d0 d1 k1 h1 => ?_⟩
    refine ⟨_, rfl, rfl, _, rfl, ite2 (fun _ => ?_) (fun _ => ?_)⟩
    · refine ⟨_, rfl, _, _, rfl, rfl, ⟨by decide, by decide, by decide⟩, _, _, rfl, rfl, p, l, _, rfl, h1, by decide, by decide, fun n H2 n0 n1 k2 h2 => ?_⟩
      have n1 : n < 10 ^ 30 + 1 := n1
      exact q n H2 ⟨n0, by omega⟩ (k1.trans k2) h2
    · refine ⟨_, rfl, rfl, _, rfl, ite2 (fun _ => ?_) (fun _ => ?_)⟩
      · exact ⟨_, _, rfl, rfl, ⟨by decide, by decide, by decide⟩, q _ H1 ⟨by decide, Int.le_refl _⟩ k1 h1⟩
      · refine ⟨_, rfl, p, l, 3, rfl, h1, by decide, by decide, fun n H2 n0 n1 k2 h2 => q n H2 ⟨n0, by omega⟩ (k1.trans k2) h2⟩
abbrev kindsD : List PyData := [.str "s", .str "d"]
theorem kinds_menu : DtE (tLst (tCons (tC (.str "s")) (tCons (tC (.str "d")) tNil))) (.list kindsD) := deL (daK (deS (by decide +kernel)) (daK (deS (by decide +kernel)) daN)) (by decide)
theorem kind_mem {d : PyData} (h : d ∈ kindsD) : ∃ k, d = .str k ∧ kindV (.str k) = true := by
  simp only [List.mem_cons, List.not_mem_nil, or_false] at h
  rcases h with rfl | rfl
  · exact ⟨_, rfl, by decide +kernel⟩
  · exact ⟨_, rfl, by decide +kernel⟩
/-- a label is picked -/
theorem pick_lab {j i : Nat} {p l la : Addr} {L : List Str} {σ : L2.St} {H : Hp} {Q : VK} (e : σ[j]? = some (some (.ref p))) (e2 : σ[i]? = some (some (.ref la))) (hp : Hand p l H) (hl : H la = some (.lst (L.map V.str))) (nl : la ≠ p) (h0 : 0 < L.length) (h1 : L.length ≤ 6) (hL : ∀ x ∈ L, Lab x)
    (q : ∀ x H', Lab x → Kept p H H' → Hand p l H' → Q (.str x) H') : tCall spPk [] E0 (tCons (tVar j) (tCons (tVar i) tNil)) σ H Q := by
  refine ⟨_, e, _, e2, p, l, la, _, rfl, hp, hl, nl, by rw [List.length_map]; exact h0, by rw [List.length_map]; omega, fun v H2 hv k h2 => ?_⟩
  obtain ⟨x, hx, rfl⟩ := List.mem_map.mp hv
  exact q x H2 (hL x hx) k h2
theorem ok_any {f fD fP fN : Addr} {fd fdD fdP fdN : FuncData} (F : FnP K "_law_any_row" sAnyRow f fd) (z_range : mg "range" = none) (z_tuple : mg "tuple" = none) (dD : Df P w K mg base "_law_draw" 2 ["_law_hand_here", "_law_many"] spDr fD fdD) (dP : Df P w K mg base "_law_pick" 3 ["_law_hand_here", "_law_things"] spPk fP fdP)
    (dN : Df P w K mg base "_law_name" 3 ["_law_hand_here"] spNm fN fdN) : FnOk P w K mg base CX0 4 f fd ["_law_hand_here", "_law_labels_here", "_law_many"] spAny := by
  have sc : FnScope ["_law_hand_here", "_law_labels_here", "_law_many", "_law_sort", "_law_one", "_law_other", "_law_k"] ["_law_hand_here", "_law_labels_here", "_law_many"] (defScope sAnyRow) := ⟨rfl, rfl, rfl, by decide +kernel, rfl, by decide +kernel, by decide +kernel⟩
  refine F.ok sc (fun vs H Q E h => ?_) (fun cdv A outer s H vs Q E hr3 h => ?_)
  · obtain ⟨p, l, la, L, n, rfl, _⟩ := h
    rfl
  · obtain ⟨p, l, la, L, n, rfl, hp, hl, nl, L0, L1, hL, hn, q⟩ := h
    have hr2 := hr3.mono (show 2 ≤ 3 by decide)
    refine ⟨_, PSs.nox (pss_cons (ps_set (i := 3) sc.nd rfl (.inl rfl) (pe_call dD.ok hr2 (by rfl) dD.gl dD.kp dD.bi .nil pass0 (pa_cons (pv 0) (pa_cons pe_int pa_nil))))
    (pss_cons (ps_par (i := 4) (j := 5) rfl sc.nd rfl rfl (by decide) rfl rfl (pa_cons (pe_call dP.ok hr3 (by rfl) dP.gl dP.kp dP.bi .nil pass0 (pa_cons (pv 0) (pa_cons (pv 1) pa_nil))) (pa_cons (pe_call dP.ok hr3 (by rfl) dP.gl dP.kp dP.bi .nil pass0 (pa_cons (pv 0) (pa_cons (pv 1) pa_nil))) pa_nil)) rfl)
    (pss_cons (ps_if (pt_cmpR op_lt (pv 3) pe_int (nomark _))
      (pss_one (ps_ret (pe_tup (pa_cons pe_str (pa_cons (pv 4) (pa_cons (pe_call dP.ok hr3 (by rfl) dP.gl dP.kp dP.bi .nil pass0 (pa_cons (pv 0) (pa_cons (pe_lst (pa_cons pe_str (pa_cons pe_str pa_nil))) pa_nil))) (pa_cons (pe_call dN.ok hr3 (by rfl) dN.gl dN.kp dN.bi .nil pass0 (pa_cons (pv 0) pa_nil)) (pa_cons (pe_callTy call_tuple_of (by rfl) z_tuple (by decide +kernel) (pa_cons (pe_lc (own := [("_law_k", 6)]) (g := gName 6) (tt := tYes) rfl sc.nd (pi_range1 (by rfl) z_range (pa_cons (pv 2) pa_nil)) (blkOk_by (N := ["_law_hand_here", "_law_labels_here", "_law_many", "_law_sort", "_law_one", "_law_other", "_law_k"]) (sc := defScope sAnyRow) (by decide +kernel)) (fun _ _ _ _ _ => pg_name (i := 6) sc.nd rfl (Or.inl rfl)) (fun _ _ _ _ _ => pts_nil) (fun _ _ _ _ _ => (pe_call dN.ok hr3 (by rfl) dN.gl dN.kp dN.bi .nil pass0 (pa_cons (pv 0) pa_nil)))) pa_nil)) pa_nil))))))))
      pss_nil)
    (pss_cons (ps_if (pt_cmpR op_lt (pv 3) pe_int (nomark _))
      (pss_one (ps_ret (pe_tup (pa_cons pe_str (pa_cons (pv 4) (pa_cons (pv 5) pa_nil))))))
      pss_nil)
    (pss_cons (ps_if (pt_cmpR op_lt (pv 3) pe_int (nomark _))
      (pss_one (ps_ret (pe_tup (pa_cons pe_str (pa_cons (pv 4) (pa_cons (pv 5) (pa_cons (pe_call dP.ok hr3 (by rfl) dP.gl dP.kp dP.bi .nil pass0 (pa_cons (pv 0) (pa_cons (pe_lst (pa_cons pe_str (pa_cons pe_str pa_nil))) pa_nil))) (pa_cons (pe_call dP.ok hr3 (by rfl) dP.gl dP.kp dP.bi .nil pass0 (pa_cons (pv 0) (pa_cons (pv 1) pa_nil))) (pa_cons (pe_call dN.ok hr3 (by rfl) dN.gl dN.kp dN.bi .nil pass0 (pa_cons (pv 0) pa_nil)) pa_nil)))))))))
      pss_nil)
    (pss_one (ps_ret (pe_tup (pa_cons pe_str (pa_cons (pv 4) pa_nil)))))))))), ?_⟩
    have lab : ∀ (σ : L2.St) (H1 : Hp) (Q' : VK), σ[0]? = some (some (.ref p)) → σ[1]? = some (some (.ref la)) → Kept p H H1 → Hand p l H1 → (∀ x H', Lab x → Kept p H H' → Hand p l H' → Q' (.str x) H') → tCall spPk [] E0 (tCons (tVar 0) (tCons (tVar 1) tNil)) σ H1 Q' := fun σ H1 Q' e1 e2 k1 h1 q' =>
      pick_lab e1 e2 h1 (k1 _ _ nl hl) nl L0 L1 hL fun x H' hx k h => q' x H' hx (k1.trans k) h
    refine ⟨_, rfl, p, l, 7, rfl, hp, by decide, by decide, fun d H1 d0 d1 k1 h1 => ?_⟩
    refine lab _ _ _ rfl rfl k1 h1 fun one H2 l1 k2 h2 => ?_
    refine lab _ _ _ rfl rfl k2 h2 fun other H3 l2 k3 h3 => ⟨_, _, rfl, ?_⟩
    have fin : ∀ (H4 : Hp) (vs : List V) (xs : List PyData) (r : Rw), Kept p H H4 → Hand p l H4 → DtAll (New H) H4 vs xs → RwL xs r → (∀ x ∈ xs, ∀ ys, seqD x = some ys → ys.length ≤ 1000) → ∀ u, H4 u = none → Q (.ref u) (upd H4 u (.tup vs)) := fun H4 vs xs r k4 h4 ha hw hs u nu =>
      q _ xs r _ ⟨.tup (h4.back k4 nu) upd_same (ha.same (same_upd nu)), hw, hs⟩ (k4.trans (Kept.same (same_upd nu))) (h4.same (same_upd nu))
    have sc_ : ∀ {x : Str} {H' : Hp}, Lab x → Dt (New H) H' (.str x) (.str x) := fun h => okS_dt h.2
    refine ⟨_, rfl, _, _, rfl, rfl, _, rfl, ite2 (fun _ => ?_) (fun _ => ?_)⟩
    · refine ⟨_, rfl, ?_⟩
      refine pick_menu rfl h3 kinds_menu (by decide) (by decide) fun kv kd H4 hkd hk4 k4 h4 => ?_
      obtain ⟨kk, rfl, hkk⟩ := kind_mem hkd
      have ek := hk4.str_inv
      obtain rfl := ek.1
      refine ⟨_, rfl, p, l, rfl, h4, fun nm H5 hnm k5 h5 => ?_⟩
      have k35 := (k3.trans k4).trans k5
      refine ⟨_, rfl, (n : Int), rfl, by omega, by omega, fun D nD => lc_it walk_range (fun i H' => ∃ acc : List Int, acc.length = i ∧ H' D = some (.lst (acc.map V.int)) ∧ (∀ x ∈ acc, nameI x) ∧ Kept p H H' ∧ Hand p l H') ⟨[], rfl, upd_same, (fun x hx => by cases hx), k35.trans (Kept.same (same_upd nD)), h5.same (same_upd nD)⟩ (fun _ _ _ _ => trivial) ?_ ?_⟩
      · rintro i y H6 H7 hi ⟨acc, hacc, eD, hacc2, k6, h6⟩ ⟨rfl, rfl⟩
        have hi' : i < n := by omega
        refine ⟨rfl, ?_⟩
        refine ⟨_, rfl, p, l, rfl, h6, fun z H8 hz k8 h8 => ?_⟩
        have nDp : D ≠ p := h5.nn nD
        have eD8 := k8 _ _ nDp eD
        refine ⟨_, eD8, by rw [List.length_map, hacc]; exact lt_line (Nat.le_refl _) (by omega), acc ++ [z], by rw [List.length_append, hacc]; rfl, by rw [upd_same, List.map_append]; rfl, fun x hx => (List.mem_append.mp hx).elim (hacc2 x) fun hx => by rw [List.mem_singleton] at hx; rw [hx]; exact hz, ?_, ?_⟩
        · intro b o nb e
          by_cases hb : b = D
          · rw [hb, h5.back k35 nD] at e
            cases e
          · exact (upd_ne hb).trans (k8 _ _ nb (k6 _ _ nb e))
        · exact h8.app nDp (h5.nl nD)
      · rintro H6 ⟨acc, hacc, eD, hacc2, k6, h6⟩
        refine ⟨D, _, rfl, .inl ⟨SqL.of eD, fun ht nt => ⟨(by show 5 ≤ sizeLine; decide), fun u nu => ?_⟩⟩⟩
        have sT := same_upd (o := .tup (acc.map V.int)) nt
        refine fin _ _ [.str "comes", .str one, .str kk, .int nm, .tuple (acc.map PyData.int)] (.comes one kk nm acc) (k6.trans (Kept.same sT)) (h6.same sT) ?_ (.comes l1.1 hkk hnm rfl hacc2) ?_ u nu
        · exact .cons (okS_dt (by decide +kernel)) (.cons (sc_ l1) (.cons (.str _ ek.2.1 ek.2.2) (.cons (.int _) (.cons (.tup (h6.back k6 nt) upd_same (dt_ints acc)) .nil))))
        · intro x hx ys hys
          simp only [List.mem_cons, List.not_mem_nil, or_false] at hx
          rcases hx with rfl | rfl | rfl | rfl | rfl
          · cases hys
          · cases hys
          · cases hys
          · cases hys
          · cases hys
            rw [List.length_map]
            omega
    refine ⟨_, rfl, _, _, rfl, rfl, _, rfl, ite2 (fun _ => ?_) (fun _ => ?_)⟩
    · refine ⟨_, rfl, _, rfl, (by show 3 ≤ sizeLine; decide), fun u nu => ?_⟩
      refine fin _ _ [.str "weds", .str one, .str other] (.weds one other) k3 h3 ?_ (.weds l1.1 l2.1) ?_ u nu
      · exact .cons (okS_dt (by decide +kernel)) (.cons (sc_ l1) (.cons (sc_ l2) .nil))
      · intro x hx ys hys
        simp only [List.mem_cons, List.not_mem_nil, or_false] at hx
        rcases hx with rfl | rfl | rfl <;> cases hys
    refine ⟨_, rfl, _, _, rfl, rfl, _, rfl, ite2 (fun _ => ?_) (fun _ => ?_)⟩
    · refine ⟨_, rfl, _, rfl, ?_⟩
      refine pick_menu rfl h3 kinds_menu (by decide) (by decide) fun kv kd H4 hkd hk4 k4 h4 => ?_
      obtain ⟨kk, rfl, hkk⟩ := kind_mem hkd
      have ek := hk4.str_inv
      obtain rfl := ek.1
      refine lab _ _ _ rfl rfl (k3.trans k4) h4 fun lb H5 l3 k5 h5 => ?_
      refine ⟨_, rfl, p, l, rfl, h5, fun nm H6 hnm k6 h6 => ⟨(by show 6 ≤ sizeLine; decide), fun u nu => ?_⟩⟩
      refine fin _ _ [.str "born", .str one, .str other, .str kk, .str lb, .int nm] (.born one other kk lb nm) (k5.trans k6) h6 ?_ (.born l1.1 l2.1 hkk l3.1 hnm) ?_ u nu
      · exact .cons (okS_dt (by decide +kernel)) (.cons (sc_ l1) (.cons (sc_ l2) (.cons (.str _ ek.2.1 ek.2.2) (.cons (sc_ l3) (.cons (.int _) .nil)))))
      · intro x hx ys hys
        simp only [List.mem_cons, List.not_mem_nil, or_false] at hx
        rcases hx with rfl | rfl | rfl | rfl | rfl | rfl <;> cases hys
    · refine ⟨_, rfl, (by show 2 ≤ sizeLine; decide), fun u nu => ?_⟩
      refine fin _ _ [.str "dies", .str one] (.dies one) k3 h3 ?_ (.dies l1.1) ?_ u nu
      · exact .cons (okS_dt (by decide +kernel)) (.cons (sc_ l1) .nil)
      · intro x hx ys hys
        simp only [List.mem_cons, List.not_mem_nil, or_false] at hx
        rcases hx with rfl | rfl <;> cases hys
end
end K01

/-! rows that fit, rows spoilt -/
namespace K01
open PySem PySem.Spec PyProof.Rows L2
theorem StAt.kept {Z : St} {n : Nat} {H H' : Hp} {s k d m p2 p : Addr} (h : StAt Z n H s k d m p2) (kk : Kept p H H') (np : ∀ b ∈ [s, k, d, m, p2], b ≠ p) (hp : ∃ xs, H p = some (.lst xs)) : StAt Z n H' s k d m p2 :=
  h.to (fun b o hb e => kk _ _ (np b hb) e) fun b xs e => kk _ _ (fun z => by
    obtain ⟨ys, ey⟩ := hp
    rw [z, ey] at e
    cases e) e
def spFit : Sp := fun vs H Q _ => ∃ (p l la : Addr) (L : List Str) (n : Nat) (s k d m p2 : Addr) (Z : St) (N : Nat), vs = [.ref p, .ref s, .ref la, .int (n : Int)] ∧ Hand p l H ∧ H la = some (.lst (L.map V.str)) ∧ la ≠ p ∧ 0 < L.length ∧ L.length ≤ 6 ∧ (∀ x ∈ L, Lab x) ∧ n ≤ 2 ∧ StAt Z N H s k d m p2 ∧ (∀ b ∈ [s, k, d, m, p2], b ≠ p) ∧
  ∀ (v : V) (xs : List PyData) (r : Rw) (H' : Hp), RowN (New H) H' v xs r → Kept p H H' → Hand p l H' → Q v H'
/-- new places are in S, the hand is not -/
structure Sok (S : Addr → Prop) (p : Addr) (H : Hp) : Prop where
  new : ∀ a, H a = none → S a
  np : ¬ S p
theorem Sok.next {S : Addr → Prop} {p l : Addr} {H H' : Hp} (h : Sok S p H) (k : Kept p H H') (hp : Hand p l H') : Sok S p H' := ⟨fun a n => h.new a (hp.back k n), h.np⟩
theorem Sok.same {S : Addr → Prop} {p : Addr} {H H' : Hp} (h : Sok S p H) (s : Same H H') : Sok S p H' := ⟨fun a n => h.new a (none_of s n), h.np⟩
theorem Dt.into {S : Addr → Prop} {p : Addr} {H H' : Hp} {v : V} {d : PyData} (h : Dt (New H) H' v d) (k : Sok S p H) : Dt S H' v d := h.to (fun a n => k.new a n) fun _ _ _ e => e
/-- x in a tuple of tuples -/
def rInT (K : PySem.W.Frag) : R2 := fun x y H Q => ∃ d ds, Dp K H x d ∧ Dp K H y (.tuple ds) ∧ SeqAt.shaped d = true ∧ SeqAt.shaped (.tuple ds) = true ∧ Q (.bl (ds.any fun z => PyData.eqv z d)) H
theorem op_inT {X : Cx} (room : X.A.units + 65 < cLine) : OpR X (compareOp .In) (rInT X.K) := fun pins s σ H x y v u Q I rx ry ⟨d, ds, dx, dy, s1, s2, k⟩ => by
  obtain ⟨al, rdx⟩ := Dp.reads I d x v dx rx
  obtain ⟨bl, rdy⟩ := Dp.reads I (.tuple ds) y u dy ry
  exact SeqAt.in_tuple_reads rdy rdx (SeqAt.canLay_of_shaped s2) (SeqAt.canLay_of_shaped s1) (room_in_shaped s1 room) ⟨.bl _, H, I, rfl, k⟩
/-- a tuple's slice: another tuple, or itself -/
def rSlS (K : PySem.W.Frag) : V → Option Int → Option Int → Hp → VK → Prop := fun x lo hi H Q => ∃ a xs, x = .ref a ∧ H a = some (.tup xs) ∧ ∀ t H', Same H H' → (t = a ∨ H t = none) → H' t = some (.tup (cutV xs lo hi)) → Q (.ref t) H'
theorem cut_whole {xs : List V} {lo hi : Option Int} (h : HT.sIx xs.length 0 lo = 0 ∧ HT.sIx xs.length xs.length hi = xs.length) : cutV xs lo hi = xs := by
  show (xs.drop (HT.sIx xs.length 0 lo)).take (HT.sIx xs.length xs.length hi - HT.sIx xs.length 0 lo) = xs
  rw [h.1, h.2]
  exact List.take_of_length_le (Nat.le_refl _)
theorem sl_tupS {X : Cx} : SlR X (rSlS X.K) := fun pins s σ H x v vl vu lo hi sl Q I rx hs pl pu ⟨a, xs, e, ha, k⟩ =>
  sl_tupA pins s σ H x v vl vu lo hi sl Q I rx hs pl pu ⟨a, xs, e, SqT.of ha, fun w => k a H (Same.refl _) (.inl rfl) (by rw [cut_whole w]; exact ha), fun _ p np => k p _ (same_upd np) (.inr np) upd_same⟩
/-- two tuples, one behind the other -/
def rCatS : R2 := fun x y H Q => ∃ a b xs ys, x = .ref a ∧ y = .ref b ∧ H a = some (.tup xs) ∧ H b = some (.tup ys) ∧ xs.length + ys.length ≤ 1000 ∧ ∀ t H', Same H H' → (t = a ∨ t = b ∨ H t = none) → H' t = some (.tup (xs ++ ys)) → Q (.ref t) H'
theorem op_catS {X : Cx} : OpR X (binaryOp .Add) rCatS := fun pins s σ H x y v u Q I rx ry ⟨a, b, xs, ys, e1, e2, ha, hb, hl, k⟩ =>
  op_catA pins s σ H x y v u Q I rx ry ⟨a, b, xs, ys, e1, e2, SqT.of ha, SqT.of hb, Nat.le_trans hl (by decide), fun z => k b H (Same.refl _) (.inr (.inl rfl)) (by rw [z]; exact hb), fun _ z => k a H (Same.refl _) (.inl rfl) (by rw [z, List.append_nil]; exact ha), fun _ _ p np => k p _ (same_upd np) (.inr (.inr np)) upd_same⟩
/-! ### an item that is wrong in its place -/
def badAt (z : Str) (j : Nat) (d : PyData) : Prop :=
  if z = "comes" ∧ j = 4 then namesD d = false else if (z = "comes" ∧ j = 3) ∨ (z = "born" ∧ j = 5) then nameD d = false else if (z = "comes" ∧ j = 2) ∨ (z = "born" ∧ j = 3) then kindD d = false else labelD d = false
theorem and_f1 {a b : Bool} (h : a = false) : (a && b) = false := by rw [h]; rfl
theorem and_f2 {a b : Bool} (h : b = false) : (a && b) = false := by rw [h, Bool.and_false]
theorem bad_row {xs : List PyData} {r : Rw} {z : Str} {rest : List PyData} {j : Nat} {d : PyData} (h : RwL xs r) (e : xs = .str z :: rest) (h1 : 1 ≤ j) (h2 : j < xs.length) (hb : badAt z j d) : isRowL (xs.set j d) = false := by
  unfold badAt at hb
  cases h with
  | comes hl hk hn he hh =>
    injection e with e1 e2
    injection e1 with e1
    subst e1
    have h2 : j < 5 := h2
    rcases (show j = 1 ∨ j = 2 ∨ j = 3 ∨ j = 4 by omega) with rfl | rfl | rfl | rfl
    · rw [if_neg (by decide), if_neg (by decide), if_neg (by decide)] at hb
      show isRowL (.str "comes" :: _) = false
      rw [row_comes]
      exact and_f1 hb
    · rw [if_neg (by decide), if_neg (by decide), if_pos (by decide)] at hb
      show isRowL (.str "comes" :: _) = false
      rw [row_comes]
      exact and_f2 (and_f1 hb)
    · rw [if_neg (by decide), if_pos (by decide)] at hb
      show isRowL (.str "comes" :: _) = false
      rw [row_comes]
      exact and_f2 (and_f2 (and_f1 hb))
    · rw [if_pos (by decide)] at hb
      show isRowL (.str "comes" :: _) = false
      rw [row_comes]
      exact and_f2 (and_f2 (and_f2 hb))
  | weds hf hm =>
    injection e with e1 e2
    injection e1 with e1
    subst e1
    have h2 : j < 3 := h2
    rcases (show j = 1 ∨ j = 2 by omega) with rfl | rfl
    · rw [if_neg (by decide), if_neg (by decide), if_neg (by decide)] at hb
      show isRowL (.str "weds" :: _) = false
      rw [row_weds]
      exact and_f1 hb
    · rw [if_neg (by decide), if_neg (by decide), if_neg (by decide)] at hb
      show isRowL (.str "weds" :: _) = false
      rw [row_weds]
      exact and_f2 hb
  | born hf hm hk hl hn =>
    injection e with e1 e2
    injection e1 with e1
    subst e1
    have h2 : j < 6 := h2
    rcases (show j = 1 ∨ j = 2 ∨ j = 3 ∨ j = 4 ∨ j = 5 by omega) with rfl | rfl | rfl | rfl | rfl
    · rw [if_neg (by decide), if_neg (by decide), if_neg (by decide)] at hb
      show isRowL (.str "born" :: _) = false
      rw [row_born]
      exact and_f1 (and_f1 hb)
    · rw [if_neg (by decide), if_neg (by decide), if_neg (by decide)] at hb
      show isRowL (.str "born" :: _) = false
      rw [row_born]
      exact and_f1 (and_f2 (and_f1 hb))
    · rw [if_neg (by decide), if_neg (by decide), if_pos (by decide)] at hb
      show isRowL (.str "born" :: _) = false
      rw [row_born]
      exact and_f2 (and_f1 hb)
    · rw [if_neg (by decide), if_neg (by decide), if_neg (by decide)] at hb
      show isRowL (.str "born" :: _) = false
      rw [row_born]
      exact and_f1 (and_f2 (and_f2 hb))
    · rw [if_neg (by decide), if_pos (by decide)] at hb
      show isRowL (.str "born" :: _) = false
      rw [row_born]
      exact and_f2 (and_f2 hb)
  | dies hl =>
    injection e with e1 e2
    injection e1 with e1
    subst e1
    have h2 : j < 2 := h2
    obtain rfl : j = 1 := by omega
    rw [if_neg (by decide), if_neg (by decide), if_neg (by decide)] at hb
    show isRowL (.str "dies" :: _) = false
    rw [row_dies]
    exact hb
/-- short sequences alone -/
def okI (d : PyData) : Bool := match seqD d with
  | some ys => decide (ys.length ≤ 1000)
  | none => true
def okM (d : PyData) : Bool := okI d && decide (d.depth ≤ 3)
theorem okI_at {d : PyData} (h : okI d = true) : ∀ ys, seqD d = some ys → ys.length ≤ 1000 := fun ys e => by
  unfold okI at h
  rw [e] at h
  exact of_decide_eq_true h
abbrev m1D : List PyData := [.none, .str "", .str "ab", .int 0, .tuple [.bool true], .list [.int (-1)], .tuple [.str "1"], .list [.int ((10 : Int) ^ (30 : Int).toNat + 1)]]
abbrev m2D : List PyData := [.bool true, .bool false, .int (-1), .int ((10 : Int) ^ (30 : Int).toNat + 1), .none, .str "1", .tuple [.int 1]]
abbrev m3D : List PyData := [.str "sd", .str "", .str "S", .str "x", .int 0, .none, .list [.str "s"]]
abbrev m4D : List PyData := [.str "", .str "abcdefg", .str "aB", .str "a b", .str "a1", .int 0, .none, .tuple [.str "a"], .bool true]
theorem two_test {K : PySem.W.Frag} {σ : L2.St} {H : Hp} {a : Addr} {ws : List V} {z s1 s2 : Str} {j n1 n2 : Int} {Q : VK} (e1 : σ[1]? = some (some (.ref a))) (e2 : σ[2]? = some (some (.int j))) (ha : H a = some (.tup (.str z :: ws))) (oz : okS z = true) (o1 : okS s1 = true) (o2 : okS s2 = true)
    (q : ∀ H', Same H H' → Q (.bl (decide ((z = s1 ∧ j = n1) ∨ (z = s2 ∧ j = n2)))) H') :
    tOp (rInT K) (tTup (tCons (tOp (rIxT K) (tVar 1) (tC (.int 0))) (tCons (tVar 2) tNil))) (tTup (tCons (tTup (tCons (tC (.str s1)) (tCons (tC (.int n1)) tNil))) (tCons (tTup (tCons (tC (.str s2)) (tCons (tC (.int n2)) tNil))) tNil))) σ H Q := by
  refine ⟨_, e1, a, _, 0, .str z, rfl, rfl, SqT.of ha, atI_nat (j := 0) rfl, _, e2, (by show 2 ≤ sizeLine; decide), fun t nt => ?_⟩
  refine ⟨(by show 2 ≤ sizeLine; decide), fun t1 m1 => ⟨(by show 2 ≤ sizeLine; decide), fun t2 m2 => ⟨(by show 2 ≤ sizeLine; decide), fun t3 m3 => ?_⟩⟩⟩
  have f0 : upd H t (.tup [.str z, .int j]) t = some (.tup [.str z, .int j]) := upd_same
  have s0 := same_upd (o := .tup [V.str z, V.int j]) nt
  generalize upd H t (.tup [.str z, .int j]) = H0 at f0 s0 m1 m2 m3 ⊢
  have f1 : upd H0 t1 (.tup [.str s1, .int n1]) t1 = some (.tup [.str s1, .int n1]) := upd_same
  have g1 := same_upd (o := .tup [V.str s1, V.int n1]) m1
  generalize upd H0 t1 (.tup [.str s1, .int n1]) = H1 at f1 g1 m2 m3 ⊢
  have f2 : upd H1 t2 (.tup [.str s2, .int n2]) t2 = some (.tup [.str s2, .int n2]) := upd_same
  have g2 := same_upd (o := .tup [V.str s2, V.int n2]) m2
  generalize upd H1 t2 (.tup [.str s2, .int n2]) = H2 at f2 g2 m3 ⊢
  have f3 : upd H2 t3 (.tup [.ref t1, .ref t2]) t3 = some (.tup [.ref t1, .ref t2]) := upd_same
  have g3 := same_upd (o := .tup [V.ref t1, V.ref t2]) m3
  generalize upd H2 t3 (.tup [.ref t1, .ref t2]) = H3 at f3 g3 ⊢
  have d1 : Dt Any H3 (.ref t) (.tuple [.str z, .int j]) := .tup trivial (g3 _ _ (g2 _ _ (g1 _ _ f0))) (.cons (okS_dt oz) (.cons (.int j) .nil))
  have d2 : Dt Any H3 (.ref t3) (.tuple [.tuple [.str s1, .int n1], .tuple [.str s2, .int n2]]) := .tup trivial f3 (.cons (.tup trivial (g3 _ _ (g2 _ _ f1)) (.cons (okS_dt o1) (.cons (.int _) .nil))) (.cons (.tup trivial (g3 _ _ f2) (.cons (okS_dt o2) (.cons (.int _) .nil))) .nil))
  refine ⟨_, _, d1.dp, d2.dp, shaped_of d1.lay (show (1 : Nat) ≤ 64 by decide), shaped_of d2.lay (show (2 : Nat) ≤ 64 by decide), ?_⟩
  have e : ([PyData.tuple [.str s1, .int n1], PyData.tuple [.str s2, .int n2]].any fun y => PyData.eqv y (.tuple [.str z, .int j])) = (((s1 == z) && ((n1 == j) && true)) || (((s2 == z) && ((n2 == j) && true)) || false)) := rfl
  have e2 : (((s1 == z) && ((n1 == j) && true)) || (((s2 == z) && ((n2 == j) && true)) || false)) = decide ((z = s1 ∧ j = n1) ∨ (z = s2 ∧ j = n2)) := by
    rw [Bool.eq_iff_iff]
    simp only [Bool.or_eq_true, Bool.and_eq_true, beq_iff_eq, decide_eq_true_eq, Bool.or_false, Bool.and_true]
    exact ⟨fun h => h.elim (fun h => .inl ⟨h.1.symm, h.2.symm⟩) fun h => .inr ⟨h.1.symm, h.2.symm⟩, fun h => h.elim (fun h => .inl ⟨h.1.symm, h.2.symm⟩) fun h => .inr ⟨h.1.symm, h.2.symm⟩⟩
  rw [e, e2]
  exact q H3 (((s0.trans g1).trans g2).trans g3)
theorem all_at {ds : List PyData} {f : PyData → Bool} (h : ds.all f = true) {d : PyData} (hd : d ∈ ds) : f d = true := List.all_eq_true.mp h d hd
theorem nand {a b : Bool} (h : (!a && b) = true) : a = false ∧ b = true := by
  obtain ⟨h1, h2⟩ := Bool.and_eq_true_iff.mp h
  exact ⟨not_t h1, h2⟩
def rowHead (H : Hp) (v : V) (z : Str) : Prop := ∃ a ws, v = .ref a ∧ H a = some (.tup (.str z :: ws))
def spItem : Sp := fun vs H Q _ => ∃ (p l : Addr) (v : V) (z : Str) (j : Nat), vs = [.ref p, v, .int (j : Int)] ∧ Hand p l H ∧ rowHead H v z ∧ okS z = true ∧ ∀ (w : V) (d : PyData) (H' : Hp), Dt (New H) H' w d → badAt z j d → okM d = true → Kept p H H' → Hand p l H' → Q w H'
section
variable {P : Program} {w : World} {K : PySem.W.Frag} {mg : Str → Option Value} {base : Heap}
theorem ok_fit {f fA fW : Addr} {fd fdA fdW : FuncData} (F : FnP K "_law_fitting" sFitting f fd) (z_range : mg "range" = none) (dA : Df P w K mg base "_law_any_row" 4 ["_law_hand_here", "_law_labels_here", "_law_many"] spAny fA fdA) (dW : Df P w K mg base "_law_word" 2 ["_law_state", "_law_width", "_law_row"] spWord fW fdW) :
    FnOk P w K mg base CX0 5 f fd ["_law_hand_here", "_law_state", "_law_labels_here", "_law_width"] spFit := by
  have sc : FnScope ["_law_hand_here", "_law_state", "_law_labels_here", "_law_width", "_law_row", "_law_k"] ["_law_hand_here", "_law_state", "_law_labels_here", "_law_width"] (defScope sFitting) := ⟨rfl, rfl, rfl, by decide +kernel, rfl, by decide +kernel, by decide +kernel⟩
  refine F.ok sc (fun vs H Q E h => ?_) (fun cdv A outer s H vs Q E hr4 h => ?_)
  · obtain ⟨p, l, la, L, n, s, k, d, m, p2, Z, N, rfl, _⟩ := h
    rfl
  · obtain ⟨p, l, la, L, n, s, k, d, m, p2, Z, N, rfl, hp, hl, nl, L0, L1, hL, hn, hZ, hne, q⟩ := h
    have hr2 := hr4.mono (show 2 ≤ 4 by decide)
    refine ⟨_, PSs.nox (pss_cons (ps_set (i := 4) sc.nd rfl (.inl rfl) (pe_call dA.ok hr4 (by rfl) dA.gl dA.kp dA.bi .nil pass0 (pa_cons (pv 0) (pa_cons (pv 2) (pa_cons (pv 3) pa_nil)))))
    (pss_cons (ps_for PassesOwn.never rfl (pi_range1 (by rfl) z_range (pa_cons pe_int pa_nil)) (pg_name (i := 5) sc.nd rfl (.inl rfl))
      (pss_cons (ps_if (pt_cmpR op_isN (pe_call dW.ok hr2 (by rfl) dW.gl dW.kp dW.bi .nil pass0 (pa_cons (pv 1) (pa_cons (pv 3) (pa_cons (pv 4) pa_nil)))) pe_non (nomark _))
        (pss_one (ps_ret (pv 4)))
        pss_nil)
      (pss_one (ps_set (i := 4) sc.nd rfl (.inl rfl) (pe_call dA.ok hr4 (by rfl) dA.gl dA.kp dA.bi .nil pass0 (pa_cons (pv 0) (pa_cons (pv 2) (pa_cons (pv 3) pa_nil))))))))
    (pss_one (ps_ret (pv 4))))), ?_⟩
    refine ⟨_, rfl, _, rfl, _, rfl, p, l, la, L, n, rfl, hp, hl, nl, L0, L1, hL, hn, fun v xs r H1 hv k1 h1 => ?_⟩
    refine ⟨12, rfl, by decide, by decide, for_it walk_range (fun i σ H' => ∃ (v : V) (xs : List PyData) (r : Rw) (x5 : Option V), σ = [some (.ref p), some (.ref s), some (.ref la), some (.int (n : Int)), some v, x5] ∧ RowN (New H) H' v xs r ∧ Kept p H H' ∧ Hand p l H') ⟨v, xs, r, none, rfl, hv, k1, h1⟩ (fun _ _ _ _ _ => trivial) ?_ ?_⟩
    · rintro i y σ H2 H3 hi ⟨v, xs, r, x5, rfl, hv, k2, h2⟩ ⟨rfl, rfl⟩
      refine ⟨_, rfl, _, rfl, _, rfl, s, k, d, m, p2, Z, N, (n : Int), v, _, xs, r, rfl, hZ.kept k2 hne hp.at_, hv.dt.any, rfl, hv.row, fun H4 s4 => ?_⟩
      have hv4 : RowN (New H) H4 v xs r := hv.to (fun _ z => z) fun a o _ e => s4 _ _ e
      have k4 := k2.trans (Kept.same s4)
      have h4 := h2.same s4
      cases jL Z (n : Int) r with
      | none => exact ⟨rfl, _, rfl, iteT ⟨_, rfl, q v xs r H4 hv4 k4 h4⟩⟩
      | some z =>
        refine ⟨rfl, _, rfl, iteF ?_⟩
        refine ⟨_, rfl, _, rfl, _, rfl, p, l, la, L, n, rfl, h4, k4 _ _ nl hl, nl, L0, L1, hL, hn, fun v xs r H5 hv k5 h5 => ?_⟩
        exact ⟨v, xs, r, _, rfl, hv.to (fun a z => h4.back k4 z) (fun a o _ e => e), k4.trans k5, h5⟩
    · rintro σ H2 ⟨v, xs, r, x5, rfl, hv, k2, h2⟩
      exact ⟨_, rfl, q v xs r H2 hv k2 h2⟩
theorem ok_item {f fP : Addr} {fd fdP : FuncData} (F : FnP K "_law_wrong_item" sWrongItem f fd) (dP : Df P w K mg base "_law_pick" 3 ["_law_hand_here", "_law_things"] spPk fP fdP) : FnOk P w K mg base CX0 4 f fd ["_law_hand_here", "_law_row", "_law_place"] spItem := by
  have sc : FnScope ["_law_hand_here", "_law_row", "_law_place"] ["_law_hand_here", "_law_row", "_law_place"] (defScope sWrongItem) := ⟨rfl, rfl, rfl, by decide +kernel, rfl, by decide +kernel, by decide +kernel⟩
  refine F.ok sc (fun vs H Q E h => ?_) (fun cdv A outer s H vs Q E hr3 h => ?_)
  · obtain ⟨p, l, v, z, j, rfl, _⟩ := h
    rfl
  · obtain ⟨p, l, v, z, j, rfl, hp, ⟨a, ws, rfl, ha⟩, oz, q⟩ := h
    have room : (A.deeper (envOfC "_law_wrong_item" (defScope sWrongItem) s.heap.objs.size f cdv)).units + 65 < cLine := by have := hr3.un; omega
    refine ⟨_, PSs.nox (pss_cons (ps_if (PW.pt (pw_and (pt_cmpR op_eq (pe_ix ix_tup (pv 1) pe_int (fun _ _ => rfl)) pe_str (nomark _)) (pw_and1 (pt_cmpR op_eq (pv 2) pe_int (nomark _)))))
      (pss_one (ps_ret (pe_call dP.ok hr3 (by rfl) dP.gl dP.kp dP.bi .nil pass0 (pa_cons (pv 0) (pa_cons (pe_lst (pa_cons pe_non (pa_cons pe_str (pa_cons pe_str (pa_cons pe_int (pa_cons (pe_tup (pa_cons pe_bl pa_nil)) (pa_cons (pe_lst (pa_cons (pe_un un_neg pe_int) pa_nil)) (pa_cons (pe_tup (pa_cons pe_str pa_nil)) (pa_cons (pe_lst (pa_cons (pe_op op_add (pe_op op_pow pe_int pe_int) pe_int) pa_nil)) pa_nil))))))))) pa_nil)))))
      pss_nil)
    (pss_cons (ps_if (pt_cmpR (op_inT room) (pe_tup (pa_cons (pe_ix ix_tup (pv 1) pe_int (fun _ _ => rfl)) (pa_cons (pv 2) pa_nil))) (pe_tup (pa_cons (pe_tup (pa_cons pe_str (pa_cons pe_int pa_nil))) (pa_cons (pe_tup (pa_cons pe_str (pa_cons pe_int pa_nil))) pa_nil))) (by rfl))
      (pss_one (ps_ret (pe_call dP.ok hr3 (by rfl) dP.gl dP.kp dP.bi .nil pass0 (pa_cons (pv 0) (pa_cons (pe_lst (pa_cons pe_bl (pa_cons pe_bl (pa_cons (pe_un un_neg pe_int) (pa_cons (pe_op op_add (pe_op op_pow pe_int pe_int) pe_int) (pa_cons pe_non (pa_cons pe_str (pa_cons (pe_tup (pa_cons pe_int pa_nil)) pa_nil)))))))) pa_nil)))))
      pss_nil)
    (pss_cons (ps_if (pt_cmpR (op_inT room) (pe_tup (pa_cons (pe_ix ix_tup (pv 1) pe_int (fun _ _ => rfl)) (pa_cons (pv 2) pa_nil))) (pe_tup (pa_cons (pe_tup (pa_cons pe_str (pa_cons pe_int pa_nil))) (pa_cons (pe_tup (pa_cons pe_str (pa_cons pe_int pa_nil))) pa_nil))) (by rfl))
      (pss_one (ps_ret (pe_call dP.ok hr3 (by rfl) dP.gl dP.kp dP.bi .nil pass0 (pa_cons (pv 0) (pa_cons (pe_lst (pa_cons pe_str (pa_cons pe_str (pa_cons pe_str (pa_cons pe_str (pa_cons pe_int (pa_cons pe_non (pa_cons (pe_lst (pa_cons pe_str pa_nil)) pa_nil)))))))) pa_nil)))))
      pss_nil)
    (pss_one (ps_ret (pe_call dP.ok hr3 (by rfl) dP.gl dP.kp dP.bi .nil pass0 (pa_cons (pv 0) (pa_cons (pe_lst (pa_cons pe_str (pa_cons pe_str (pa_cons pe_str (pa_cons pe_str (pa_cons pe_str (pa_cons pe_int (pa_cons pe_non (pa_cons (pe_tup (pa_cons pe_str pa_nil)) (pa_cons pe_bl pa_nil)))))))))) pa_nil)))))))), ?_⟩
    have a0 : atI (.str z :: ws) 0 = some (.str z) := atI_nat (j := 0) rfl
    unfold badAt at q
    have b1 : m1D.all (fun d => !namesD d && okM d) = true := by decide +kernel
    have b2 : m2D.all (fun d => !nameD d && okM d) = true := by decide +kernel
    have b3 : m3D.all (fun d => !kindD d && okM d) = true := by decide +kernel
    have b4 : m4D.all (fun d => !labelD d && okM d) = true := by decide +kernel
    by_cases c1 : z = "comes" ∧ j = 4
    · replace q : ∀ (w : V) (d : PyData) (H' : Hp), Dt (New H) H' w d → namesD d = false → okM d = true → Kept p H H' → Hand p l H' → Q w H' := fun w d H' h hb => q w d H' h (by rw [if_pos c1]; exact hb)
      obtain ⟨rfl, rfl⟩ := c1
      refine ⟨_, rfl, _, _, _, _, rfl, rfl, SqT.of ha, a0, rfl, _, rfl, iteT ⟨_, rfl, rfl, _, rfl, iteT ?_⟩⟩
      refine pick_menu rfl hp (deL (ds := m1D) (daK deN (daK (deS (by decide +kernel)) (daK (deS (by decide +kernel)) (daK deI (daK (deT (daK deB daN) (by decide)) (daK (deL (daK deU daN) (by decide)) (daK (deT (daK (deS (by decide +kernel)) daN) (by decide)) (daK (deL (daK (dePA ⟨by decide, by decide, by decide⟩) daN) (by decide)) daN)))))))) (by decide)) (by decide) (by decide) fun v d H2 hd hv k2 h2 => ?_
      obtain ⟨e1, e2⟩ := nand (all_at b1 hd)
      exact q v d H2 hv e1 e2 k2 h2
    have tail : ∀ (H1 : Hp), Same H H1 → ∀ (w : V) (d : PyData) (H2 : Hp), Dt (New H1) H2 w d → (if (z = "comes" ∧ j = 3) ∨ (z = "born" ∧ j = 5) then nameD d = false else if (z = "comes" ∧ j = 2) ∨ (z = "born" ∧ j = 3) then kindD d = false else labelD d = false) → okM d = true → Kept p H1 H2 → Hand p l H2 → Q w H2 := fun H1 s1 w d H2 hd hb ho k2 h2 => q w d H2 (hd.from s1) (by rw [if_neg c1]; exact hb) ho ((Kept.same s1).trans k2) h2
    by_cases g : z = "comes"
    · refine ⟨_, rfl, _, _, _, _, rfl, rfl, SqT.of ha, a0, rfl, _, rfl, ite2 (fun _ => ⟨_, rfl, rfl, _, rfl, ite2 (fun g2 => absurd ⟨g, by have := V.int.inj (of_decide_eq_true g2); omega⟩ c1) (fun _ => ?_)⟩) (fun w => absurd (decide_eq_true (by rw [g])) w)⟩
      refine two_test rfl rfl ha oz (by decide +kernel) (by decide +kernel) fun H1 s1 => ⟨_, rfl, ite2 (fun g2 => ?_) (fun g2 => ?_)⟩
      · have c2 : (z = "comes" ∧ j = 3) ∨ (z = "born" ∧ j = 5) := (of_decide_eq_true g2).elim (fun w => .inl ⟨w.1, by have := w.2; omega⟩) fun w => .inr ⟨w.1, by have := w.2; omega⟩
        refine pick_menu rfl (hp.same s1) (deL (ds := m2D) (daK deB (daK deB (daK deU (daK (dePA ⟨by decide, by decide, by decide⟩) (daK deN (daK (deS (by decide +kernel)) (daK (deT (daK deI daN) (by decide)) daN))))))) (by decide)) (by decide) (by decide) fun v d H2 hd hv k2 h2 => ?_
        obtain ⟨e1, e2⟩ := nand (all_at b2 hd)
        exact tail H1 s1 v d H2 hv (by rw [if_pos c2]; exact e1) e2 k2 h2
      have c2 : ¬ ((z = "comes" ∧ j = 3) ∨ (z = "born" ∧ j = 5)) := fun w => g2 (decide_eq_true (w.elim (fun w => .inl ⟨w.1, by rw [w.2]; rfl⟩) fun w => .inr ⟨w.1, by rw [w.2]; rfl⟩))
      refine two_test rfl rfl (s1 _ _ ha) oz (by decide +kernel) (by decide +kernel) fun H3 s3 => ⟨_, rfl, ite2 (fun g3 => ?_) (fun g3 => ?_)⟩
      · have c3 : (z = "comes" ∧ j = 2) ∨ (z = "born" ∧ j = 3) := (of_decide_eq_true g3).elim (fun w => .inl ⟨w.1, by have := w.2; omega⟩) fun w => .inr ⟨w.1, by have := w.2; omega⟩
        refine pick_menu rfl (hp.same (s1.trans s3)) (deL (ds := m3D) (daK (deS (by decide +kernel)) (daK (deS (by decide +kernel)) (daK (deS (by decide +kernel)) (daK (deS (by decide +kernel)) (daK deI (daK deN (daK (deL (daK (deS (by decide +kernel)) daN) (by decide)) daN))))))) (by decide)) (by decide) (by decide) fun v d H2 hd hv k2 h2 => ?_
        obtain ⟨e1, e2⟩ := nand (all_at b3 hd)
        exact tail H3 (s1.trans s3) v d H2 hv (by rw [if_neg c2, if_pos c3]; exact e1) e2 k2 h2
      have c3 : ¬ ((z = "comes" ∧ j = 2) ∨ (z = "born" ∧ j = 3)) := fun w => g3 (decide_eq_true (w.elim (fun w => .inl ⟨w.1, by rw [w.2]; rfl⟩) fun w => .inr ⟨w.1, by rw [w.2]; rfl⟩))
      refine pick_menu rfl (hp.same (s1.trans s3)) (deL (ds := m4D) (daK (deS (by decide +kernel)) (daK (deS (by decide +kernel)) (daK (deS (by decide +kernel)) (daK (deS (by decide +kernel)) (daK (deS (by decide +kernel)) (daK deI (daK deN (daK (deT (daK (deS (by decide +kernel)) daN) (by decide)) (daK deB daN))))))))) (by decide)) (by decide) (by decide) fun v d H2 hd hv k2 h2 => ?_
      obtain ⟨e1, e2⟩ := nand (all_at b4 hd)
      exact tail H3 (s1.trans s3) v d H2 hv (by rw [if_neg c2, if_neg c3]; exact e1) e2 k2 h2
    · refine ⟨_, rfl, _, _, _, _, rfl, rfl, SqT.of ha, a0, rfl, _, rfl, ite2 (fun g2 => absurd (V.str.inj (of_decide_eq_true g2)) g) (fun _ => ?_)⟩
      refine two_test rfl rfl ha oz (by decide +kernel) (by decide +kernel) fun H1 s1 => ⟨_, rfl, ite2 (fun g2 => ?_) (fun g2 => ?_)⟩
      · have c2 : (z = "comes" ∧ j = 3) ∨ (z = "born" ∧ j = 5) := (of_decide_eq_true g2).elim (fun w => .inl ⟨w.1, by have := w.2; omega⟩) fun w => .inr ⟨w.1, by have := w.2; omega⟩
        refine pick_menu rfl (hp.same s1) (deL (ds := m2D) (daK deB (daK deB (daK deU (daK (dePA ⟨by decide, by decide, by decide⟩) (daK deN (daK (deS (by decide +kernel)) (daK (deT (daK deI daN) (by decide)) daN))))))) (by decide)) (by decide) (by decide) fun v d H2 hd hv k2 h2 => ?_
        obtain ⟨e1, e2⟩ := nand (all_at b2 hd)
        exact tail H1 s1 v d H2 hv (by rw [if_pos c2]; exact e1) e2 k2 h2
      have c2 : ¬ ((z = "comes" ∧ j = 3) ∨ (z = "born" ∧ j = 5)) := fun w => g2 (decide_eq_true (w.elim (fun w => .inl ⟨w.1, by rw [w.2]; rfl⟩) fun w => .inr ⟨w.1, by rw [w.2]; rfl⟩))
      refine two_test rfl rfl (s1 _ _ ha) oz (by decide +kernel) (by decide +kernel) fun H3 s3 => ⟨_, rfl, ite2 (fun g3 => ?_) (fun g3 => ?_)⟩
      · have c3 : (z = "comes" ∧ j = 2) ∨ (z = "born" ∧ j = 3) := (of_decide_eq_true g3).elim (fun w => .inl ⟨w.1, by have := w.2; omega⟩) fun w => .inr ⟨w.1, by have := w.2; omega⟩
        refine pick_menu rfl (hp.same (s1.trans s3)) (deL (ds := m3D) (daK (deS (by decide +kernel)) (daK (deS (by decide +kernel)) (daK (deS (by decide +kernel)) (daK (deS (by decide +kernel)) (daK deI (daK deN (daK (deL (daK (deS (by decide +kernel)) daN) (by decide)) daN))))))) (by decide)) (by decide) (by decide) fun v d H2 hd hv k2 h2 => ?_
        obtain ⟨e1, e2⟩ := nand (all_at b3 hd)
        exact tail H3 (s1.trans s3) v d H2 hv (by rw [if_neg c2, if_pos c3]; exact e1) e2 k2 h2
      have c3 : ¬ ((z = "comes" ∧ j = 2) ∨ (z = "born" ∧ j = 3)) := fun w => g3 (decide_eq_true (w.elim (fun w => .inl ⟨w.1, by rw [w.2]; rfl⟩) fun w => .inr ⟨w.1, by rw [w.2]; rfl⟩))
      refine pick_menu rfl (hp.same (s1.trans s3)) (deL (ds := m4D) (daK (deS (by decide +kernel)) (daK (deS (by decide +kernel)) (daK (deS (by decide +kernel)) (daK (deS (by decide +kernel)) (daK (deS (by decide +kernel)) (daK deI (daK deN (daK (deT (daK (deS (by decide +kernel)) daN) (by decide)) (daK deB daN))))))))) (by decide)) (by decide) (by decide) fun v d H2 hd hv k2 h2 => ?_
      obtain ⟨e1, e2⟩ := nand (all_at b4 hd)
      exact tail H3 (s1.trans s3) v d H2 hv (by rw [if_neg c2, if_neg c3]; exact e1) e2 k2 h2
end
end K01

/-! a row is spoilt -/
namespace K01
open PySem PySem.Spec PyProof.Rows L2
/-- fit to be handed as a row: nothing long or deep in it, its first item is no sequence -/
def okR (d : PyData) : Bool := (match seqD d with
  | none => true
  | some xs => decide (xs.length ≤ 1000) && (xs.all okI && (match xs with
    | [] => true
    | x :: _ => (seqD x).isNone))) && decide (d.depth ≤ 8)
theorem okR_ok {d : PyData} (h : okR d = true) : okD d := fun xs e => by
  unfold okR at h
  rw [e] at h
  obtain ⟨h, _⟩ := Bool.and_eq_true_iff.mp h
  obtain ⟨h1, h⟩ := Bool.and_eq_true_iff.mp h
  obtain ⟨h2, _⟩ := Bool.and_eq_true_iff.mp h
  exact ⟨of_decide_eq_true h1, fun x hx => okI_at (List.all_eq_true.mp h2 x hx)⟩
theorem okR_head {d x : PyData} {xs : List PyData} (h : okR d = true) (e : seqD d = some (x :: xs)) : seqD x = none := by
  unfold okR at h
  rw [e] at h
  obtain ⟨h, _⟩ := Bool.and_eq_true_iff.mp h
  obtain ⟨_, h⟩ := Bool.and_eq_true_iff.mp h
  obtain ⟨_, h⟩ := Bool.and_eq_true_iff.mp h
  exact Option.isNone_iff_eq_none.mp h
theorem okR_depth {d : PyData} (h : okR d = true) : d.depth ≤ 8 := by
  unfold okR at h
  exact of_decide_eq_true (Bool.and_eq_true_iff.mp h).2
theorem depth_le : ∀ {xs : List PyData} {n : Nat}, PyData.depthAll xs ≤ n ↔ ∀ x ∈ xs, x.depth ≤ n
  | [], n => ⟨(fun _ x h => by cases h), fun _ => Nat.zero_le _⟩
  | x :: xs, n => by
    have ih := depth_le (xs := xs) (n := n)
    show max x.depth (PyData.depthAll xs) ≤ n ↔ _
    refine ⟨fun h y hy => ?_, fun h => Nat.max_le.mpr ⟨h x List.mem_cons_self, ih.mpr fun y hy => h y (List.mem_cons_of_mem _ hy)⟩⟩
    rcases List.mem_cons.mp hy with rfl | hy
    · exact Nat.le_trans (Nat.le_max_left _ _) h
    · exact ih.mp (Nat.le_trans (Nat.le_max_right _ _) h) y hy
theorem okR_of {d : PyData} {xs : List PyData} (e : seqD d = some xs) (hd : d.depth = PyData.depthAll xs + 1) (h1 : xs.length ≤ 1000) (h2 : ∀ x ∈ xs, okM x = true) (h3 : ∀ x, xs.head? = some x → seqD x = none) : okR d = true := by
  unfold okR
  rw [e, hd]
  have h4 : PyData.depthAll xs ≤ 3 := depth_le.mpr fun x hx => of_decide_eq_true (Bool.and_eq_true_iff.mp (h2 x hx)).2
  refine Bool.and_eq_true_iff.mpr ⟨Bool.and_eq_true_iff.mpr ⟨decide_eq_true h1, Bool.and_eq_true_iff.mpr ⟨List.all_eq_true.mpr fun x hx => (Bool.and_eq_true_iff.mp (h2 x hx)).1, ?_⟩⟩, decide_eq_true (by omega)⟩
  cases xs with
  | nil => rfl
  | cons x xs => exact Option.isNone_iff_eq_none.mpr (h3 x rfl)
theorem ints_depth : ∀ hs : List Int, PyData.depthAll (hs.map PyData.int) = 0
  | [] => rfl
  | x :: hs => by
    show max 0 (PyData.depthAll (hs.map PyData.int)) = 0
    rw [ints_depth hs]
    rfl
theorem seq_depth {e : PyData} {ds : List PyData} (h : seqD e = some ds) : e.depth = PyData.depthAll ds + 1 := by
  cases e <;> cases h <;> rfl
theorem RwL.okM {xs : List PyData} {r : Rw} (h : RwL xs r) (hs : ∀ x ∈ xs, ∀ ys, seqD x = some ys → ys.length ≤ 1000) : ∀ x ∈ xs, okM x = true := fun x hx => by
  have o : okI x = true := by
    unfold okI
    cases e : seqD x with
    | none => rfl
    | some ys => exact decide_eq_true (hs x hx ys e)
  refine Bool.and_eq_true_iff.mpr ⟨o, decide_eq_true ?_⟩
  cases h with
  | comes hl hk hn he hh =>
    simp only [List.mem_cons, List.not_mem_nil, or_false] at hx
    rcases hx with rfl | rfl | rfl | rfl | rfl
    · exact (by decide : (0 : Nat) ≤ 3)
    · exact (by decide : (0 : Nat) ≤ 3)
    · exact (by decide : (0 : Nat) ≤ 3)
    · exact (by decide : (0 : Nat) ≤ 3)
    · rw [seq_depth he, ints_depth]
      decide
  | weds hf hm =>
    simp only [List.mem_cons, List.not_mem_nil, or_false] at hx
    rcases hx with rfl | rfl | rfl <;> exact (by decide : (0 : Nat) ≤ 3)
  | born hf hm hk hl hn =>
    simp only [List.mem_cons, List.not_mem_nil, or_false] at hx
    rcases hx with rfl | rfl | rfl | rfl | rfl | rfl <;> exact (by decide : (0 : Nat) ≤ 3)
  | dies hl =>
    simp only [List.mem_cons, List.not_mem_nil, or_false] at hx
    rcases hx with rfl | rfl <;> exact (by decide : (0 : Nat) ≤ 3)
theorem RwL.word {xs : List PyData} {r : Rw} (h : RwL xs r) : ∃ (z : Str) (rest : List PyData), xs = .str z :: rest ∧ okS z = true ∧ 1 ≤ rest.length ∧ xs.length ≤ 6 := by
  cases h with
  | comes => exact ⟨_, _, rfl, by decide +kernel, (by show 1 ≤ 4; decide), (by show 5 ≤ 6; decide)⟩
  | weds => exact ⟨_, _, rfl, by decide +kernel, (by show 1 ≤ 2; decide), (by show 3 ≤ 6; decide)⟩
  | born => exact ⟨_, _, rfl, by decide +kernel, (by show 1 ≤ 5; decide), (by show 6 ≤ 6; decide)⟩
  | dies => exact ⟨_, _, rfl, by decide +kernel, (by show 1 ≤ 1; decide), (by show 2 ≤ 6; decide)⟩
theorem cut_row {xs : List PyData} {r : Rw} (h : RwL xs r) : isRowL (xs.take (xs.length - 1)) = false := by
  cases h with
  | comes => exact row_comes_no (r := [_, _, _]) (show (3 : Nat) ≠ 4 by decide)
  | weds => exact row_weds_no (r := [_]) (show (1 : Nat) ≠ 2 by decide)
  | born => exact row_born_no (r := [_, _, _, _]) (show (4 : Nat) ≠ 5 by decide)
  | dies => exact row_dies_no (r := []) (by decide)
theorem more_row {xs : List PyData} {r : Rw} {d : PyData} (h : RwL xs r) : isRowL (xs ++ [d]) = false := by
  cases h with
  | comes => exact row_comes_no (r := [_, _, _, _, d]) (show (5 : Nat) ≠ 4 by decide)
  | weds => exact row_weds_no (r := [_, _, d]) (show (3 : Nat) ≠ 2 by decide)
  | born => exact row_born_no (r := [_, _, _, _, _, d]) (show (6 : Nat) ≠ 5 by decide)
  | dies => exact row_dies_no (r := [_, d]) (show (2 : Nat) ≠ 1 by decide)
abbrev m0D : List PyData := [.none, .int 5, .str "comes", .tuple [], .list [], .tuple [.str "comes"], .tuple [.int 1, .int 2], .tuple [.none], .tuple [.str ""], .str "dies a", .bool true]
abbrev m5D : List PyData := [.int 0, .str "a", .none]
abbrev m6D : List PyData := [.str "", .str "come", .str "dead", .str "Born", .str "wed", .str "comes ", .int 4, .none]
def firstBad : PyData → Bool
  | .str z => decide (z ≠ "comes") && (decide (z ≠ "weds") && (decide (z ≠ "born") && decide (z ≠ "dies")))
  | .int _ => true
  | .none => true
  | _ => false
theorem first_row {d : PyData} (h : firstBad d = true) (rest : List PyData) : isRowL (d :: rest) = false ∧ seqD d = none ∧ okM d = true := by
  cases d with
  | str z =>
    obtain ⟨h1, h⟩ := Bool.and_eq_true_iff.mp h
    obtain ⟨h2, h⟩ := Bool.and_eq_true_iff.mp h
    obtain ⟨h3, h4⟩ := Bool.and_eq_true_iff.mp h
    exact ⟨row_other (of_decide_eq_true h1) (of_decide_eq_true h2) (of_decide_eq_true h3) (of_decide_eq_true h4), rfl, rfl⟩
  | int i => exact ⟨rfl, rfl, rfl⟩
  | none => exact ⟨rfl, rfl, rfl⟩
  | _ => cases h
theorem cut_last (vs : List V) : cutV vs none (some (-1)) = vs.take (vs.length - 1) := by
  show (vs.drop 0).take ((-1 + (vs.length : Int)).toNat - 0) = _
  rw [List.drop_zero]
  congr 1
  omega
theorem cut_to (vs : List V) (k : Nat) (h : k ≤ vs.length) : cutV vs none (some (k : Int)) = vs.take k := by
  show (vs.drop 0).take (HT.sIx vs.length vs.length (some (k : Int)) - 0) = _
  rw [List.drop_zero, HT.sIx_nat, Nat.min_eq_left h]
  rfl
theorem cut_from (vs : List V) (k : Nat) (h : k ≤ vs.length) : cutV vs (some (k : Int)) none = vs.drop k := by
  show (vs.drop (HT.sIx vs.length 0 (some (k : Int)))).take (vs.length - HT.sIx vs.length 0 (some (k : Int))) = _
  rw [HT.sIx_nat, Nat.min_eq_left h]
  exact List.take_of_length_le (by rw [List.length_drop]; exact Nat.le_refl _)
theorem set_parts {α : Type} {xs : List α} {j : Nat} {d : α} (h : j < xs.length) : xs.set j d = xs.take j ++ [d] ++ xs.drop (j + 1) := by
  rw [List.set_eq_take_append_cons_drop, if_pos h, List.append_assoc]
  rfl
def spSpoil : Sp := fun vs H Q _ => ∃ (p l : Addr) (S : Addr → Prop) (v : V) (xs : List PyData) (r : Rw), vs = [.ref p, v] ∧ Hand p l H ∧ Sok S p H ∧ RowN S H v xs r ∧
  ∀ (w : V) (d : PyData) (H' : Hp), Dt S H' w d → isRowD d = false → okR d = true → Kept p H H' → Hand p l H' → Q w H'
section
variable {P : Program} {w : World} {K : PySem.W.Frag} {mg : Str → Option Value} {base : Heap}
theorem ok_spoil {f fD fP fI : Addr} {fd fdD fdP fdI : FuncData} (F : FnP K "_law_spoilt" sSpoilt f fd) (z_len : mg "len" = none) (dD : Df P w K mg base "_law_draw" 2 ["_law_hand_here", "_law_many"] spDr fD fdD) (dP : Df P w K mg base "_law_pick" 3 ["_law_hand_here", "_law_things"] spPk fP fdP)
    (dI : Df P w K mg base "_law_wrong_item" 4 ["_law_hand_here", "_law_row", "_law_place"] spItem fI fdI) : FnOk P w K mg base CX0 5 f fd ["_law_hand_here", "_law_row"] spSpoil := by
  have sc : FnScope ["_law_hand_here", "_law_row", "_law_sort", "_law_place"] ["_law_hand_here", "_law_row"] (defScope sSpoilt) := ⟨rfl, rfl, rfl, by decide +kernel, rfl, by decide +kernel, by decide +kernel⟩
  refine F.ok sc (fun vs H Q E h => ?_) (fun cdv A outer s H vs Q E hr4 h => ?_)
  · obtain ⟨p, l, S, v, xs, r, rfl, _⟩ := h
    rfl
  · obtain ⟨p, l, S, v, xs, r, rfl, hp, hS, hv, q⟩ := h
    have hr2 := hr4.mono (show 2 ≤ 4 by decide)
    have hr3 := hr4.mono (show 3 ≤ 4 by decide)
    refine ⟨_, PSs.nox (pss_cons (ps_set (i := 2) sc.nd rfl (.inl rfl) (pe_call dD.ok hr2 (by rfl) dD.gl dD.kp dD.bi .nil pass0 (pa_cons (pv 0) (pa_cons pe_int pa_nil))))
    (pss_cons (ps_if (pt_cmpR op_eq (pv 2) pe_int (nomark _))
      (pss_one (ps_ret (pe_call dP.ok hr3 (by rfl) dP.gl dP.kp dP.bi .nil pass0 (pa_cons (pv 0) (pa_cons (pe_lst (pa_cons pe_non (pa_cons pe_int (pa_cons pe_str (pa_cons (pe_tup pa_nil) (pa_cons (pe_lst pa_nil) (pa_cons (pe_tup (pa_cons pe_str pa_nil)) (pa_cons (pe_tup (pa_cons pe_int (pa_cons pe_int pa_nil))) (pa_cons (pe_tup (pa_cons pe_non pa_nil)) (pa_cons (pe_tup (pa_cons pe_str pa_nil)) (pa_cons pe_str (pa_cons pe_bl pa_nil)))))))))))) pa_nil)))))
      pss_nil)
    (pss_cons (ps_if (pt_cmpR op_eq (pv 2) pe_int (nomark _))
      (pss_one (ps_ret (pe_slice sl_tupS (pv 1) po_none (po_some (pe_un un_neg pe_int)))))
      pss_nil)
    (pss_cons (ps_if (pt_cmpR op_eq (pv 2) pe_int (nomark _))
      (pss_one (ps_ret (pe_op op_catS (pv 1) (pe_tup (pa_cons (pe_call dP.ok hr3 (by rfl) dP.gl dP.kp dP.bi .nil pass0 (pa_cons (pv 0) (pa_cons (pe_lst (pa_cons pe_int (pa_cons pe_str (pa_cons pe_non pa_nil)))) pa_nil))) pa_nil)))))
      pss_nil)
    (pss_cons (ps_if (pt_cmpR op_eq (pv 2) pe_int (nomark _))
      (pss_one (ps_ret (pe_op op_catS (pe_tup (pa_cons (pe_call dP.ok hr3 (by rfl) dP.gl dP.kp dP.bi .nil pass0 (pa_cons (pv 0) (pa_cons (pe_lst (pa_cons pe_str (pa_cons pe_str (pa_cons pe_str (pa_cons pe_str (pa_cons pe_str (pa_cons pe_str (pa_cons pe_int (pa_cons pe_non pa_nil))))))))) pa_nil))) pa_nil)) (pe_slice sl_tupS (pv 1) (po_some pe_int) po_none))))
      pss_nil)
    (pss_cons (ps_set (i := 3) sc.nd rfl (.inl rfl) (pe_op op_add pe_int (pe_call dD.ok hr2 (by rfl) dD.gl dD.kp dD.bi .nil pass0 (pa_cons (pv 0) (pa_cons (pe_op op_sub (pe_callB call_len_seq (by rfl) z_len boot_len (pa_cons (pv 1) pa_nil)) pe_int) pa_nil)))))
    (pss_one (ps_ret (pe_op op_catS (pe_op op_catS (pe_slice sl_tupS (pv 1) po_none (po_some (pv 3))) (pe_tup (pa_cons (pe_call dI.ok hr4 (by rfl) dI.gl dI.kp dI.bi .nil pass0 (pa_cons (pv 0) (pa_cons (pv 1) (pa_cons (pv 3) pa_nil)))) pa_nil))) (pe_slice sl_tupS (pv 1) (po_some (pe_op op_add (pv 3) pe_int)) po_none)))))))))), ?_⟩
    obtain ⟨dt, row, hs⟩ := hv
    cases dt with
    | @tup a vs _ sa ha hvs =>
    have el := hvs.len
    have okm := row.okM hs
    obtain ⟨z, rest, exs, oz, r1, r2⟩ := row.word
    have hlen : xs.length = rest.length + 1 := by rw [exs]; rfl
    refine ⟨_, rfl, p, l, 8, rfl, hp, by decide, by decide, fun d0 H1 d00 d01 k1 h1 => ?_⟩
    have na : a ≠ p := fun y => hS.np (y ▸ sa)
    have ha1 := k1 _ _ na ha
    have hvs1 := hvs.kept hS.np k1
    have hS1 := hS.next k1 h1
    refine ⟨_, rfl, rfl, _, rfl, ite2 (fun _ => ?_) (fun _ => ?_)⟩
    · have b : m0D.all (fun d => !isRowD d && okR d) = true := by decide +kernel
      refine pick_menu rfl h1 (deL (ds := m0D) (daK deN (daK deI (daK (deS (by decide +kernel)) (daK (deT daN (by decide)) (daK (deL daN (by decide)) (daK (deT (daK (deS (by decide +kernel)) daN) (by decide)) (daK (deT (daK deI (daK deI daN)) (by decide)) (daK (deT (daK deN daN) (by decide)) (daK (deT (daK (deS (by decide +kernel)) daN) (by decide)) (daK (deS (by decide +kernel)) (daK deB daN))))))))))) (by decide)) (by decide) (by decide) fun v d H2 hd hv k2 h2 => ?_
      obtain ⟨e1, e2⟩ := nand (all_at b hd)
      exact q v d H2 (hv.into hS1) e1 e2 (k1.trans k2) h2
    have fin : ∀ (ys : List PyData), isRowL ys = false → (∀ x ∈ ys, okM x = true) → ys.length ≤ 1000 → (∀ x, ys.head? = some x → seqD x = none) → ∀ (H2 : Hp) (t : Addr) (us : List V), S t → H2 t = some (.tup us) → DtAll S H2 us ys → Kept p H H2 → Hand p l H2 → Q (.ref t) H2 := fun ys e1 e2 e3 e4 H2 t us st et hu k h =>
      q _ (.tuple ys) H2 (.tup st et hu) e1 (okR_of rfl rfl e3 e2 e4) k h
    have head : ∀ (ys : List PyData), ∀ x, (PyData.str z :: ys).head? = some x → seqD x = none := fun ys x e => by cases e; rfl
    have nxt : ∀ {x : PyData}, x ∈ xs → okM x = true := fun hx => okm _ hx
    -- row[:-1]
    refine ⟨_, rfl, rfl, _, rfl, ite2 (fun _ => ?_) (fun _ => ?_)⟩
    · refine ⟨_, rfl, _, rfl, _, rfl, a, vs, rfl, ha1, fun t H2 s2 ho et => ?_⟩
      rw [cut_last, el] at et
      refine fin (xs.take (xs.length - 1)) (cut_row row) (fun x hx => okm x (List.mem_of_mem_take hx)) (by rw [List.length_take]; omega) ?_ H2 t _ (ho.elim (fun y => y ▸ sa) fun y => hS1.new _ y) et ((hvs1.same s2).take _) (k1.trans (Kept.same s2)) (h1.same s2)
      intro x ex
      have e9 : xs.take (xs.length - 1) = .str z :: rest.take (rest.length - 1) := by
        rw [hlen, exs, show rest.length + 1 - 1 = (rest.length - 1) + 1 by omega, List.take_succ_cons]
      rw [e9] at ex
      exact head _ x ex
    -- row + (x,)
    refine ⟨_, rfl, rfl, _, rfl, ite2 (fun _ => ?_) (fun _ => ?_)⟩
    · refine ⟨_, rfl, ?_⟩
      refine pick_menu rfl h1 (deL (ds := m5D) (daK deI (daK (deS (by decide +kernel)) (daK deN daN))) (by decide)) (by decide) (by decide) fun w d H2 hd hw k2 h2 => ⟨(by show 1 ≤ sizeLine; decide), fun t nt => ?_⟩
      have sT := same_upd (o := .tup [w]) nt
      have ha2 := sT _ _ (k2 _ _ na ha1)
      refine ⟨a, t, vs, [w], rfl, rfl, ha2, upd_same, by rw [el]; show xs.length + 1 ≤ 1000; omega, fun u H3 s3 ho eu => ?_⟩
      have kk := ((k1.trans k2).trans (Kept.same sT)).trans (Kept.same s3)
      have hh := (h2.same sT).same s3
      have om : okM d = true := by
        have b : m5D.all okM = true := by decide +kernel
        exact all_at b hd
      refine fin (xs ++ [d]) (more_row row) (fun x hx => (List.mem_append.mp hx).elim (okm x) fun hx => by rw [List.mem_singleton] at hx; rw [hx]; exact om) (by rw [List.length_append]; show xs.length + 1 ≤ 1000; omega) (by rw [exs]; exact head _) H3 u _ ?_ eu ?_ kk hh
      · rcases ho with y | y | y
        · exact y ▸ sa
        · exact y ▸ (hS1.next k2 h2).new _ nt
        · exact ((hS1.next k2 h2).same sT).new _ y
      · exact (((hvs1.kept hS.np k2).same sT).same s3).app (.cons (((hw.into hS1).same sT).same s3) .nil)
    -- (x,) + row[1:]
    refine ⟨_, rfl, rfl, _, rfl, ite2 (fun _ => ?_) (fun _ => ?_)⟩
    · refine pick_menu rfl h1 (deL (ds := m6D) (daK (deS (by decide +kernel)) (daK (deS (by decide +kernel)) (daK (deS (by decide +kernel)) (daK (deS (by decide +kernel)) (daK (deS (by decide +kernel)) (daK (deS (by decide +kernel)) (daK deI (daK deN daN)))))))) (by decide)) (by decide) (by decide) fun w d H2 hd hw k2 h2 => ⟨(by show 1 ≤ sizeLine; decide), fun t nt => ?_⟩
      have sT := same_upd (o := .tup [w]) nt
      have ha2 := sT _ _ (k2 _ _ na ha1)
      refine ⟨_, rfl, _, rfl, a, vs, rfl, ha2, fun t2 H3 s3 ho3 e3 => ?_⟩
      rw [show ((1 : Int)) = ((1 : Nat) : Int) from rfl, cut_from vs 1 (by omega)] at e3
      refine ⟨t, t2, [w], _, rfl, rfl, s3 _ _ upd_same, e3, by rw [List.length_drop]; show 1 + (vs.length - 1) ≤ 1000; omega, fun u H4 s4 ho eu => ?_⟩
      have kk := (((k1.trans k2).trans (Kept.same sT)).trans (Kept.same s3)).trans (Kept.same s4)
      have hh := ((h2.same sT).same s3).same s4
      obtain ⟨f1, f2, f3⟩ := first_row (all_at (show m6D.all firstBad = true by decide +kernel) hd) (xs.drop 1)
      refine fin (d :: xs.drop 1) f1 (fun x hx => (List.mem_cons.mp hx).elim (fun e => e ▸ f3) fun hx => okm x (List.mem_of_mem_drop hx)) (by rw [List.length_cons, List.length_drop]; omega) (fun x e => by cases e; exact f2) H4 u _ ?_ eu ?_ kk hh
      · have st := (hS1.next k2 h2).new _ nt
        rcases ho with y | y | y
        · exact y ▸ st
        · rcases ho3 with w | w
          · exact y ▸ w ▸ sa
          · exact y ▸ ((hS1.next k2 h2).same sT).new _ w
        · exact (((hS1.next k2 h2).same sT).same s3).new _ y
      · exact .cons ((((hw.into hS1).same sT).same s3).same s4) (((((hvs1.kept hS.np k2).same sT).same s3).same s4).drop 1)
    -- an item
    refine ⟨_, rfl, _, rfl, a, vs, rfl, .inr (SqT.of ha1), _, _, rfl, rfl, p, l, _, rfl, h1, by omega, ?_, fun d H2 d0 d1 k2 h2 => ?_⟩
    · have z6 : ((vs.length : Int) - 1).natAbs ≤ 6 := by omega
      exact Nat.lt_of_le_of_lt z6 (by decide)
    obtain ⟨j, ej⟩ : ∃ j : Nat, (1 + d : Int) = (j : Int) := ⟨(1 + d).toNat, by omega⟩
    have j1 : 1 ≤ j := by omega
    have j2 : j < xs.length := by omega
    refine ⟨_, _, rfl, rfl, ?_⟩
    have ha2 := k2 _ _ na ha1
    have hvs2 := hvs1.kept hS.np k2
    have hS2 := hS1.next k2 h2
    dsimp only
    rw [ej]
    refine ⟨_, rfl, _, rfl, _, rfl, a, vs, rfl, ha2, fun t1 H3 s3 ho3 e3 => ?_⟩
    rw [cut_to vs j (by omega)] at e3
    have ha3 := s3 _ _ ha2
    obtain ⟨ws, ews⟩ : ∃ ws, vs = .str z :: ws := by
      rw [exs] at hvs
      cases hvs with
      | cons g _ => exact ⟨_, by rw [g.str_inv.1]⟩
    refine ⟨_, rfl, _, rfl, _, rfl, p, l, .ref a, z, j, rfl, h2.same s3, ⟨a, ws, rfl, by rw [← ews]; exact ha3⟩, oz, fun w dd H4 hw hb ho k4 h4 => ⟨(by show 1 ≤ sizeLine; decide), fun t2 n2 => ?_⟩⟩
    have n1 : t1 ≠ p := fun y => by
      obtain ⟨ys, ey⟩ := (h2.same s3).at_
      rw [y, ey] at e3
      cases e3
    have e3b := k4 _ _ n1 e3
    have sT := same_upd (o := .tup [w]) n2
    refine ⟨t1, t2, _, [w], rfl, rfl, sT _ _ e3b, upd_same, by rw [List.length_take]; show min j vs.length + 1 ≤ 1000; omega, fun t3 H5 s5 ho5 e5 => ?_⟩
    have ha5 := s5 _ _ (sT _ _ (k4 _ _ na ha3))
    refine ⟨_, rfl, _, rfl, _, _, rfl, rfl, _, rfl, a, vs, rfl, ha5, fun t4 H6 s6 ho6 e6 => ?_⟩
    rw [show ((j : Int) + 1) = ((j + 1 : Nat) : Int) from rfl, cut_from vs (j + 1) (by omega)] at e6
    refine ⟨t3, t4, _, _, rfl, rfl, s6 _ _ e5, e6, by rw [List.length_append, List.length_take, List.length_drop]; show min j vs.length + 1 + (vs.length - (j + 1)) ≤ 1000; omega, fun t5 H7 s7 ho7 e7 => ?_⟩
    have hS3 := hS2.same s3
    have hS4 := (hS3.next k4 h4)
    have hS5 := (hS4.same sT).same s5
    have st1 : S t1 := ho3.elim (fun y => y ▸ sa) fun y => hS2.new _ y
    have st2 : S t2 := hS4.new _ n2
    have st3 : S t3 := by
      rcases ho5 with y | y | y
      · exact y ▸ st1
      · exact y ▸ st2
      · exact (hS4.same sT).new _ y
    have st4 : S t4 := ho6.elim (fun y => y ▸ sa) fun y => hS5.new _ y
    have st5 : S t5 := by
      rcases ho7 with y | y | y
      · exact y ▸ st3
      · exact y ▸ st4
      · exact (hS5.same s6).new _ y
    have s47 := ((sT.trans s5).trans s6).trans s7
    have hvs4 := ((hvs2.same s3).kept hS.np k4).same s47
    have omd := ho
    have new : DtAll S H7 (vs.take j ++ [w] ++ vs.drop (j + 1)) (xs.take j ++ [dd] ++ xs.drop (j + 1)) := ((hvs4.take j).app (.cons ((hw.into hS3).same s47) .nil)).app (hvs4.drop (j + 1))
    rw [← set_parts j2] at new
    refine fin (xs.set j dd) (bad_row row exs j1 j2 hb) (fun x hx => (List.mem_or_eq_of_mem_set hx).elim (okm x) fun e => e ▸ omd) (by rw [List.length_set]; omega) ?_ H7 t5 _ st5 e7 new ((((k1.trans k2).trans (Kept.same s3)).trans k4).trans (Kept.same s47)) (h4.same s47)
    intro x ex
    have e9 : xs.set j dd = .str z :: rest.set (j - 1) dd := by
      rw [exs, show j = (j - 1) + 1 by omega]
      rfl
    rw [e9] at ex
    exact head _ x ex
end
end K01

/-! labels; rows as lists; plain rows -/
namespace K01
open PySem PySem.Spec PyProof.Rows L2
/-- n letters at most -/
structure Wd (x : Str) (n : Nat) : Prop where
  len : x.length ≤ n
  low : x.cps.toList.all lowC = true
  lay : layS x
theorem low_lt {c : Nat} (h : lowC c = true) : c < 0x110000 := by
  unfold lowC at h
  rw [lt_one, lt_one] at h
  obtain ⟨_, h2⟩ := Bool.and_eq_true_iff.mp h
  have z := not_t h2
  have y : ¬ 122 < c := fun w => by rw [decide_eq_true w] at z; cases z
  omega
theorem Wd.snoc {x : Str} {n c : Nat} (h : Wd x n) (hc : lowC c = true) : Wd (x ++ ⟨#[c]⟩) (n + 1) := by
  refine ⟨by rw [len_app]; exact Nat.succ_le_succ h.len, ?_, lay_app h.lay (low_lt hc)⟩
  show (x.cps ++ #[c]).toList.all lowC = true
  rw [Array.toList_append, List.all_append, h.low, Bool.true_and]
  show (lowC c && true) = true
  rw [hc]
  rfl
theorem letter_at {k : Int} (h0 : 0 ≤ k) (h1 : k < 26) : ∃ c, atI lettersS.cps.toList k = some c ∧ lowC c = true := by
  have e : lettersS.cps.toList[k.toNat]? = some (97 + k.toNat) := by
    rw [letters_are, List.getElem?_map, List.getElem?_range (by omega)]
    show some (k.toNat + 97) = _
    rw [Nat.add_comm]
  have z := atI_nat e
  rw [Int.toNat_of_nonneg h0] at z
  refine ⟨_, z, ?_⟩
  unfold lowC
  rw [lt_one, lt_one, decide_eq_false (by omega), decide_eq_false (by omega)]
  rfl
theorem Wd.lab {x : Str} {n c : Nat} (h : Wd x n) (hn : n ≤ 5) (hc : lowC c = true) : Lab (x ++ ⟨#[c]⟩) := by
  have z := h.snoc hc
  have l1 : (x ++ (⟨#[c]⟩ : Str)).length = x.length + 1 := len_app
  have l2 := h.len
  refine ⟨?_, Bool.and_eq_true_iff.mpr ⟨decide_eq_true (by rw [l1]; omega), z.lay⟩⟩
  show ((decide ((1 : Int) ≤ (x ++ (⟨#[c]⟩ : Str)).length) && decide (((x ++ (⟨#[c]⟩ : Str)).length : Int) ≤ 6)) && (x ++ (⟨#[c]⟩ : Str)).cps.toList.all lowC) = true
  rw [z.low, l1, decide_eq_true (by omega), decide_eq_true (by omega)]
  rfl
def spLabels : Sp := fun vs H Q _ => ∃ (p l : Addr), vs = [.ref p] ∧ Hand p l H ∧ ∀ (la : Addr) (L : List Str) (H' : Hp), Kept p H H' → Hand p l H' → H la = none → H' la = some (.lst (L.map V.str)) → L.length = 6 → (∀ x ∈ L, Lab x) → Q (.ref la) H'
def spAs : Sp := fun vs H Q _ => ∃ (p l : Addr) (S : Addr → Prop) (v : V) (d : PyData) (o : Option Rw), vs = [.ref p, v] ∧ Hand p l H ∧ Sok S p H ∧ Dt S H v d ∧ RowD d o ∧ okR d = true ∧
  ∀ (w : V) (d' : PyData) (H' : Hp), Dt S H' w d' → RowD d' o → okR d' = true → Kept p H H' → Hand p l H' → Q w H'
def spPlain : Sp := fun vs H Q _ => ∃ (v : V) (d : PyData) (xs : List PyData) (r : Rw), vs = [v] ∧ Dt Any H v d ∧ seqD d = some xs ∧ RwL xs r ∧ ∀ (t : Addr) (H' : Hp), Same H H' → Dt Any H' (.ref t) r.data → Q (.ref t) H'
section
variable {S : Addr → Prop} {H : Hp}
mutual
theorem Dt.alloc {v : V} {d : PyData} (h : Dt S H v d) : Dt (fun a => S a ∧ ∃ o, H a = some o) H v d := by
  cases h with
  | non => exact .non
  | bl b => exact .bl b
  | int i => exact .int i
  | str x h1 h2 => exact .str x h1 h2
  | lst s e r => exact .lst ⟨s, _, e⟩ e r.alloc
  | tup s e r => exact .tup ⟨s, _, e⟩ e r.alloc
theorem DtAll.alloc {vs : List V} {ds : List PyData} (h : DtAll S H vs ds) : DtAll (fun a => S a ∧ ∃ o, H a = some o) H vs ds := by
  cases h with
  | nil => exact .nil
  | cons a b => exact .cons a.alloc b.alloc
end
end
def rListS : List V → Hp → VK → Prop := fun vs H Q => ∃ (a : Addr) (xs : List V), vs = [.ref a] ∧ Sq H a xs ∧ ∀ l : Addr, H l = none → Q (.ref l) (upd H l (.lst xs))
theorem call_listS {X : Cx} : CallR X (.type "list") rListS := fun pins s σ H vs us Q I r h => by
  obtain ⟨a, xs, rfl, hS, k⟩ := h
  exact call_list_of pins s σ H _ us Q I r ⟨a, xs, rfl, hS.or, k⟩
def tupB : PyData → Bool
  | .tuple _ => true
  | _ => false
/-- is it a tuple -/
theorem isi_tup {K : PySem.W.Frag} {S : Addr → Prop} {H : Hp} {v : V} {d : PyData} {j : Nat} {σ : L2.St} {Q : VK} (e : σ[j]? = some (some v)) (h : Dt S H v d) (q : Q (.bl (tupB d)) H) :
    tCB (rIsi K) (tCons (tVar j) (tCons (tC (.ty "tuple")) tNil)) σ H Q := by
  have ty := h.odd.ty (K := K)
  cases h with
  | non => exact ⟨_, e, _, _, _, _, false, rfl, .ty _, .base .non, kit_ty (by decide +kernel), q⟩
  | bl b => exact ⟨_, e, _, _, _, _, false, rfl, .ty _, .base (.bl b), kit_ty (by decide +kernel), q⟩
  | int i => exact ⟨_, e, _, _, _, _, false, rfl, .ty _, .base (.int i), kit_ty (by decide +kernel), q⟩
  | str x _ _ => exact ⟨_, e, _, _, _, _, false, rfl, .ty _, .base (.str x), kit_ty (by decide +kernel), q⟩
  | lst _ e1 _ => exact ⟨_, e, _, _, _, _, false, rfl, .ty _, .base (.lst e1), kit_ty (by decide +kernel), q⟩
  | tup _ e1 _ => exact ⟨_, e, _, _, _, _, true, rfl, .ty _, .base (.tup e1), kit_ty (by decide +kernel), q⟩
theorem RowD.list {xs : List PyData} {o : Option Rw} (h : RowD (.tuple xs) o) : RowD (.list xs) o := by
  cases h with
  | no h => exact .no h
  | row e h => cases e; exact .row rfl h
/-- the house of a founder as a list -/
theorem RowD.house {a b c : PyData} {ys : List PyData} {o : Option Rw} (h : RowD (.tuple [.str "comes", a, b, c, .tuple ys]) o) : RowD (.list [.str "comes", a, b, c, .list ys]) o := by
  cases h with
  | no h =>
    refine .no ?_
    have h : isRowL [.str "comes", a, b, c, .tuple ys] = false := h
    show isRowL [.str "comes", a, b, c, .list ys] = false
    rw [row_comes] at h ⊢
    exact h
  | row e h =>
    cases e
    cases h with
    | comes hl hk hn he hh => exact .row rfl (.comes hl hk hn he hh)
section
variable {P : Program} {w : World} {K : PySem.W.Frag} {mg : Str → Option Value} {base : Heap}
theorem ok_labels {f fD : Addr} {fd fdD : FuncData} (F : FnP K "_law_labels" sLabels f fd) (z_range : mg "range" = none) (z_int : mg "int" = none) (dD : Df P w K mg base "_law_draw" 2 ["_law_hand_here", "_law_many"] spDr fD fdD) : FnOk P w K mg base CX0 3 f fd ["_law_hand_here"] spLabels := by
  have sc : FnScope ["_law_hand_here", "_law_letters", "_law_word_here", "_law_k", "_law_first"] ["_law_hand_here"] (defScope sLabels) := ⟨rfl, rfl, rfl, by decide +kernel, rfl, by decide +kernel, by decide +kernel⟩
  refine F.ok sc (fun vs H Q E h => ?_) (fun cdv A outer s H vs Q E hr2 h => ?_)
  · obtain ⟨p, l, rfl, _⟩ := h
    rfl
  · obtain ⟨p, l, rfl, hp, q⟩ := h
    refine ⟨_, PSs.nox (pss_cons (ps_set (i := 1) sc.nd rfl (.inr rfl) pe_str)
    (pss_cons (ps_set (i := 2) sc.nd rfl (.inr rfl) pe_str)
    (pss_cons (ps_for PassesOwn.never rfl (pi_range1 (by rfl) z_range (pa_cons (pe_call dD.ok hr2 (by rfl) dD.gl dD.kp dD.bi .nil pass0 (pa_cons (pv 0) (pa_cons pe_int pa_nil))) pa_nil)) (pg_name (i := 3) sc.nd rfl (.inl rfl))
      (pss_one (ps_set (i := 2) sc.nd rfl (.inr rfl) (pe_op op_add_str (pv 2) (pe_ix ix_str (pv 1) (pe_call dD.ok hr2 (by rfl) dD.gl dD.kp dD.bi .nil pass0 (pa_cons (pv 0) (pa_cons pe_int pa_nil))) (fun _ _ => rfl))))))
    (pss_cons (ps_set (i := 4) sc.nd rfl (.inr rfl) (pe_call dD.ok hr2 (by rfl) dD.gl dD.kp dD.bi .nil pass0 (pa_cons (pv 0) (pa_cons pe_int pa_nil))))
    (pss_one (ps_ret (pe_lc (own := [("_law_k", 3)]) (g := gName 3) (tt := tYes) rfl sc.nd (pi_range1 (by rfl) z_range (pa_cons pe_int pa_nil)) (blkOk_by (N := ["_law_hand_here", "_law_letters", "_law_word_here", "_law_k", "_law_first"]) (sc := defScope sLabels) (by decide +kernel)) (fun _ _ _ _ _ => pg_name (i := 3) sc.nd rfl (Or.inl rfl)) (fun _ _ _ _ _ => pts_nil) (fun _ _ _ _ _ => (pe_op op_add_str (pv 2) (pe_ix ix_str (pv 1) (pe_op op_mod (pe_callTy call_int1 (by rfl) z_int (by decide +kernel) (pa_cons (pe_op op_add (pv 4) (pe_op op_mul (pv 3) pe_int)) pa_nil)) pe_int) (fun _ _ => rfl))))))))))), ?_⟩
    refine ⟨_, rfl, p, l, 6, rfl, hp, by decide, by decide, fun d H1 d0 d1 k1 h1 => ⟨d, rfl, by omega, by omega, for_it walk_range (fun i σ H' => ∃ (x : Str) (x3 x4 : Option V), σ = [some (.ref p), some (.str lettersS), some (.str x), x3, x4] ∧ Wd x i ∧ Kept p H H' ∧ Hand p l H') ⟨"", none, none, rfl, ⟨Nat.le_refl _, rfl, by unfold layS; decide +kernel⟩, k1, h1⟩ (fun _ _ _ _ _ => trivial) ?_ ?_⟩⟩
    · rintro i y σ H2 H3 hi ⟨x, x3, x4, rfl, hx, k2, h2⟩ ⟨rfl, rfl⟩
      have hi' : i < 6 := by omega
      refine ⟨_, rfl, _, rfl, _, rfl, p, l, 26, rfl, h2, by decide, by decide, fun e H4 e0 e1 k4 h4 => ?_⟩
      obtain ⟨c, ec, hc⟩ := letter_at e0 e1
      refine ⟨_, _, c, rfl, rfl, by decide +kernel, ec, _, _, rfl, rfl, ?_, ?_⟩
      · show x.length + 1 ≤ sizeLine
        exact Nat.le_trans (Nat.succ_le_succ (Nat.le_trans hx.len (Nat.le_of_lt hi'))) (by decide)
      · exact ⟨_, _, _, rfl, hx.snoc hc, k2.trans k4, h4⟩
    · rintro σ H2 ⟨x, x3, x4, rfl, hx, k2, h2⟩
      have hd : d.toNat ≤ 5 := by omega
      refine ⟨_, rfl, p, l, 26, rfl, h2, by decide, by decide, fun e H3 e0 e1 k3 h3 => ?_⟩
      have k23 := k2.trans k3
      refine ⟨6, rfl, by decide, by decide, fun D nD => lc_it walk_range (fun i H' => ∃ L : List Str, L.length = i ∧ (∀ x ∈ L, Lab x) ∧ H' D = some (.lst (L.map V.str)) ∧ Kept p H H' ∧ Hand p l H') ⟨[], rfl, (fun x hx => by cases hx), upd_same, k23.trans (Kept.same (same_upd nD)), h3.same (same_upd nD)⟩ (fun _ _ _ _ => trivial) ?_ ?_⟩
      · rintro i y H4 H5 hi ⟨L, hL, lab, eD, k4, h4⟩ ⟨rfl, rfl⟩
        have hi' : i < 6 := hi
        refine ⟨rfl, ?_⟩
        have ec' := Int.emod_nonneg (e + (0 + (i : Int)) * 3) (show (26 : Int) ≠ 0 by decide)
        have ec2 := Int.emod_lt_of_pos (e + (0 + (i : Int)) * 3) (show (0 : Int) < 26 by decide)
        obtain ⟨c, ec, hc⟩ := letter_at ec' ec2
        refine ⟨_, rfl, _, rfl, _, rfl, _, rfl, _, _, rfl, rfl, .inl ⟨by omega, by omega⟩, _, _, rfl, rfl, .inl ⟨_, rfl, _, _, rfl, rfl, (by show (0 : Int) < 26; decide), ?_⟩⟩
        refine ⟨_, _, c, rfl, rfl, by decide +kernel, ec, _, _, rfl, rfl, ?_, ?_⟩
        · show x.length + 1 ≤ sizeLine
          exact Nat.le_trans (Nat.succ_le_succ (Nat.le_trans hx.len hd)) (by decide)
        · refine ⟨_, eD, by rw [List.length_map, hL]; exact lt_line (Nat.le_refl _) (by omega), L ++ [x ++ ⟨#[c]⟩], by rw [List.length_append, hL]; rfl, fun y hy => (List.mem_append.mp hy).elim (lab y) (fun hy => by rw [List.mem_singleton] at hy; rw [hy]; exact hx.lab hd hc), by rw [upd_same, List.map_append]; rfl, ?_, h4.app (h3.nn nD) (h3.nl nD)⟩
          intro b o nb eb
          by_cases hb : b = D
          · rw [hb, h3.back k23 nD] at eb
            cases eb
          · exact (upd_ne hb).trans (k4 _ _ nb eb)
      · rintro H4 ⟨L, hL, lab, eD, k4, h4⟩
        exact q D L H4 k4 h4 (h3.back k23 nD) eD hL lab
theorem ok_as {f fD : Addr} {fd fdD : FuncData} (F : FnP K "_law_as_list" sAsList f fd) (z_isinstance : mg "isinstance" = none) (z_tuple : mg "tuple" = none) (z_list : mg "list" = none) (z_len : mg "len" = none) (dD : Df P w K mg base "_law_draw" 2 ["_law_hand_here", "_law_many"] spDr fD fdD) : FnOk P w K mg base CX0 3 f fd ["_law_hand_here", "_law_row"] spAs := by
  have sc : FnScope ["_law_hand_here", "_law_row", "_law_made"] ["_law_hand_here", "_law_row"] (defScope sAsList) := ⟨rfl, rfl, rfl, by decide +kernel, rfl, by decide +kernel, by decide +kernel⟩
  refine F.ok sc (fun vs H Q E h => ?_) (fun cdv A outer s H vs Q E hr2 h => ?_)
  · obtain ⟨p, l, S, v, d, o, rfl, _⟩ := h
    rfl
  · obtain ⟨p, l, S, v, d, o, rfl, hp, hS, hd, ho, hr, q⟩ := h
    refine ⟨_, PSs.nox (pss_cons (ps_if (PW.pt (pw_or (pt_not (pt_val (pe_callB call_isi (by rfl) z_isinstance (by decide +kernel) (pa_cons (pv 1) (pa_cons (pe_bltn (by rfl) z_tuple (by decide +kernel) (v := .ty "tuple") rfl) pa_nil))))) (pw_or1 (pt_cmpR op_eq (pe_call dD.ok hr2 (by rfl) dD.gl dD.kp dD.bi .nil pass0 (pa_cons (pv 0) (pa_cons pe_int pa_nil))) pe_int (nomark _)))))
      (pss_one (ps_ret (pv 1)))
      pss_nil)
    (pss_cons (ps_set (i := 2) sc.nd rfl (.inl rfl) (pe_callTy call_listS (by rfl) z_list (by decide +kernel) (pa_cons (pv 1) pa_nil)))
    (pss_cons (ps_if (PW.pt (pw_and (pt_cmpR op_eq (pe_callB call_len_seq (by rfl) z_len boot_len (pa_cons (pv 2) pa_nil)) pe_int (nomark _)) (pw_and (pt_cmpR op_eq (pe_ix ix_list (pv 2) pe_int (fun _ _ => rfl)) pe_str (nomark _)) (pw_and1 (pt_val (pe_callB call_isi (by rfl) z_isinstance (by decide +kernel) (pa_cons (pe_ix ix_list (pv 2) pe_int (fun _ _ => rfl)) (pa_cons (pe_bltn (by rfl) z_tuple (by decide +kernel) (v := .ty "tuple") rfl) pa_nil))))))))
      (pss_one (ps_asg (pe_callTy call_listS (by rfl) z_list (by decide +kernel) (pa_cons (pe_ix ix_list (pv 2) pe_int (fun _ _ => rfl)) pa_nil)) (pg_sub (pv 2) pe_int set_list)))
      pss_nil)
    (pss_one (ps_ret (pv 2)))))), ?_⟩
    refine isi_tup rfl hd ?_
    have notup : (∀ xs, d ≠ .tuple xs) → tupB d = false := fun n => by
      cases d with
      | tuple xs => exact absurd rfl (n xs)
      | _ => rfl
    by_cases it : ∃ xs, d = .tuple xs
    rotate_left
    · rw [notup fun xs e => it ⟨xs, e⟩]
      exact ⟨_, rfl, iteT ⟨_, rfl, q v d H hd ho hr Kept.refl hp⟩⟩
    obtain ⟨xs, rfl⟩ := it
    refine ⟨_, rfl, iteF ?_⟩
    refine ⟨_, rfl, p, l, 2, rfl, hp, by decide, by decide, fun e H1 e0 e1 k1 h1 => ⟨rfl, _, rfl, ite2 (fun _ => ?_) (fun _ => ?_)⟩⟩
    · exact ⟨_, rfl, q v _ H1 (hd.kept hS.np k1) ho hr k1 h1⟩
    have hS1 := hS.next k1 h1
    have hd1 := hd.kept hS.np k1
    cases hd1 with
    | @tup a vs _ sa ha hvs =>
    have el := hvs.len
    refine ⟨_, rfl, a, vs, rfl, .inr ha, fun D nD => ?_⟩
    have sD := same_upd (o := .lst vs) nD
    have eD : upd H1 D (.lst vs) D = some (.lst vs) := upd_same
    have hvs2 : DtAll (fun a => S a ∧ a ≠ D) (upd H1 D (.lst vs)) vs xs := hvs.alloc.to (fun b z => ⟨z.1, fun w => by
      obtain ⟨o, eo⟩ := z.2
      rw [w, nD] at eo
      cases eo⟩) fun b o _ e => sD _ _ e
    have toS : ∀ {vs : List V} {xs : List PyData} {H' : Hp}, DtAll (fun a => S a ∧ a ≠ D) H' vs xs → DtAll S H' vs xs := fun h => h.to (fun _ z => z.1) fun _ _ _ e => e
    have nDp := h1.nn nD
    have nDl := h1.nl nD
    have SD := hS1.new _ nD
    have kD : Kept p H (upd H1 D (.lst vs)) := k1.trans (Kept.same sD)
    have hD := h1.same sD
    have ndH : H D = none := h1.back k1 nD
    have sD0 : Same H1 (upd H1 D (.lst vs)) := sD
    generalize upd H1 D (.lst vs) = H2 at eD hvs2 kD hD sD0 ⊢
    refine ⟨_, rfl, _, _, rfl, .inl (SqL.of eD), rfl, _, rfl, ite2 (fun g => ?_) (fun g => iteF ?_)⟩
    rotate_left
    · exact ⟨_, rfl, q _ (.list xs) H2 (.lst SD eD (toS hvs2)) ho.list hr kD hD⟩
    have n5 : vs.length = 5 := by have := V.int.inj (of_decide_eq_true g); omega
    have n5' : xs.length = 5 := by omega
    match vs, xs, n5', hvs2, eD, ho, hr with
    | _, [x0, x1, x2, x3, x4], _, .cons (v := v0) g0 (.cons (v := v1) g1 (.cons (v := v2) g2 (.cons (v := v3) g3 (.cons (v := v4) g4 .nil)))), eD, ho, hr =>
    have sca := okR_head hr rfl
    have asis : Q (.ref D) H2 := q _ (.list [x0, x1, x2, x3, x4]) H2 (.lst SD eD (toS (.cons g0 (.cons g1 (.cons g2 (.cons g3 (.cons g4 .nil))))))) ho.list hr kD hD
    -- is it a founder's
    by_cases ic : v0 = .str "comes"
    rotate_left
    · refine ⟨_, rfl, _, _, _, v0, rfl, rfl, SqL.of eD, rfl, ?_⟩
      have sc0 : scal v0 (.str "comes") = true := by
        cases g0 with
        | non => rfl
        | bl b => rfl
        | int i => rfl
        | str x _ _ => rfl
        | lst _ _ _ => cases sca
        | tup _ _ _ => cases sca
      exact ⟨sc0, _, rfl, ite2 (fun w => absurd (of_decide_eq_true w) ic) (fun _ => iteF ⟨_, rfl, asis⟩)⟩
    subst ic
    have ex0 : x0 = .str "comes" := by cases g0; rfl
    subst ex0
    refine ⟨_, rfl, _, _, _, _, rfl, rfl, SqL.of eD, rfl, rfl, _, rfl, iteT ?_⟩
    -- is the house a tuple
    have keep : tupB x4 = false → Q (.ref D) H2 := fun _ => asis
    refine ⟨_, rfl, _, _, _, _, rfl, rfl, SqL.of eD, rfl, ?_⟩
    cases g4 with
    | @tup b us ys sb eb hus =>
      refine ⟨_, _, _, _, true, rfl, .ty _, .base (.tup eb), kit_ty (by decide +kernel), _, rfl, iteT ?_⟩
      refine ⟨_, rfl, _, _, _, _, rfl, rfl, SqL.of eD, rfl, b, us, rfl, .inr eb, fun T nT => ?_⟩
      have sT := same_upd (o := .lst us) nT
      have nTD : T ≠ D := Ne.symm (ne_of_none eD nT)
      have nTp := hD.nn nT
      have nTl := hD.nl nT
      have ST := hS1.new _ (none_of sD0 nT)
      refine ⟨_, rfl, D, _, 4, 4, rfl, rfl, sT _ _ eD, rfl, ?_⟩
      have st : ∀ y o, y ≠ D → H2 y = some o → upd (upd H2 T (.lst us)) D (.lst ([V.str "comes", v1, v2, v3, V.ref b].set 4 (.ref T))) y = some o := fun y o n e => (upd_ne n).trans (sT _ _ e)
      refine ⟨_, rfl, q _ (.list [.str "comes", x1, x2, x3, .list ys]) _ (.lst SD upd_same ?_) ho.house hr ?_ ?_⟩
      · have mv : ∀ {w : V} {y : PyData}, Dt (fun a => S a ∧ a ≠ D) H2 w y → Dt S (upd (upd H2 T (.lst us)) D (.lst ([V.str "comes", v1, v2, v3, V.ref b].set 4 (.ref T)))) w y := fun h => h.to (fun _ z => z.1) fun a o z e => st _ _ z.2 e
        have mvs : ∀ {w : List V} {y : List PyData}, DtAll (fun a => S a ∧ a ≠ D) H2 w y → DtAll S (upd (upd H2 T (.lst us)) D (.lst ([V.str "comes", v1, v2, v3, V.ref b].set 4 (.ref T)))) w y := fun h => h.to (fun _ z => z.1) fun a o z e => st _ _ z.2 e
        exact .cons (mv g0) (.cons (mv g1) (.cons (mv g2) (.cons (mv g3) (.cons (.lst ST ((upd_ne nTD).trans upd_same) (mvs hus)) .nil))))
      · intro y o ny ey
        have z := kD _ _ ny ey
        exact st _ _ (fun w => by rw [w, ndH] at ey; cases ey) z
      · exact (hD.same sT).app nDp nDl
    | non => exact ⟨_, _, _, _, false, rfl, .ty _, .base .non, kit_ty (by decide +kernel), _, rfl, iteF ⟨_, rfl, keep rfl⟩⟩
    | bl b => exact ⟨_, _, _, _, false, rfl, .ty _, .base (.bl b), kit_ty (by decide +kernel), _, rfl, iteF ⟨_, rfl, keep rfl⟩⟩
    | int i => exact ⟨_, _, _, _, false, rfl, .ty _, .base (.int i), kit_ty (by decide +kernel), _, rfl, iteF ⟨_, rfl, keep rfl⟩⟩
    | str x _ _ => exact ⟨_, _, _, _, false, rfl, .ty _, .base (.str x), kit_ty (by decide +kernel), _, rfl, iteF ⟨_, rfl, keep rfl⟩⟩
    | lst _ e1 _ => exact ⟨_, _, _, _, false, rfl, .ty _, .base (.lst e1), kit_ty (by decide +kernel), _, rfl, iteF ⟨_, rfl, keep rfl⟩⟩
theorem ok_plain {f : Addr} {fd : FuncData} (F : FnP K "_law_plain" sPlain f fd) (z_tuple : mg "tuple" = none) : FnOk P w K mg base CX0 1 f fd ["_law_row"] spPlain := by
  have sc : FnScope ["_law_row", "_law_made"] ["_law_row"] (defScope sPlain) := ⟨rfl, rfl, rfl, by decide +kernel, rfl, by decide +kernel, by decide +kernel⟩
  refine F.ok sc (fun vs H Q E h => ?_) (fun cdv A outer s H vs Q E hr h => ?_)
  · obtain ⟨v, d, xs, r, rfl, _⟩ := h
    rfl
  · obtain ⟨v, d, xs, r, rfl, hd, e, hw, q⟩ := h
    refine ⟨_, PSs.nox (pss_cons (ps_set (i := 1) sc.nd rfl (.inl rfl) (pe_callTy call_tupS (by rfl) z_tuple (by decide +kernel) (pa_cons (pv 0) pa_nil)))
    (pss_cons (ps_if (pt_cmpR op_eq (pe_ix ix_tup (pv 1) pe_int (fun _ _ => rfl)) pe_str (nomark _))
      (pss_one (ps_set (i := 1) sc.nd rfl (.inl rfl) (pe_op op_catS (pe_slice sl_tupS (pv 1) po_none (po_some pe_int)) (pe_tup (pa_cons (pe_callTy call_tupS (by rfl) z_tuple (by decide +kernel) (pa_cons (pe_ix ix_tup (pv 1) pe_int (fun _ _ => rfl)) pa_nil)) pa_nil)))))
      pss_nil)
    (pss_one (ps_ret (pv 1))))), ?_⟩
    obtain ⟨a, vs, rfl, _, hS, hvs⟩ := id (hd.seq e)
    refine ⟨_, rfl, a, vs, rfl, hS, fun H1 t s1 et => ?_⟩
    have hvs1 := hvs.same s1
    cases hw with
    | @comes l k n hs e5 hl hk hn he hh =>
      cases hvs1 with | cons g0 hvs1 => cases hvs1 with | cons g1 hvs1 => cases hvs1 with | cons g2 hvs1 => cases hvs1 with | cons g3 hvs1 => cases hvs1 with | cons g4 hvs1 =>
      cases hvs1
      obtain rfl := g0.str_inv.1
      obtain rfl := g1.str_inv.1
      obtain rfl := g2.str_inv.1
      obtain rfl := g3.int_inv
      obtain ⟨a5, ws, rfl, _, hS5, hws⟩ := id (g4.seq he)
      refine ⟨_, rfl, _, _, _, _, rfl, rfl, SqT.of et, rfl, rfl, _, rfl, iteT ?_⟩
      refine ⟨_, rfl, _, rfl, t, _, rfl, et, fun t2 H2 s2 _ e2 => ?_⟩
      refine ⟨_, rfl, _, _, _, _, rfl, rfl, SqT.of (s2 _ _ et), rfl, a5, ws, rfl, hS5.same s2, fun H3 t3 s3 e3 => ⟨(by show 1 ≤ sizeLine; decide), fun t4 n4 => ?_⟩⟩
      have s4 := same_upd (o := .tup [V.ref t3]) n4
      refine ⟨t2, t4, _, _, rfl, rfl, s4 _ _ (s3 _ _ e2), upd_same, (by show 4 + 1 ≤ 1000; decide), fun t5 H5 s5 _ e5' => ⟨_, rfl, ?_⟩⟩
      have sA := (s2.trans s3).trans (s4.trans s5)
      refine q t5 H5 (s1.trans sA) (.tup trivial e5' (.cons (g0.same sA) (.cons (g1.same sA) (.cons (g2.same sA) (.cons (.int n) (.cons (.tup trivial (s5 _ _ (s4 _ _ e3)) (hws.same sA)) .nil))))))
    | @weds f m hf hm =>
      cases hvs1 with | cons g0 hvs1 =>
      obtain rfl := g0.str_inv.1
      refine ⟨_, rfl, _, _, _, _, rfl, rfl, SqT.of et, atI_nat (j := 0) rfl, rfl, _, rfl, iteF ?_⟩
      exact ⟨_, rfl, q t H1 s1 (.tup trivial et (.cons g0 hvs1))⟩
    | @born f m k l n hf hm hk hl hn =>
      cases hvs1 with | cons g0 hvs1 =>
      obtain rfl := g0.str_inv.1
      refine ⟨_, rfl, _, _, _, _, rfl, rfl, SqT.of et, atI_nat (j := 0) rfl, rfl, _, rfl, iteF ?_⟩
      exact ⟨_, rfl, q t H1 s1 (.tup trivial et (.cons g0 hvs1))⟩
    | @dies l hl =>
      cases hvs1 with | cons g0 hvs1 =>
      obtain rfl := g0.str_inv.1
      refine ⟨_, rfl, _, _, _, _, rfl, rfl, SqT.of et, atI_nat (j := 0) rfl, rfl, _, rfl, iteF ?_⟩
      exact ⟨_, rfl, q t H1 s1 (.tup trivial et (.cons g0 hvs1))⟩
end
end K01

/-! list(o) and len(o) of an instance whose class has its own __iter__, that gives iter(tuple), and its own __len__ -/
namespace K01
open PySem PySem.Spec PyProof.Rows L2
/-- at it an iterator over the tuple at t, the next place is i -/
def ItT (t it : Addr) (i : Nat) : HO := .ext fun h => h.IsTupleIter it t i
theorem itT_ok {P : Program} {w : World} {H : Hp} {h : Heap} {t it : Addr} {i : Nat} (e : h.IsTupleIter it t i) : ObjOk P w H h it (ItT t it i) := ⟨e, ⟨_, e.choose_spec.1⟩, fun h1 h2 q k => by
  obtain ⟨o, ho, r⟩ := q
  exact ⟨o, k _ ho, r⟩⟩
/-- iter(t), t a tuple -/
def rIterT : List V → Hp → VK → Prop := fun xs H Q => ∃ (t : Addr) (ys : List V), xs = [.ref t] ∧ H t = some (.tup ys) ∧ ∀ it, H it = none → Q (.ref it) (upd H it (ItT t it 0))
theorem call_iterT {X : Cx} : CallR X (.builtin "iter") rIterT := by
  intro pins s σ H xs us Q I r h
  obtain ⟨t, ys, rfl, ht, q⟩ := h
  obtain rfl := Vals.ref1 r
  obtain ⟨its, rv, pl, hz⟩ := I.tuple (SqT.of ht)
  refine Calls.call_function_entry (by decide +kernel) (by decide +kernel) PySem.W.kdk_entry_iter (PySem.W.kdk_args_iter _) ?_
  unfold Builtin.«iter»
  refine wpAny_bind (m := someArgs "iter" 1 2 _) (wpAny_of_eq (a := [Value.ref t]) (by first | rfl | kernel_rfl!) ?_)
  show wpAny _ _ (pyIter (.ref t) >>= _) _ _ _
  refine wpAny_bind (wpAny_pyIter_tuple pl ?_)
  refine wpAny_pure ⟨_, rfl, ?_⟩
  exact ⟨.ref s.heap.objs.size, _, I.laid (t' := s.toks) (fun b u e => Heap.get?_push_of_some _ e) (Nat.le_refl _) (itT_ok ⟨_, Heap.get?_push_size _ rfl, rfl, rfl⟩), rfl, q _ (I.hok.fresh (Nat.le_refl _))⟩
/-- what __iter__ gives -/
def spIterR (CR : Addr) : Sp := fun vs H Q _ => ∃ (x dx ar : Addr) (fs : List (Str × V)) (ys : List V), vs = [.ref x] ∧ H x = some (.ins CR dx fs) ∧ fs.lookup ("rows" : Str) = some (V.ref ar) ∧ H ar = some (.tup ys) ∧ ∀ it, H it = none → Q (.ref it) (upd H it (ItT ar it 0))
def spLenR (CR : Addr) : Sp := fun vs H Q _ => ∃ (x dx ar : Addr) (fs : List (Str × V)) (ys : List V), vs = [.ref x] ∧ H x = some (.ins CR dx fs) ∧ fs.lookup ("rows" : Str) = some (V.ref ar) ∧ H ar = some (.tup ys) ∧ Q (.int ys.length) H
/-- the class's own methods -/
structure OwnC (P : Program) (w : World) (K : PySem.W.Frag) (mg : Str → Option Value) (base : Heap) (C fI fL : Addr) (fdI fdL : FuncData) : Prop where
  it : PySem.W.findIn K (.ref C) "__iter__" = some (some (.ref fI))
  itF : PySem.W.isFn K (.ref fI) = true
  ln : PySem.W.findIn K (.ref C) "__len__" = some (some (.ref fL))
  lnF : PySem.W.isFn K (.ref fL) = true
  okI : FnOk P w K mg base CX0 1 fI fdI ["self"] (spIterR C)
  biI : Binds K fdI ["self"] []
  okL : FnOk P w K mg base CX0 1 fL fdL ["self"] (spLenR C)
  biL : Binds K fdL ["self"] []
section
variable {X : Cx} {pins : List (Addr × Obj)} {σ : L2.St} {H : Hp} {s s' : Shared} {C fI fL x dx ar : Addr} {fdI fdL : FuncData} {fs : List (Str × V)} {ys : List V} {A1 : Around}
theorem env_sub {n : Nat} (sb : Sub X n A1) (I : Inv X pins σ H s) : Env0 X.prog X.w X.K X.mg X.base A1 X.stack s H := by
  have e := I.env0
  exact ⟨by rw [sb.fr]; exact e.frames, e.mod, e.bs, e.bsz, e.funs, e.frf, e.hok, e.bare⟩
/-- len(x) -/
theorem own_len {Q : Value → Shared → Prop} {E : Value → Shared → Prop} (sb : Sub X 2 A1) (O : OwnC X.prog X.w X.K X.mg X.base C fI fL fdI fdL) (I : Inv X pins σ H s) (hx : H x = some (.ins C dx fs)) (hl : fs.lookup ("rows" : Str) = some (V.ref ar)) (ha : H ar = some (.tup ys))
    (h : ∀ (t : Tok) (s' : Shared), Inv X pins σ H s' → Q (.int (ys.length : Int) t) s') : wpAny (model X.prog X.w) A1 (call (.builtin "len") [.ref x]) Q E s := by
  obtain ⟨_, hz, _⟩ := I.tuple (SqT.of ha)
  obtain ⟨mA, J, _⟩ := ins_get I.hok hx
  obtain ⟨od, J, _⟩ := J.look
  refine Calls.call_function_entry kind_len plain_len entry_len (args_len1 _) ?_
  unfold Builtin.«len»
  refine wpAny_bind (m := oneArg "len" _) (wpAny_pure ?_)
  refine wpAny_bind (m := callSpecial? (.ref x) (Str.ofString "__len__")) ?_
  unfold callSpecial? specialOf
  refine wpAny_bind (wpAny_bind (J.type.here ((PySem.W.looks_findIn I.kIn O.ln).here ?_)))
  refine wpAny_holding ?_
  refine wpAny_bind ((PySem.W.bind_fn I.kIn _ (beq_iff_eq.mp O.lnF)).here ?_)
  have r2 : Vals [V.ref x] [Value.ref x] := .cons rfl .nil
  have hsp : spLenR C [.ref x] H (fun v H' => v = .int (ys.length : Int) ∧ H' = H) E0 := ⟨x, dx, ar, fs, ys, rfl, hx, hl, ha, rfl, rfl⟩
  have hlen := O.okL.len _ _ _ _ hsp
  refine wpAny_bind (wpAny_call (codeAny_mono (O.okL.run A1.in1 X.stack s H ⟨[.ref x], []⟩ [.ref x] [.ref x] _ _ sb.in1.room (env_sub sb.in1 I) (by
    have := O.biL s [.ref x] I.kIn (by simpa using hlen)
    simpa using this) r2 hsp) fun r s' hq => ?_))
  cases r with
  | error e => exact hq.elim
  | ok fl =>
    cases fl with
    | ret u =>
      obtain ⟨v, H', I', rv, rfl, rfl⟩ := I.after hq
      obtain ⟨tk, rfl⟩ := rv
      have hn : ys.length ≤ sizeLine := (I.tuple (SqT.of ha)).choose_spec.2.2
      rw [sizeLine_eq] at hn
      refine wpAny_pure ?_
      refine wpAny_bind (wpAny_holding (wpAny_pure ?_))
      refine wpAny_bind (wpAny_letGo ?_)
      show wpAny _ _ (if ((ys.length : Nat) : Int) < 0 then _ else _) _ _ _
      rw [if_neg (by omega)]
      show wpAny _ _ (if ((ys.length : Nat) : Int) ≥ 2 ^ 63 then _ else _) _ _ _
      rw [if_neg (by omega)]
      exact wpAny_bind (wpAny_mkInt (wpAny_pure ⟨_, rfl, h _ _ (I'.tok _)⟩))
    | next => exact False.elim hq
    | brk => exact False.elim hq
    | cont => exact False.elim hq
/-- what the list asks for the length -/
theorem own_hintL {E : Value → Shared → Prop} {Q : Bool → Shared → Prop} (sb : Sub X 2 A1) (O : OwnC X.prog X.w X.K X.mg X.base C fI fL fdI fdL) (I : Inv X pins σ H s) (hx : H x = some (.ins C dx fs)) (hl : fs.lookup ("rows" : Str) = some (V.ref ar)) (ha : H ar = some (.tup ys))
    (h : ∀ (b : Bool) (s' : Shared), Inv X pins σ H s' → Q b s') : wpAny (model X.prog X.w) A1 (Builtin.List.listLengthHint (.ref x)) Q E s := by
  obtain ⟨mA, J, _⟩ := ins_get I.hok hx
  obtain ⟨od, J, _⟩ := J.look
  have hn : ys.length ≤ sizeLine := (I.tuple (SqT.of ha)).choose_spec.2.2
  unfold Builtin.List.listLengthHint
  refine wpAny_bind (wpAny_bind (J.type.here ((PySem.W.looks_findIn I.kIn O.ln).here ?_)))
  refine PySem.W.KFB.if_not rfl ?_
  refine PySem.W.KFB.if_so rfl ?_
  refine wpAny_bind (wpAny_rule ?_)
  refine wpAny_bind (wpAny_attempt (own_len sb O I hx hl ha fun t s' I' => ?_))
  refine wpAny_bind (wpAny_pure ?_)
  show wpAny _ _ (if Builtin.List.listTooLong ((ys.length : Int)).toNat = true then _ else _) _ _ _
  rw [if_neg (by rw [show ((ys.length : Int)).toNat = ys.length from rfl, notLongL hn]; exact Bool.false_ne_true)]
  exact wpAny_pure (h _ _ I')
/-- an iterator at its end; it stands on -/
theorem next_endT {M : Program} {w : World} {A : Around} {s : Shared} {E : Value → Shared → Prop} {it t : Addr} {i : Nat} {items : Array Value} {Q : Option Value → Shared → Prop} (hh : A.handled = none) (hit : s.heap.IsTupleIter it t i) (ht : s.heap.IsTuple t items) (hx : items[i]? = none)
    (hQ : ∀ h', (∃ o, h'.get? it = some o) → Heap.ExtBut it s.heap h' → Q none { s with heap := h' }) : wpAny (model M w) A (pyNext (.ref it)) Q E s := by
  obtain ⟨o, ho, hc, hd⟩ := id hit
  obtain ⟨ol, hol, _, nl, hdl⟩ := ht
  unfold pyNext
  refine wpAny_bind (wpAny_attempt (wpAny_callSpecial?_slot (name := Str.ofString "__next__") hit.typeIs PySem.F.slot_tuple_iterator_next (wpAny_call_entry PySem.F.slot_tuple_iterator_next hit.typeIs PySem.F.entry_tuple_iterator_next ?_ (PySem.F.args_tuple_iterator_next_1 _))))
  show wpAny _ _ (field (.ref it) 0 >>= _) _ _ s
  refine wpAny_bind (wpAny_field ho hd (x := .ref t) rfl ?_)
  show wpAny _ _ (if (Value.ref t == Value.none) = true then _ else _) _ _ s
  rw [if_neg (show ¬ ((Value.ref t == Value.none) = true) from Bool.false_ne_true)]
  show wpAny _ _ (field (.ref it) 1 >>= _) _ _ s
  refine wpAny_bind (wpAny_field ho hd (x := .int i 0) rfl ?_)
  show wpAny _ _ (seqItems? (.ref t) >>= _) _ _ s
  refine wpAny_bind (wpAny_seqItems hol hdl ?_)
  simp only [Int.toNat_natCast, hx]
  refine wpAny_bind (wpAny_rule (wpAny_bind (wpAny_setField ho hd (by simp) ?_)))
  show wpAny _ _ (newExc (.type "StopIteration") [] >>= _) _ _ _
  refine wpAny_bind ?_
  simp only [newExc, newTuple]
  refine wpAny_bind (wpAny_newObj_type ?_ (by size_fits))
  refine wpAny_bind (m := firstArgMember _ _) (wpAny_of_eq (a := Value.none) (by first | rfl | (simp only [firstArgMember]; rfl)) ?_)
  refine wpAny_newObj_type ?_ (by size_fits)
  simp only [raiseNew]
  refine wpAny_bind (wpAny_handled ?_)
  first | rw [show A.in1.handled = none from hh] | rw [hh]
  refine wpAny_bind (wpAny_pure (wpAny_throw ?_))
  refine wpAny_bind (wpAny_isInstance (T := "StopIteration") (b := true) ⟨_, Heap.get?_push_size _ rfl, rfl⟩ isSubtype_stop ?_)
  refine wpAny_pure (hQ _ ⟨_, Heap.get?_push_of_some _ (Heap.get?_push_of_some _ (Heap.get?_update_self _ ho (Obj.isFreed_of_fields (Obj.data_mapFields hd _))))⟩ (((Heap.SameBut.update ..).extBut.push _).push _))
/-- .. where it was -/
def ItJ (it : Addr) : HO := .ext fun h => ∃ o, h.get? it = some o
theorem upd_back {H : Hp} {a b : Addr} {o u : HO} (ne : a ≠ b) : upd (upd H a o) b u = upd (upd H b u) a o := by
  funext z
  by_cases h1 : z = a
  · subst h1
    rw [upd_ne ne, upd_same, upd_same]
  · by_cases h2 : z = b
    · subst h2
      rw [upd_same, upd_ne h1, upd_same]
    · rw [upd_ne h2, upd_ne h1, upd_ne h1, upd_ne h2]
/-- the walk: the first i items stand in the list -/
theorem tup_loop {Rs : Result → Shared → Prop} {it q t : Addr} (hh : A1.handled = none) (hne : q ≠ it) (hqt : q ≠ t) (hti : t ≠ it)
    (hdone : ∀ (H' : Hp) s, Inv X pins σ H' s → H' q = some (.lst ys) → (∀ b, b ≠ q → b ≠ it → H' b = H b) → Rs (.ok (.ret .none)) s) :
    ∀ (k : Nat) (acc rest : List V) (H1 : Hp) (s : Shared), rest.length = k → ys = acc ++ rest → Inv X pins σ H1 s → H1 q = some (.lst acc) → H1 it = some (ItT t it acc.length) → H1 t = some (.tup ys) → (∀ b, b ≠ q → b ≠ it → H1 b = H b) →
      codeAny (model X.prog X.w) A1 (.builtin "list.extend.loop" ⟨[.ref q, .ref it, .none], []⟩) Rs s := by
  intro k
  induction k with
  | zero =>
    intro acc rest H1 s hk hy I hq hi ht hk1
    obtain rfl := List.length_eq_zero_iff.mp hk
    rw [List.append_nil] at hy
    subst hy
    refine codeAny_builtin PySem.F.entry_extend_loop ?_
    rw [Around.under_plainId PySem.F.plain_extend_loop _]
    show wpAny _ A1.in1 (pyNext (.ref it) >>= _) _ _ s
    obtain ⟨its, rv, pl, hz⟩ := I.tuple (SqT.of ht)
    refine wpAny_bind (next_endT hh (I.hok it _ hi).1 pl (by rw [List.getElem?_toArray]; exact List.getElem?_eq_none (by rw [← rv.length]; exact Nat.le_refl _)) fun h' hj he => ?_)
    have mu : Mut (H1 it) := by rw [hi]; exact True.intro
    have I2 : Inv X pins σ (upd H1 it (ItJ it)) { s with heap := h' } := I.write (x := it) (e := it) (t' := s.toks) mu (.inl rfl) (fun b o nb z => he b o nb z) hj ⟨hj, hj, fun h1 h2 q k => by
      obtain ⟨o, ho⟩ := q
      exact ⟨o, k _ ho⟩⟩
    exact wpAny_pure (hdone _ _ I2 ((upd_ne hne).trans hq) fun b h1 h2 => (upd_ne h2).trans (hk1 b h1 h2))
  | succ k ih =>
    intro acc rest H1 s hk hy I hq hi ht hk1
    cases rest with
    | nil => cases hk
    | cons v rest =>
      refine codeAny_builtin PySem.F.entry_extend_loop ?_
      rw [Around.under_plainId PySem.F.plain_extend_loop _]
      show wpAny _ A1.in1 (pyNext (.ref it) >>= _) _ _ s
      obtain ⟨its, rv, pl, hz⟩ := I.tuple (SqT.of ht)
      obtain ⟨u, hu, ru⟩ := rv.get (i := acc.length) (x := v) (by rw [hy]; simp)
      refine wpAny_bind (wpAny_pyNext_tuple_item (I.hok it _ hi).1 pl (by rw [List.getElem?_toArray]; exact hu) fun h' e' sb => ?_)
      have mu : Mut (H1 it) := by rw [hi]; exact True.intro
      have I2 : Inv X pins σ (upd H1 it (ItT t it (acc.length + 1))) { s with heap := h' } := I.write (x := it) (e := it) (t' := s.toks) mu (.inl rfl) (fun b o nb z => (sb.2 b nb).trans z) ⟨_, e'.choose_spec.1⟩ (itT_ok e')
      have hq2 : upd H1 it (ItT t it (acc.length + 1)) q = some (.lst acc) := (upd_ne hne).trans hq
      show wpAny _ A1.in1 (updateSeq q (·.push u) >>= _) _ _ _
      obtain ⟨z, its2, n2, r2, hl2, e2⟩ := I2.lstM hq2
      have hlt : acc.length < sizeLine := by
        have : acc.length < ys.length := by rw [hy]; simp
        omega
      refine wpAny_bind (wpAny_updateSeq e2 rfl (wpAny_pure ⟨plainId_quiet PySem.F.plain_extend_loop _, ?_⟩) (by rw [List.size_toArray]; omega) (by show (its2.toArray.push u).size ≤ sizeLine + 1; rw [Array.size_push, List.size_toArray]; omega))
      refine ih (acc ++ [v]) rest _ _ (by simpa using hk) (by rw [hy]; simp) (I2.lset (its' := its2 ++ [u]) (t' := s.toks) hq2 e2 (by simp) (r2.append (.cons ru .nil)) (by rw [List.length_append, List.length_singleton]; omega)) upd_same ?_ ?_ fun b h1 h2 => ?_
      · rw [upd_ne (Ne.symm hne), upd_same, List.length_append, List.length_singleton]
      · rw [upd_ne (Ne.symm hqt), upd_ne hti]
        exact ht
      · rw [upd_ne h1, upd_ne h2]
        exact hk1 b h1 h2
/-- the list at q is filled -/
theorem own_extendL {Rs : Result → Shared → Prop} {q : Addr} (sb : Sub X 2 A1.in1) (hA : A1.handled = none) (O : OwnC X.prog X.w X.K X.mg X.base C fI fL fdI fdL) (I : Inv X pins σ H s) (hx : H x = some (.ins C dx fs)) (hl : fs.lookup ("rows" : Str) = some (V.ref ar)) (ha : H ar = some (.tup ys))
    (hq : H q = some (.lst [])) (hdone : ∀ (it : Addr) (H' : Hp) s, H it = none → Inv X pins σ H' s → H' q = some (.lst ys) → (∀ b, b ≠ q → b ≠ it → H' b = H b) → Rs (.ok (.ret .none)) s) :
    wpAny (model X.prog X.w) A1.in1 (Builtin.List.listExtendWith (.ref q) (.ref x) .none)
      (fun fin s' => match fin with | .done f => Rs (.ok f) s' | .again c' => c'.quiet = true ∧ codeAny (model X.prog X.w) A1 c' Rs s') (fun e s' => Rs (.error e) s') s := by
  have hne : q ≠ x := ne_of hq hx (fun z => nomatch z)
  have hqr : q ≠ ar := ne_of hq ha (fun z => nomatch z)
  obtain ⟨mA, J, _⟩ := ins_get I.hok hx
  obtain ⟨od, J, _⟩ := J.look
  obtain ⟨m0, hF⟩ := I.fr
  unfold Builtin.List.listExtendWith
  refine wpAny_bind (J.type.here ?_)
  have h1 : Builtin.List.listSameRef (.ref q) (.ref x) = false := by simp [Builtin.List.listSameRef, hne]
  have h2 : (Value.ref C == Value.type "list") = false := rfl
  have h3 : (Value.ref C == Value.type "tuple") = false := rfl
  simp only [h1, h2, h3, Bool.or_false, Bool.false_eq_true, if_false]
  refine wpAny_bind (PySem.W.owit_iter hF I.ok.mod.kin J O.it O.itF ?_)
  have r2 : Vals [V.ref x] [Value.ref x] := .cons rfl .nil
  have hsp : spIterR C [.ref x] H (fun v H' => ∃ it, H it = none ∧ v = .ref it ∧ H' = upd H it (ItT ar it 0)) E0 := ⟨x, dx, ar, fs, ys, rfl, hx, hl, ha, fun it ni => ⟨it, ni, rfl, rfl⟩⟩
  have hlen := O.okI.len _ _ _ _ hsp
  refine wpAny_call (codeAny_mono (O.okI.run A1.in1 X.stack s H ⟨[.ref x], []⟩ [.ref x] [.ref x] _ _ (sb.room.mono (by decide)) (env_sub sb I) (by
    have := O.biI s [.ref x] I.kIn (by simpa using hlen)
    simpa using this) r2 hsp) fun r s' hq' => ?_)
  cases r with
  | error e => exact hq'.elim
  | ok fl =>
    cases fl with
    | next => exact False.elim hq'
    | brk => exact False.elim hq'
    | cont => exact False.elim hq'
    | ret u =>
      obtain ⟨v, H', I', rv, it, ni, rfl, rfl⟩ := I.after hq'
      cases rv
      have ni' : ∀ {b : Addr} {o : HO}, H b = some o → b ≠ it := fun e z => by rw [z, ni] at e; cases e
      have hx' : upd H it (ItT ar it 0) x = some (.ins C dx fs) := (upd_ne (ni' hx)).trans hx
      have ha' : upd H it (ItT ar it 0) ar = some (.tup ys) := (upd_ne (ni' ha)).trans ha
      have hq2 : upd H it (ItT ar it 0) q = some (.lst []) := (upd_ne (ni' hq)).trans hq
      have hi' : upd H it (ItT ar it 0) it = some (ItT ar it 0) := upd_same
      unfold PySem.W.OwitIt
      refine wpAny_specialOf (I'.hok it _ hi').1.typeIs PySem.F.slot_tuple_iterator_next.lookup ?_
      refine wpAny_bind (wpAny_holding (own_hintL sb O I' hx' hl ha' fun room s3 I3 => ?_))
      have loop : ∀ (H3 : Hp) (s4 : Shared), Inv X pins σ H3 s4 → H3 q = some (.lst []) → H3 it = some (ItT ar it 0) → H3 ar = some (.tup ys) → (∀ b, b ≠ q → b ≠ it → H3 b = H b) → codeAny (model X.prog X.w) A1 (.builtin "list.extend.loop" ⟨[.ref q, .ref it, .none], []⟩) Rs s4 := fun H3 s4 I4 hq4 hi4 ha4 hk =>
        tup_loop hA (ni' hq) hqr (ni' ha) (fun H' s5 I5 hq5 hk5 => hdone it H' s5 ni I5 hq5 hk5) ys.length [] ys H3 s4 rfl rfl I4 hq4 hi4 ha4 hk
      have hk0 : ∀ b, b ≠ q → b ≠ it → upd H it (ItT ar it 0) b = H b := fun b _ h2 => upd_ne h2
      refine wpAny_ite_split (fun _ => ?_) (fun _ => wpAny_pure ⟨plainId_quiet PySem.F.plain_extend_loop _, loop _ _ I3 hq2 hi' ha' hk0⟩)
      obtain ⟨z, its, k, r3, hl3, e3⟩ := I3.lstM hq2
      cases r3
      refine wpAny_bind (wpAny_rule ?_)
      refine wpAny_bind ?_
      show wpAny _ _ (updateSeq q (·.push .none) >>= fun _ => updateSeq q (·.pop)) _ _ _
      refine wpAny_bind (wpAny_updateSeq e3 rfl ?_)
      have I4 := I3.lset (f := (·.push Value.none)) (its' := [Value.none]) (ys := [.non]) (t' := s3.toks) hq2 e3 (by simp) (.cons rfl .nil) (by rw [List.length_singleton, sizeLine_eq]; decide)
      obtain ⟨z4, its4, k4, r4, hl4, e4⟩ := I4.lstM upd_same
      obtain ⟨u4, rfl, ru4⟩ := r4.one
      refine wpAny_updateSeq e4 rfl ?_ (by show 1 ≤ sizeLine; rw [sizeLine_eq]; decide) (by show 0 ≤ sizeLine + 1; exact Nat.zero_le _)
      have I5 := I4.lset (f := (·.pop)) (its := [u4]) (its' := []) (ys := []) (t' := s3.toks) upd_same e4 (by rfl) .nil (Nat.zero_le _)
      refine wpAny_pure ⟨plainId_quiet PySem.F.plain_extend_loop _, loop _ _ I5 upd_same ?_ ?_ fun b h1 h2 => ?_⟩
      · rw [upd_upd, upd_ne (Ne.symm (ni' hq))]; exact hi'
      · rw [upd_upd, upd_ne (Ne.symm hqr)]; exact ha'
      · rw [upd_upd, upd_ne h1]; exact hk0 b h1 h2
/-- list(x) -/
def rListI (C : Addr) : List V → Hp → VK → Prop := fun xs H Q => ∃ (x dx ar : Addr) (fs : List (Str × V)) (ys : List V), xs = [.ref x] ∧ H x = some (.ins C dx fs) ∧ fs.lookup ("rows" : Str) = some (V.ref ar) ∧ H ar = some (.tup ys) ∧
  ∀ (H' : Hp) (q : Addr), Same H H' → H q = none → H' q = some (.lst ys) → Q (.ref q) H'
theorem call_listI (O : OwnC X.prog X.w X.K X.mg X.base C fI fL fdI fdL) (hr : Room 4 X.A) : CallR X (.type "list") (rListI C) := by
  intro pins s σ H xs us Q I rv h
  obtain ⟨x, dx, ar, fs, ys, rfl, hx, hl, ha, q⟩ := h
  obtain ⟨u, rfl, ru⟩ := rv.one
  cases ru
  have sb : Sub X 2 X.A.in1.in1 := (Sub.in1 (Sub.in1 (⟨hr, rfl⟩ : Sub X 4 X.A)))
  refine callType_codes (Q₁ := fun obj s₁ => obj = .ref s.heap.objs.size ∧ s₁ = { s with heap := s.heap.push { cls := .type "list", data := .seq #[] } }) PySem.F.called_list (PySem.F.typeCall_list_1 _) PySem.F.entry_list_init
    (code_list_new _ ⟨rfl, rfl⟩) fun obj s₁ h₁ => ?_
  obtain ⟨rfl, rfl⟩ := h₁
  have hS : (s.heap.push { cls := .type "list", data := .seq #[] }).get? s.heap.objs.size = some { cls := .type "list", data := .seq #[] } := Heap.get?_push_size _ rfl
  refine ⟨⟨_, hS, rfl⟩, PySem.F.args_list_init_2 _ _, ?_⟩
  have fr : H s.heap.objs.size = none := I.hok.fresh (Nat.le_refl _)
  have I1 : Inv X pins σ (upd H s.heap.objs.size (.lst [])) { s with heap := s.heap.push { cls := .type "list", data := .seq #[] } } := I.lnew (its := []) (t' := s.toks) .nil (Nat.zero_le _)
  show wpAny _ _ (do let old ← Builtin.List.listItems (.ref s.heap.objs.size); Builtin.List.listUpdate (.ref s.heap.objs.size) (fun _ => #[]); letGo old.toList.reverse; Builtin.List.listExtendWith (.ref s.heap.objs.size) (.ref x) .none) _ _ _
  refine wpAny_bind ?_
  unfold Builtin.List.listItems
  refine wpAny_bind (wpAny_seqItems hS rfl (wpAny_pure ?_))
  show wpAny _ _ (updateSeq s.heap.objs.size (fun _ => #[]) >>= fun _ => letGo (#[] : Array Value).toList.reverse >>= fun _ => Builtin.List.listExtendWith (.ref s.heap.objs.size) (.ref x) .none) _ _ _
  refine wpAny_bind (wpAny_updateSeq hS rfl ?_)
  have I2 := I1.lset (f := fun _ => #[]) (its := []) (its' := []) (ys := []) (t' := s.toks) upd_same hS rfl .nil (Nat.zero_le _)
  rw [upd_upd] at I2
  refine wpAny_bind (wpAny_letGo ?_)
  have st : ∀ {b : Addr} {o : HO}, H b = some o → upd H s.heap.objs.size (.lst []) b = some o := fun {b o} e => (upd_ne (ne_of_none e fr)).trans e
  exact own_extendL (A1 := X.A.in1) (Rs := wants (fun r s₂ => r = .none ∧ EP X pins σ Q (.ref s.heap.objs.size) s₂) X.xe) sb hr.hd O I2 (st hx) hl (st ha) upd_same
    (fun it H' s' ni I' hq' hk => ⟨rfl, .ref s.heap.objs.size, H', I', rfl, q H' _ (fun b o e => by
      have n1 : b ≠ s.heap.objs.size := ne_of_none e fr
      have n2 : b ≠ it := fun z => by rw [z] at e; have := ni; rw [upd_ne (fun y => by rw [y, fr] at e; cases e)] at this; rw [this] at e; cases e
      rw [hk b n1 n2, upd_ne n1]; exact e) fr hq'⟩)
end
end K01

/-! a record's own len, iter, == -/
namespace K01
open PySem PySem.Spec PyProof.Rows L2
abbrev sREq : Stmt := inClass (top 24) 16
abbrev sRLen : Stmt := inClass (top 24) 17
abbrev sRIter : Stmt := inClass (top 24) 18
def spREq (CR : Addr) : Sp := fun vs H Q _ => ∃ (a b : Addr) (wd : Int) (D : PyData), vs = [.ref a, .ref b] ∧ RecAt CR H a wd D ∧ RecAt CR H b wd D ∧ D.depth ≤ 64 ∧ Q (.bl true) H
/-- == of two instances -/
def rEqI (C : Addr) (sp : Sp) : R2 := fun x y H Q => ∃ (a b dx dy : Addr) (fs gs : List (Str × V)), x = .ref a ∧ y = .ref b ∧ H a = some (.ins C dx fs) ∧ H b = some (.ins C dy gs) ∧ sp [.ref a, .ref b] H (fun v H' => ∃ b, v = .bl b ∧ Q (.bl b) H') E0
theorem op_eqI {X : Cx} {n : Nat} {CX : CXT} {C f : Addr} {fd : FuncData} {ps : List Str} {sp : Sp} (F : FnOk X.prog X.w X.K X.mg X.base CX n f fd ps sp) (nf : PySem.W.notFirst X.K C (.ref C) = true)
    (hs : PySem.W.findIn X.K (.ref C) "__eq__" = some (some (.ref f))) (hf : PySem.W.isFn X.K (.ref f) = true) (hb : Binds X.K fd ps []) (hx : Passes CX X E0) (hr : Room n X.A) : OpR X (compareOp .Eq) (rEqI C sp) := by
  intro pins s σ H x y u v Q I rx ry h
  obtain ⟨a, b, dx, dy, fs, gs, rfl, rfl, ha, hb2, hsp⟩ := h
  cases rx
  cases ry
  obtain ⟨mA, J, _⟩ := ins_get I.hok ha
  obtain ⟨od, J, _⟩ := J.look
  obtain ⟨mA2, J2, _⟩ := ins_get I.hok hb2
  obtain ⟨od2, J2, _⟩ := J2.look
  obtain ⟨m, hF⟩ := I.fr
  refine PySem.W.cmp_K (op := .Eq) (tb := .ref C) hr.units0 hF I.ok.mod.kin J J2.type nf hs hf ?_
  have e0 : Env0 X.prog X.w X.K X.mg X.base X.A X.stack s H := I.env0
  have hl := F.len _ _ _ _ hsp
  have r2 : Vals [V.ref a, V.ref b] [Value.ref a, Value.ref b] := .cons rfl (.cons rfl .nil)
  refine wpAny_call (codeAny_mono (F.run X.A X.stack s H ⟨[.ref a, .ref b], []⟩ [.ref a, .ref b] [.ref a, .ref b] _ E0 hr e0 (by
    have := hb s [.ref a, .ref b] I.kIn (by simpa using hl)
    simpa using this) r2 hsp) fun r s' hq => ?_)
  cases r with
  | error e => exact hx pins σ H s e s' I hq
  | ok fl =>
    cases fl with
    | ret w =>
      obtain ⟨z, H', I', rz, b, ez, q⟩ := I.after hq
      subst ez
      cases rz
      exact ⟨.bl b, H', I', rfl, q⟩
    | next => exact False.elim hq
    | brk => exact False.elim hq
    | cont => exact False.elim hq
section
variable {P : Program} {w : World} {K : PySem.W.Frag} {mg : Str → Option Value} {base : Heap}
theorem ok_rlen {f CR : Addr} {fd : FuncData} (F : FunD K "__len__" "Record.__len__" (defArgs sRLen) (defBody sRLen) (defScope sRLen) [] [] f fd) (T : RecC K CR) (zl : mg "len" = none) : FnOk P w K mg base CX0 1 f fd ["self"] (spLenR CR) := by
  have sc : FnScope ["self"] ["self"] (defScope sRLen) := ⟨rfl, rfl, rfl, by decide +kernel, rfl, by decide +kernel, by decide +kernel⟩
  refine F.ok sc (fun vs H Q E h => ?_) (fun cdv A outer s H vs Q E hr h => ?_)
  · obtain ⟨x, dx, ar, fs, ys, rfl, _⟩ := h
    rfl
  · obtain ⟨x, dx, ar, fs, ys, rfl, hx, hl, ha, q⟩ := h
    refine ⟨_, PSs.nox (pss_one (ps_ret (pe_callB call_len_seq (by rfl) zl boot_len (pa_cons (pe_fld (pv 0) rfl) pa_nil)))), ?_⟩
    exact ⟨_, rfl, x, CR, dx, fs, _, rfl, hx, T.cl, T.nRows, hl, ar, ys, rfl, .inr (SqT.of ha), q⟩
theorem ok_riter {f CR : Addr} {fd : FuncData} (F : FunD K "__iter__" "Record.__iter__" (defArgs sRIter) (defBody sRIter) (defScope sRIter) [] [] f fd) (T : RecC K CR) (zi : mg "iter" = none) : FnOk P w K mg base CX0 1 f fd ["self"] (spIterR CR) := by
  have sc : FnScope ["self"] ["self"] (defScope sRIter) := ⟨rfl, rfl, rfl, by decide +kernel, rfl, by decide +kernel, by decide +kernel⟩
  refine F.ok sc (fun vs H Q E h => ?_) (fun cdv A outer s H vs Q E hr h => ?_)
  · obtain ⟨x, dx, ar, fs, ys, rfl, _⟩ := h
    rfl
  · obtain ⟨x, dx, ar, fs, ys, rfl, hx, hl, ha, q⟩ := h
    refine ⟨_, PSs.nox (pss_one (ps_ret (pe_callB call_iterT (by rfl) zi (by decide +kernel) (pa_cons (pe_fld (pv 0) rfl) pa_nil)))), ?_⟩
    exact ⟨_, rfl, x, CR, dx, fs, _, rfl, hx, T.cl, T.nRows, hl, ar, ys, rfl, ha, q⟩
theorem ok_req {f CR : Addr} {fd : FuncData} (F : FunD K "__eq__" "Record.__eq__" (defArgs sREq) (defBody sREq) (defScope sREq) [] [] f fd) (T : RecC K CR) (zt : mg "type" = none) : FnOk P w K mg base CX0 1 f fd ["self", "other"] (spREq CR) := by
  have sc : FnScope ["self", "other"] ["self", "other"] (defScope sREq) := ⟨rfl, rfl, rfl, by decide +kernel, rfl, by decide +kernel, by decide +kernel⟩
  refine F.ok sc (fun vs H Q E h => ?_) (fun cdv A outer s H vs Q E hr h => ?_)
  · obtain ⟨a, b, wd, D, rfl, _⟩ := h
    rfl
  · obtain ⟨a, b, wd, D, rfl, ⟨dx, ar, _, _, _, _, _, _, _, ha, hD⟩, ⟨dy, br, _, _, _, _, _, _, _, hb, hD2⟩, dep, q⟩ := h
    refine ⟨_, PSs.nox (pss_one (ps_ret (pe_and (pe_cmpR op_is_cls (pe_callTy cr_type (by rfl) zt (by decide +kernel) (pa_cons (pv 0) pa_nil)) (pe_callTy cr_type (by rfl) zt (by decide +kernel) (pa_cons (pv 1) pa_nil)) (nomark _)) (pe_and (pe_cmpR op_eq (pe_fld (pv 0) rfl) (pe_fld (pv 1) rfl) (nomark _)) (pe_one (pe_cmpR (op_eqD hr.units) (pe_fld (pv 0) rfl) (pe_fld (pv 1) rfl) (nomark _))))))), ?_⟩
    refine ⟨_, rfl, a, CR, dx, _, rfl, ha, _, rfl, b, CR, dy, _, rfl, hb, CR, CR, rfl, rfl, .inl rfl, ?_⟩
    rw [decide_eq_true rfl]
    refine ⟨_, rfl, iteT ?_⟩
    refine ⟨_, rfl, a, CR, dx, _, _, rfl, ha, T.cl, T.nWidth, rfl, _, rfl, b, CR, dy, _, _, rfl, hb, T.cl, T.nWidth, rfl, rfl, _, rfl, ?_⟩
    rw [decide_eq_true rfl]
    refine iteT ⟨_, rfl, a, CR, dx, _, _, rfl, ha, T.cl, T.nRows, rfl, _, rfl, b, CR, dy, _, _, rfl, hb, T.cl, T.nRows, rfl, _, _, hD.dp, hD2.dp, shaped_of hD.lay dep, shaped_of hD.lay dep, ?_⟩
    rw [PySem.SeqAt.eqv_refl D hD.lay]
    exact q
end
end K01

/-! a record is asked for: made, or refused by which fault -/
namespace K01
open PySem PySem.Spec PyProof.Rows L2
/-- C(..) in a try: its __init__ may raise -/
def tMakeS (C : Addr) (sp : Sp) (E : L2.St → XK) (t : TA) : TE := fun σ H Q => t σ H fun vs H1 => ∀ x dx, H1 x = none → H1 dx = none → dx ≠ x →
  sp (.ref x :: vs) (upd (upd H1 dx (.own x)) x (.ins C dx [])) (fun v H2 => v = .non ∧ Q (.ref x) H2) (E σ)
section
variable {X : Cx} {CX : CXT} {k : Nat} {f C : Addr} {fd : FuncData} {ps : List Str} {sp : Sp} {E : L2.St → XK} {x : Str} {p pos : Pos} {e : Expr} {es : List Expr} {t : TA}
theorem run_makeS {pins : List (Addr × Obj)} {σ : L2.St} {H : Hp} {s : Shared} {Q : VK} {us : List Value} {vs : List V} (M : Mk X.K C f) (F : FnOk X.prog X.w X.K X.mg X.base CX k f fd ps sp) (hr : Room (k + 1) X.A) (hb : Binds X.K fd ps [])
    (hx : PassesAt CX X σ (E σ)) (I : Inv X pins σ H s) (r : Vals vs us)
    (h : ∀ x dx, H x = none → H dx = none → dx ≠ x → sp (.ref x :: vs) (upd (upd H dx (.own x)) x (.ins C dx [])) (fun v H2 => v = .non ∧ Q (.ref x) H2) (E σ)) :
    wpAny (model X.prog X.w) X.A (call (.ref C) us) (EP X pins σ Q) X.xe s := by
  have hq := h (s.heap.objs.size + 1) s.heap.objs.size (I.hok.fresh (Nat.le_succ _)) (I.hok.fresh (Nat.le_refl _)) (Nat.ne_of_lt (Nat.lt_succ_self _))
  have I2 := Inv.made (C := C) I
  have r2 : Vals (V.ref (s.heap.objs.size + 1) :: vs) (Value.ref (s.heap.objs.size + 1) :: us) := .cons rfl r
  have hl : (Value.ref (s.heap.objs.size + 1) :: us ++ []).length = ps.length := by
    have e := r2.length
    rw [F.len _ _ _ _ hq] at e
    rw [List.append_nil]
    exact e.symm
  have hbb := hb _ (Value.ref (s.heap.objs.size + 1) :: us) I2.kIn hl
  rw [List.append_nil] at hbb
  refine wpAny_call (make_map (f := f) I.kIn M.makes M.init (beq_iff_eq.mp M.fn) (codeAny_mono (F.run _ X.stack _ _ ⟨Value.ref (s.heap.objs.size + 1) :: us, []⟩ (Value.ref (s.heap.objs.size + 1) :: us) _ _ (E σ) (hr.make C us [])
    (I2.env0.make C us []) hbb r2 hq) fun r s' hq' => ?_))
  cases r with
  | error e => exact hx pins _ _ e s' I2 hq'
  | ok fl =>
    cases fl with
    | ret u =>
      obtain ⟨v, H', I3, rv, ev, q3⟩ := I2.after hq'
      subst ev
      exact ⟨rv, ⟨V.ref (s.heap.objs.size + 1), H', I3, rfl, q3⟩⟩
    | next => exact False.elim hq'
    | brk => exact False.elim hq'
    | cont => exact False.elim hq'
theorem pe_makeS (M : Mk X.K C f) (F : FnOk X.prog X.w X.K X.mg X.base CX k f fd ps sp) (hr : Room (k + 1) X.A) (hg : Gl X x) (hm : X.mg x = some (.ref C)) (hb : Binds X.K fd ps []) (hx : ∀ σ, PassesAt CX X σ (E σ))
    (ha : PA X (e :: es) t) (hdb : (x == ("__debug__" : Str)) = false := by decide) (he : starEach (e :: es) X.env = (false, eval e X.env) :: starEach es X.env := by rfl) (hpl : (backTo pos (starEach es X.env)).any (·.1) = false := by rfl) :
    PE X (.Call (.Name x p) (e :: es) [] pos) (tMakeS C sp E t) := by
  refine ⟨fun pins s σ H Q I h => ?_⟩
  refine wpAny_Call_Name_kw (ld_glob I hg hm ?_ hdb)
  refine PySem.W.callWith_K (h₀ := X.base) I.ok.mod.kin M.kp (thn (ha.run pos pins s σ H _ I h) fun us s1 ⟨vs, H1, I1, r, q⟩ => ⟨I1.kIn, ?_⟩) he hpl
  exact run_makeS M F hr hb (hx σ) I1 r q
end
def rIsD (K : PySem.W.Frag) (D a : Addr) (cls : Value) (d : Option Addr) : List V → Hp → VK → Prop := fun xs H Q => ∃ (c : V) (cv : Value) (b : Bool) (dd : Addr) (fs : List (Str × V)), xs = [.ref a, c] ∧ cls = .ref D ∧ d = some dd ∧ H dd = some (.xd fs) ∧ (∀ u, RelV c u → u = cv) ∧ PySem.W.kitOne K (.ref D) cv = some b ∧ Q (.bl b) H
theorem clsIn_some {K : PySem.W.Frag} {D : Addr} (h : PySem.W.hasDictIn K D = true) : (PySem.W.clsIn K D).isSome = true := by
  obtain ⟨cd, hc, _⟩ := PySem.W.any_some h
  rw [hc]
  rfl
theorem call_isD {X : Cx} {a D : Addr} {oe : Obj} {cls : Value} {d : Option Addr} {pn : List (Addr × Obj)} (C : ExcC X.K D) (hz : Zc cls d oe) (hf : ∃ vs, oe.data = .fields vs) : CallR (X.suite a ((a, oe) :: pn)) (.builtin "isinstance") (rIsD X.K D a cls d) := by
  intro pins s σ H xs us Q I r h
  obtain ⟨c, cv, b, dd, fs, rfl, rfl, rfl, ed, hcv, e, q⟩ := h
  obtain ⟨u1, u2, rfl, r1, r2⟩ := vals2 r
  cases (show u1 = Value.ref a from r1)
  have ec := hcv _ r2
  subst ec
  obtain ⟨hget, _⟩ := I.pin (a, oe) (List.mem_append.mpr (.inl List.mem_cons_self))
  obtain ⟨vs, hv⟩ := hf
  have hx : ObjOk X.prog X.w H s.heap dd (.xd fs) := I.hok dd _ ed
  obtain ⟨mA, hns, hr⟩ := hx
  obtain ⟨od, ho, hl⟩ := lookIn_ns hns
  have J : PySem.W.InstAt s.heap a oe D (some od) := ⟨hget, hz.1, by unfold PySem.W.notCls; rw [hv] <;> rfl, by rw [hz.2]; exact ho⟩
  exact PySem.W.kia_one (PySem.W.kitx_exc (clsIn_some C.hd) C.hg C.hk C.hs C.ha C.hn C.ht C.hm) I.kIn J e (fun z => nomatch z) fun tk => ⟨.bl b, H, I.tok tk, rfl, q⟩

theorem jP_lay {B : Bk} {wd : Int} {r : Rw} {z : Str} (h : jP B wd r = some z) : layS z := by
  cases r with
  | comes l k n hs =>
    have h : jPc B wd l hs = some z := h
    unfold jPc at h
    repeat' split at h
    all_goals first | (cases h; unfold layS; decide +kernel) | cases h
  | weds f m =>
    have h : jPw B f m = some z := h
    unfold jPw at h
    repeat' split at h
    all_goals first | (cases h; unfold layS; decide +kernel) | cases h
  | born f m k l n =>
    have h : jPb B f m l = some z := h
    unfold jPb at h
    repeat' split at h
    all_goals first | (cases h; unfold layS; decide +kernel) | cases h
  | dies l =>
    have h : jPd B l = some z := h
    unfold jPd at h
    repeat' split at h
    all_goals first | (cases h; unfold layS; decide +kernel) | cases h
theorem fault_lay {wd : Int} : ∀ {os : List (Option Rw)} {B : Bk} {i j : Nat} {z : Str}, faultO wd B i os = some (j, z) → layS z
  | [], _, _, _, _ => fun h => by cases h
  | o :: os, B, i, j, z => fun h => by
    have h : (match jD B wd o with | some z => some (i, z) | none => faultO wd (stepO B o) (i + 1) os) = some (j, z) := h
    cases e : jD B wd o with
    | some y =>
      rw [e] at h
      cases h
      cases o with
      | none => cases e; unfold layS; decide +kernel
      | some r => exact jP_lay e
    | none =>
      rw [e] at h
      exact fault_lay h
def madeD (wd : Int) (os : List (Option Rw)) : PyData := .tuple [.str "made", .int wd, rowsD os]
def refD (i : Int) (z : Str) : PyData := .tuple [.str "refused", .bool true, .bool true, .int i, .str z]
def spAsked : Sp := fun vs H Q _ => ∃ (wd : Int) (v : V) (os : List (Option Rw)) (d : PyData) (ds : List PyData), vs = [.int wd, v] ∧ Plan H wd v os d ds ∧
  (faultO wd Bk.new 0 os = none → ∀ (H' : Hp) (z : Addr), Same H H' → Dt Any H' (.ref z) (madeD wd os) → Q (.ref z) H') ∧
  ∀ i x, faultO wd Bk.new 0 os = some (i, x) → ∀ (H' : Hp) (z : Addr), Same H H' → H' z = some (.tup [.str "refused", .bl true, .bl true, .int i, .str x]) → Q (.ref z) H'
/-- Record(..) -/
structure RecMk (P : Program) (w : World) (K : PySem.W.Frag) (mg : Str → Option Value) (base : Heap) (CR CE CU fI : Addr) (fdI : FuncData) : Prop where
  cl : RecC K CR
  mks : Mk K CR fI
  gl : mg "Record" = some (.ref CR)
  ok : FnOk P w K mg base (L2.CX P w) 7 fI fdI ["self", "width", "rows"] (spRec CR CE)
  bi : Binds K fdI ["self", "width", "rows"] []
  gE : mg "BadRecord" = some (.ref CE)
  gU : mg "CustomError" = some (.ref CU)
  gV : mg "ValueError" = none
  zi : mg "isinstance" = none
  exC : ExcC K CE
  xf : XfC K CE
  nI : PySem.W.findIn K (.ref CE) "index" = some none
  nW : PySem.W.findIn K (.ref CE) "what" = some none
  ex : PySem.W.exmOne K (.ref CE) (.ref CU) = some true
  kE : PySem.W.kitOne K (.ref CE) (.ref CE) = some true
  kV : PySem.W.kitOne K (.ref CE) (.type "ValueError") = some true
section
variable {P : Program} {w : World} {K : PySem.W.Frag} {mg : Str → Option Value} {base : Heap}
abbrev nmA : List Str := ["_law_width", "_law_rows", "_law_record", "_law_told", "e"]
theorem scAsked : FnScope nmA ["_law_width", "_law_rows"] (defScope sAsked) := ⟨rfl, rfl, rfl, by decide +kernel, rfl, by decide +kernel, by decide +kernel⟩
theorem ok_asked {f CR CE CU fI : Addr} {fd fdI : FuncData} (F : FnP K "_law_asked" sAsked f fd) (R : RecMk P w K mg base CR CE CU fI fdI) : FnOk P w K mg base CX0 9 f fd ["_law_width", "_law_rows"] spAsked := by
  refine F.ok scAsked (fun vs H Q E h => ?_) (fun cdv A outer s H vs Q E hr h => ?_)
  · obtain ⟨wd, v, os, d, ds, rfl, _⟩ := h
    rfl
  · obtain ⟨wd, v, os, d, ds, rfl, pl, q1, q2⟩ := h
    refine ⟨_, pss_cons (ps_try_as (i := 4)
        (tb := fun W => tSeq (tAsg (tMakeS CR (spRec CR CE) (WE W) (tCons (tVar 0) (tCons (tVar 1) tNil))) (gName 2))
          (tAsg (tTup (tCons (tC (.str "made")) (tCons (tFld K (tVar 2) "width") (tCons (tFld K (tVar 2) "rows") tNil)))) (gName 3)))
        (ts := fun a cls d => tAsg (tTup (tCons (tC (.str "refused")) (tCons (tCB (rIsD K CE a cls d) (tCons (tVar 4) (tCons (tC (.ref CE)) tNil))) (tCons (tCB (rIsD K CE a cls d) (tCons (tVar 4) (tCons (tC (.ty "ValueError")) tNil))) (tCons (tXf a cls d CE "index" (tVar 4)) (tCons (tXf a cls d CE "what" (tVar 4)) tNil)))))) (gName 3))
        (Wout := fun _ _ _ _ => False) rfl rfl scAsked.nd rfl rfl ⟨rfl, by decide, .inl R.gU⟩ takes0
        (fun W pn xe tk _ => pss_cons (ps_set (i := 2) scAsked.nd rfl (.inl rfl) (pe_makeS R.mks R.ok hr (by rfl) R.gl R.bi (fun σ => passAt tk σ) (pa_cons (pv 0) (pa_cons (pv 1) pa_nil))))
          (pss_one (ps_set (i := 3) scAsked.nd rfl (.inl rfl) (pe_tup (pa_cons pe_str (pa_cons (pe_fld (pv 2) rfl) (pa_cons (pe_fld (pv 2) rfl) pa_nil)))))))
        (fun a oe cls d pn hz hf => pss_one (ps_set (i := 3) scAsked.nd rfl (.inl rfl) (pe_tup (pa_cons pe_str
          (pa_cons (pe_callB (call_isD R.exC hz hf) (by rfl) R.zi (by decide +kernel) (pa_cons (pv 4) (pa_cons (pe_glob (by rfl) R.gE (v := .ref CE) rfl (by decide +kernel)) pa_nil)))
          (pa_cons (pe_callB (call_isD R.exC hz hf) (by rfl) R.zi (by decide +kernel) (pa_cons (pv 4) (pa_cons (pe_bltn (by rfl) R.gV (by decide +kernel) (v := .ty "ValueError") rfl) pa_nil)))
          (pa_cons (pe_xf R.xf R.nI hz hf (pv 4)) (pa_cons (pe_xf R.xf R.nW hz hf (pv 4)) pa_nil)))))))))
      (pss_one (ps_ret (pv 3))), ?_⟩
    refine ⟨_, rfl, _, rfl, fun x dx nx nd ne => ?_⟩
    have s0 := same_ins (C := CR) nx nd ne
    refine ⟨x, dx, wd, v, os, d, ds, rfl, upd_same, pl.same s0, fun eo H2 rec fr => ⟨rfl, ?_⟩, fun i z eo H2 e ndd hd s2 => ?_⟩
    · have s2 : Same H H2 := fun y' o' e' => fr _ _ (s0 _ _ e') (ne_of_none e' nx)
      obtain ⟨dx2, ar, ap, af, ab, aw, ac, al, b, hx2, hD⟩ := rec
      refine ⟨_, rfl, x, CR, dx2, _, _, rfl, hx2, R.cl.cl, R.cl.nWidth, rfl, _, rfl, x, CR, dx2, _, _, rfl, hx2, R.cl.cl, R.cl.nRows, rfl, (by show 3 ≤ sizeLine; decide), fun u nu => ?_⟩
      have s3 := same_upd (o := .tup [.str "made", .int wd, .ref ar]) nu
      exact ⟨_, rfl, q1 eo _ u (s2.trans s3) (.tup trivial upd_same (.cons (.str "made" (by decide) (by decide +kernel)) (.cons (.int wd) (.cons (hD.same s3) .nil))))⟩
    · have sH := s0.trans s2
      refine ⟨true, R.ex, fun _ a0 na0 => ?_, fun z => by cases z⟩
      refine ⟨_, rfl, _, .ref CE, true, e, _, rfl, rfl, rfl, hd, (fun u r => r), R.kE, ?_⟩
      refine ⟨_, rfl, _, .type "ValueError", true, e, _, rfl, rfl, rfl, hd, (fun u r => r), R.kV, ?_⟩
      refine ⟨_, rfl, rfl, rfl, e, _, _, rfl, hd, rfl, _, rfl, rfl, rfl, e, _, _, rfl, hd, rfl, (by show 5 ≤ sizeLine; decide), fun u nu => ?_⟩
      exact ⟨_, rfl, q2 i z eo _ u (sH.trans (same_upd nu)) upd_same⟩
end
end K01

/-! the law's loop: what stands from turn to turn; the end of a turn -/
namespace K01
open PySem PySem.Spec PyProof.Rows L2
def forBody : Stmt → List Stmt
  | .For _ _ b _ _ => b
  | _ => []
abbrev sTurn : List Stmt := forBody ((defBody sLaw).getD 4 (.Pass ⟨0, 0, 0, 0⟩))
abbrev nmL : List Str := ["_law_script", "_law_hand_here", "_law_width", "_law_labels_here", "_law_state", "_law_rows", "_law_due", "_law_many", "_law_k", "_law_row", "_law_sort", "_law_word_here", "_law_kept", "_law_good", "_law_plain_here", "_law_record"]
theorem scLaw : FnScope nmL ["_law_script"] (defScope sLaw) := ⟨rfl, rfl, rfl, by decide +kernel, rfl, by decide +kernel, by decide +kernel⟩
/-- what is due, as data -/
def dueD : Option (Nat × Str) → PyData
  | none => .none
  | some (i, z) => .tuple [.int (i : Int), .str z]
theorem due_app {wd : Int} {o : Option Rw} : ∀ (os : List (Option Rw)) {Z : St} {i : Nat}, dueO wd Z i (os ++ [o]) = match dueO wd Z i os with
    | some x => some x
    | none => match jLO (os.foldl eLO Z) wd o with
      | some z => some (i + os.length, z)
      | none => none
  | [], Z, i => by
    show (match jLO Z wd o with | some z => some (i, z) | none => none) = _
    cases e : jLO Z wd o with
    | some z =>
      show _ = (match jLO Z wd o with | some z => some (i + 0, z) | none => none)
      rw [e]
      rfl
    | none =>
      show _ = (match jLO Z wd o with | some z => some (i + 0, z) | none => none)
      rw [e]
  | a :: os, Z, i => by
    show (match jLO Z wd a with | some z => some (i, z) | none => dueO wd (eLO Z a) (i + 1) (os ++ [o])) = match (match jLO Z wd a with | some z => some (i, z) | none => dueO wd (eLO Z a) (i + 1) os) with
      | some x => some x
      | none => match jLO (os.foldl eLO (eLO Z a)) wd o with
        | some z => some (i + (os.length + 1), z)
        | none => none
    cases e : jLO Z wd a with
    | some z => rfl
    | none =>
      show dueO wd (eLO Z a) (i + 1) (os ++ [o]) = _
      rw [due_app os, show i + (os.length + 1) = i + 1 + os.length by omega]
/-- the places that a turn may write -/
abbrev Wr (p s k d m p2 D : Addr) : List Addr := [p, s, k, d, m, p2, D]
/-- all but W is kept, and every tuple -/
structure OffW (W : List Addr) (H H' : Hp) : Prop where
  kp : ∀ y o, y ∉ W → H y = some o → H' y = some o
  tp : ∀ y xs, H y = some (.tup xs) → H' y = some (.tup xs)
  al : ∀ y, H' y = none → H y = none
/-- the law's places -/
structure Pl (H1 : Hp) (p l la s k d m p2 D : Addr) : Prop where
  al : ∀ x ∈ Wr p s k d m p2 D, H1 x ≠ none
  np : p ∉ [s, k, d, m, p2, D, la]
  nl : l ∉ Wr p s k d m p2 D
  nla : la ∉ Wr p s k d m p2 D
  nD : D ∉ [p, s, k, d, m, p2]
theorem Dt.offW {W : List Addr} {H1 H H' : Hp} {v : V} {x : PyData} (h : Dt (New H1) H v x) (o : OffW W H H') (al : ∀ x ∈ W, H1 x ≠ none) : Dt (New H1) H' v x := h.to (fun _ z => z) fun a u n e => o.kp a u (fun z => al a z n) e
theorem DtAll.offW {W : List Addr} {H1 H H' : Hp} {v : List V} {x : List PyData} (h : DtAll (New H1) H v x) (o : OffW W H H') (al : ∀ x ∈ W, H1 x ≠ none) : DtAll (New H1) H' v x := h.to (fun _ z => z) fun a u n e => o.kp a u (fun z => al a z n) e
structure Lp (H1 H : Hp) (p l la s k d m p2 D : Addr) (L : List Str) (n : Nat) (vs : List V) (ds : List PyData) (os : List (Option Rw)) (Z : St) : Prop where
  hand : Hand p l H
  lab : H la = some (.lst (L.map V.str))
  lst : H D = some (.lst vs)
  its : DtAll (New H1) H vs ds
  rows : RowsD ds os
  rk : ∀ x ∈ ds, okR x = true
  st : StAt Z (3 * n) H s k d m p2
  back : ∀ a, H a = none → H1 a = none
section
variable {H1 H H' : Hp} {p l la s k d m p2 D : Addr} {L : List Str} {n : Nat} {vs : List V} {ds : List PyData} {os : List (Option Rw)} {Z : St} {dv : V} {due : Option (Nat × Str)}
theorem Kept.offW (kk : Kept p H H') (hh : Hand p l H) (hh' : Hand p l H') : OffW (Wr p s k d m p2 D) H H' := by
  obtain ⟨xs, e⟩ := hh.at_
  exact ⟨fun y o ny ey => kk _ _ (fun z => ny (by simp [z])) ey, fun y ys ey => kk _ _ (ne_of ey e (by intro z; cases z)) ey, fun y ny => hh'.back kk ny⟩
theorem Same.offW {W : List Addr} (s' : Same H H') : OffW W H H' := ⟨fun _ _ _ e => s' _ _ e, fun _ _ e => s' _ _ e, fun _ e => none_of s' e⟩
theorem Lp.kept (h : Lp H1 H p l la s k d m p2 D L n vs ds os Z) (F : Pl H1 p l la s k d m p2 D) (kk : Kept p H H') (hh' : Hand p l H') : Lp H1 H' p l la s k d m p2 D L n vs ds os Z := by
  have np := F.np
  simp only [List.mem_cons, List.not_mem_nil, or_false, not_or] at np
  obtain ⟨n1, n2, n3, n4, n5, n6, n7⟩ := np
  have o : OffW (Wr p s k d m p2 D) H H' := kk.offW h.hand hh'
  exact ⟨hh', kk _ _ (Ne.symm n7) h.lab, kk _ _ (Ne.symm n6) h.lst, h.its.offW o F.al, h.rows, h.rk, h.st.kept kk (fun b hb z => by
    simp only [List.mem_cons, List.not_mem_nil, or_false] at hb
    rcases hb with rfl | rfl | rfl | rfl | rfl <;> simp_all) h.hand.at_, fun a e => h.back a (o.al a e)⟩
theorem Lp.same (h : Lp H1 H p l la s k d m p2 D L n vs ds os Z) (s' : Same H H') : Lp H1 H' p l la s k d m p2 D L n vs ds os Z :=
  ⟨h.hand.same s', s' _ _ h.lab, s' _ _ h.lst, h.its.same s', h.rows, h.rk, h.st.same s', fun a e => h.back a (none_of s' e)⟩
theorem enter_off (h : StAt Z (3 * n) H s k d m p2) {Z' : St} {j : Nat} (h' : StAt Z' j H' s k d m p2) (kp : ∀ y o, y ∉ [k, d, m, p2] → H y = some o → H' y = some o) : OffW (Wr p s k d m p2 D) H H' := by
  refine ⟨fun y o ny e => kp y o (fun z => ny (List.mem_cons_of_mem _ (List.mem_cons_of_mem _ (List.mem_append_left [D] z)))) e, fun y xs e => kp y _ (fun z => ?_) e, fun y e => ?_⟩
  · simp only [List.mem_cons, List.not_mem_nil, or_false] at z
    obtain ⟨ts, ep, _⟩ := h.hp
    rcases z with rfl | rfl | rfl | rfl
    · rw [h.hk] at e; cases e
    · rw [h.hd] at e; cases e
    · rw [h.hm] at e; cases e
    · rw [ep] at e; cases e
  · cases ey : H y with
    | none => rfl
    | some o =>
      by_cases z : y ∈ [k, d, m, p2]
      · simp only [List.mem_cons, List.not_mem_nil, or_false] at z
        obtain ⟨ts, ep, _⟩ := h'.hp
        rcases z with rfl | rfl | rfl | rfl
        · rw [h'.hk] at e; cases e
        · rw [h'.hd] at e; cases e
        · rw [h'.hm] at e; cases e
        · rw [ep] at e; cases e
      · rw [kp _ _ z ey] at e; cases e
theorem Hand.off {W : List Addr} (h : Hand p l H) (o : ∀ y u, y ∉ W → H y = some u → H' y = some u) (n1 : p ∉ W) (n2 : l ∉ W) : Hand p l H' := by
  obtain ⟨cells, i, r, t, h1, h2, h3⟩ := h
  exact ⟨cells, i, r, t, o _ _ n1 h1, o _ _ n2 h2, h3⟩
theorem Lp.entered {r : Rw} (h : Lp H1 H p l la s k d m p2 D L n vs ds os Z) (F : Pl H1 p l la s k d m p2 D) (hZ : StAt (eL Z r) (3 * n + 3) H' s k d m p2) (kp : ∀ y o, y ∉ [k, d, m, p2] → H y = some o → H' y = some o) :
    Lp H1 H' p l la s k d m p2 D L (n + 1) vs ds os (eL Z r) := by
  have o : OffW (Wr p s k d m p2 D) H H' := enter_off h.st hZ kp
  obtain ⟨_, np, nl, nla, nD⟩ := id F
  simp only [Wr, List.mem_cons, List.not_mem_nil, or_false, not_or] at np nl nla nD
  exact ⟨h.hand.off kp (by simp [np, nl, nla, nD]) (by simp [np, nl, nla, nD]), kp _ _ (by simp [np, nl, nla, nD]) h.lab, kp _ _ (by simp [np, nl, nla, nD]) h.lst, h.its.offW o F.al, h.rows, h.rk, by rw [show 3 * (n + 1) = 3 * n + 3 by omega]; exact hZ, fun a e => h.back a (o.al a e)⟩
theorem Lp.more (h : Lp H1 H p l la s k d m p2 D L n vs ds os Z) : Lp H1 H p l la s k d m p2 D L (n + 1) vs ds os Z := ⟨h.hand, h.lab, h.lst, h.its, h.rows, h.rk, h.st.mono (by omega), h.back⟩
theorem RowsD.snoc {x : PyData} {o : Option Rw} (h : RowsD ds os) (r : RowD x o) (k : okD x) : RowsD (ds ++ [x]) (os ++ [o]) := by
  induction h with
  | nil => exact .cons r k .nil
  | cons a b _ ih => exact .cons a b ih
/-- a row joins -/
theorem Lp.push {v : V} {x : PyData} {o : Option Rw} (h : Lp H1 H p l la s k d m p2 D L n vs ds os Z) (F : Pl H1 p l la s k d m p2 D) (hv : Dt (New H1) H v x) (hr : RowD x o) (ho : okR x = true) :
    Lp H1 (upd H D (.lst (vs ++ [v]))) p l la s k d m p2 D L n (vs ++ [v]) (ds ++ [x]) (os ++ [o]) Z := by
  obtain ⟨_, np, nl, nla, nD⟩ := id F
  simp only [Wr, List.mem_cons, List.not_mem_nil, or_false, not_or] at np nl nla nD
  have of : OffW (Wr p s k d m p2 D) H (upd H D (.lst (vs ++ [v]))) := ⟨fun y u ny e => (upd_ne (fun z => ny (by simp [z]))).trans e, fun y xs e => (upd_ne (ne_of e h.lst (by intro z; cases z))).trans e, fun y e => by
    by_cases z : y = D
    · rw [z, upd_same] at e; cases e
    · rw [upd_ne z] at e; exact e⟩
  have kp : ∀ y u, y ∉ [D] → H y = some u → upd H D (.lst (vs ++ [v])) y = some u := fun y u ny e => (upd_ne (by simpa using ny)).trans e
  refine ⟨h.hand.off kp (by simp [np, nl, nla, nD]) (by simp [np, nl, nla, nD]), kp _ _ (by simp [np, nl, nla, nD]) h.lab, upd_same, (h.its.offW of F.al).app (.cons (hv.offW of F.al) .nil), h.rows.snoc hr (okR_ok ho), fun y hy => ?_, h.st.to (fun b u hb e => kp _ _ ?_ e) (fun b xs e => of.tp _ _ e), fun a e => h.back a (of.al a e)⟩
  · rcases List.mem_append.mp hy with hy | hy
    · exact h.rk y hy
    · rw [List.mem_singleton.mp hy]; exact ho
  · simp only [List.mem_cons, List.not_mem_nil, or_false] at hb ⊢
    intro z
    subst z
    simp [nD] at hb
theorem dueD_off {W : List Addr} (h : Dt Any H dv (dueD due)) (o : OffW W H H') : Dt Any H' dv (dueD due) := h.tups (by cases due with | none => rfl | some x => rfl) fun a xs _ e => o.tp _ _ e
end
/-- what stands between two turns -/
def TurnI (H1 : Hp) (p l la s k d m p2 D : Addr) (L : List Str) (wd n : Nat) (σ : L2.St) (H : Hp) : Prop := ∃ (dv : V) (x0 x7 x8 x9 x10 x11 x12 x13 x14 x15 : Option V) (vs : List V) (ds : List PyData) (os : List (Option Rw)) (Z : St),
  σ = [x0, some (.ref p), some (.int (wd : Int)), some (.ref la), some (.ref s), some (.ref D), some dv, x7, x8, x9, x10, x11, x12, x13, x14, x15] ∧ Lp H1 H p l la s k d m p2 D L n vs ds os Z ∧ vs.length = n ∧
  Dt Any H dv (dueD (dueO wd St.new 0 os)) ∧ (dueO wd St.new 0 os = none → os.foldl eLO St.new = Z)
/-- within a turn: the row is chosen -/
def TurnU (H1 : Hp) (p l la s k d m p2 D : Addr) (L : List Str) (wd n : Nat) (σ : L2.St) (H : Hp) : Prop := ∃ (dv v : V) (j : Int) (x0 x7 x11 x12 x13 x14 x15 : Option V) (vs : List V) (ds : List PyData) (os : List (Option Rw)) (Z : St) (dd : PyData) (o : Option Rw),
  σ = [x0, some (.ref p), some (.int (wd : Int)), some (.ref la), some (.ref s), some (.ref D), some dv, x7, some (.int (n : Int)), some v, some (.int j), x11, x12, x13, x14, x15] ∧ Lp H1 H p l la s k d m p2 D L n vs ds os Z ∧ vs.length = n ∧
  Dt Any H dv (dueD (dueO wd St.new 0 os)) ∧ (dueO wd St.new 0 os = none → os.foldl eLO St.new = Z) ∧ Dt (New H1) H v dd ∧ okR dd = true ∧ RowD dd o ∧
  ((j = 0 ∧ o = none) ∨ (j ≠ 0 ∧ ∃ xs r, dd = .tuple xs ∧ RwL xs r ∧ o = some r))
theorem RowsD.len_os {ds : List PyData} {os : List (Option Rw)} (h : RowsD ds os) : os.length = ds.length := h.len.symm
theorem jL_lay {wd : Int} {Z : St} {r : Rw} {z : Str} (h : jL Z wd r = some z) : layS z ∧ z.length ≤ 1000 := by
  have g : ∀ {x : Str}, some x = some z → (PyData.str x).canLay0 = true → x.length ≤ 1000 → layS z ∧ z.length ≤ 1000 := fun e h1 h2 => by cases e; exact ⟨h1, h2⟩
  cases r with
  | comes l k n hs =>
    have h : jLc Z wd l hs = some z := h
    unfold jLc at h
    repeat' split at h
    all_goals first | exact g h (by decide +kernel) (by decide +kernel) | cases h
  | weds f m =>
    have h : jLw Z f m = some z := h
    unfold jLw at h
    repeat' split at h
    all_goals first | exact g h (by decide +kernel) (by decide +kernel) | cases h
  | born f m k l n =>
    have h : jLb Z f m l = some z := h
    unfold jLb at h
    repeat' split at h
    all_goals first | exact g h (by decide +kernel) (by decide +kernel) | cases h
  | dies l =>
    have h : jLd Z l = some z := h
    unfold jLd at h
    repeat' split at h
    all_goals first | exact g h (by decide +kernel) (by decide +kernel) | cases h
section
variable {P : Program} {w : World} {K : PySem.W.Frag} {mg : Str → Option Value} {base : Heap}
theorem tTurn {f fW fE fA : Addr} {fdW fdE fdA : FuncData} {cdv : Value} {A : Around} {outer : List Env} {s0 : Shared} {H0 : Hp} {E : XK}
    (hr : Room 9 (A.deeper (envOfC "law" (defScope sLaw) s0.heap.objs.size f cdv))) (dW : Df P w K mg base "_law_word" 2 ["_law_state", "_law_width", "_law_row"] spWord fW fdW) (dE : Df P w K mg base "_law_enter" 1 ["_law_state", "_law_row"] spEnter fE fdE)
    (dA : Df P w K mg base "_law_as_list" 3 ["_law_hand_here", "_law_row"] spAs fA fdA) :
    ∃ u, PSs (cxOf CX0 P w K mg base nmL "law" (defScope sLaw) f cdv A outer s0 H0 E).nox (sTurn.drop 3) u ∧
      ∀ (H1 : Hp) (p l la s k d m p2 D : Addr) (L : List Str) (wd n : Nat) (σ : L2.St) (H : Hp) (T : Ends), Pl H1 p l la s k d m p2 D → n < 18 → TurnU H1 p l la s k d m p2 D L wd n σ H → (∀ σ' H', TurnI H1 p l la s k d m p2 D L wd (n + 1) σ' H' → T.nx σ' H') → u T σ H := by
  have hr1 := hr.mono (show 1 ≤ 9 by decide)
  have hr2 := hr.mono (show 2 ≤ 9 by decide)
  have hr3 := hr.mono (show 3 ≤ 9 by decide)
  refine ⟨_, (pss_cons (ps_if (pt_cmpR op_isN (pv 6) pe_non (nomark _))
      (pss_cons (ps_set (i := 11) scLaw.nd rfl (.inl rfl) (pe_ifExp (pt_cmpR op_eq (pv 10) pe_int (nomark _)) pe_str (pe_call dW.ok hr2 (by rfl) dW.gl dW.kp dW.bi .nil pass0 (pa_cons (pv 4) (pa_cons (pv 2) (pa_cons (pv 9) pa_nil))))))
      (pss_one (ps_if (pt_cmpR op_isN (pv 11) pe_non (nomark _))
        (pss_one (ps_expr (pe_call dE.ok hr1 (by rfl) dE.gl dE.kp dE.bi .nil pass0 (pa_cons (pv 4) (pa_cons (pv 9) pa_nil)))))
        (pss_one (ps_set (i := 6) scLaw.nd rfl (.inl rfl) (pe_tup (pa_cons (pv 8) (pa_cons (pv 11) pa_nil))))))))
      pss_nil)
    (pss_one (ps_expr (pe_bm PySem.F.plainAttrs_list PySem.F.slot_list_append PySem.F.type_list_append mt_append (pv 5) (pa_cons (pe_call dA.ok hr3 (by rfl) dA.gl dA.kp dA.bi .nil pass0 (pa_cons (pv 1) (pa_cons (pv 9) pa_nil))) pa_nil))))), ?_⟩
  rintro H1 p l la s k d m p2 D L wd n σ H T F hn ⟨dv, v, j, x0, x7, x11, x12, x13, x14, x15, vs, ds, os, Z, dd, o, rfl, I, hvs, hdv, hZ, hd, hok, hrow, hj⟩ q
  have fin : ∀ (H' : Hp) (dv' : V) (y11 : Option V) (Z' : St), Lp H1 H' p l la s k d m p2 D L (n + 1) vs ds os Z' → Dt Any H' dv' (dueD (dueO wd St.new 0 (os ++ [o]))) → (dueO wd St.new 0 (os ++ [o]) = none → (os ++ [o]).foldl eLO St.new = Z') →
      ∀ (w : V) (d' : PyData) (H2 : Hp), Dt (New H1) H2 w d' → RowD d' o → okR d' = true → Kept p H' H2 → Hand p l H2 → H2 D = some (.lst vs) ∧ vs.length < sizeLine ∧
        T.nx [x0, some (.ref p), some (.int (wd : Int)), some (.ref la), some (.ref s), some (.ref D), some dv', x7, some (.int (n : Int)), some v, some (.int j), y11, x12, x13, x14, x15] (upd H2 D (.lst (vs ++ [w]))) := by
    intro H' dv' y11 Z' I' hdv' hZ' w d' H2 h1 h2 h3 h4 h5
    have I2 := I'.kept F h4 h5
    refine ⟨I2.lst, lt_line (Nat.le_of_eq hvs) (by omega), q _ _ ⟨dv', x0, x7, _, _, _, y11, x12, x13, x14, x15, _, _, _, Z', rfl, I2.push F h1 h2 h3, by rw [List.length_append, hvs]; rfl, ?_, hZ'⟩⟩
    exact dueD_off (dueD_off hdv' (h4.offW (s := s) (k := k) (d := d) (m := m) (p2 := p2) (D := D) I'.hand h5)) (W := [D]) ⟨fun y u ny e => (upd_ne (fun z => ny (by simp [z]))).trans e, fun y xs e => (upd_ne (ne_of e I2.lst (by intro z; cases z))).trans e, fun y e => by
      by_cases z : y = D
      · rw [z, upd_same] at e; cases e
      · rw [upd_ne z] at e; exact e⟩
  have sok : ∀ {H' : Hp} {vs : List V} {ds : List PyData} {os : List (Option Rw)} {Z' : St} {n : Nat}, Lp H1 H' p l la s k d m p2 D L n vs ds os Z' → Sok (New H1) p H' := fun I' => ⟨I'.back, F.al p (by simp)⟩
  have due_o : dueO wd St.new 0 os = none → dueO wd St.new 0 (os ++ [o]) = match jLO Z wd o with | some z => some (n, z) | none => none := fun e => by
    rw [due_app os, e]
    show (match jLO (os.foldl eLO St.new) wd o with | some z => some (0 + os.length, z) | none => none) = _
    rw [hZ e, Nat.zero_add, I.rows.len_os, ← I.its.len, hvs]
  cases e : dueO wd St.new 0 os with
  | some x =>
    have e2 : dueO wd St.new 0 (os ++ [o]) = some x := by rw [due_app os, e]
    rw [e] at hdv
    cases hdv with
    | @tup t _ _ _ ht hts =>
      refine ⟨_, rfl, rfl, _, rfl, iteF ?_⟩
      refine ⟨_, rfl, .inl ⟨rfl, _, SqL.of I.lst⟩, _, rfl, _, rfl, p, l, New H1, v, dd, o, rfl, I.hand, sok I, hd, hrow, hok, fun w d' H2 h1 h2 h3 h4 h5 => ?_⟩
      exact ⟨D, vs, w, rfl, rfl, fin _ _ _ Z I.more (by rw [e2]; exact .tup trivial ht hts) (fun z => by rw [e2] at z; cases z) w d' H2 h1 h2 h3 h4 h5⟩
  | none =>
    rw [e] at hdv
    cases hdv
    refine ⟨_, rfl, rfl, _, rfl, iteT ?_⟩
    have lenN : ∀ {z : Str}, layS z → z.length ≤ 1000 → ∀ (H' : Hp), Lp H1 H' p l la s k d m p2 D L n vs ds os Z → Dt (New H1) H' v dd → dueO wd St.new 0 (os ++ [o]) = some (n, z) → ∀ (t : Addr), H' t = none → ∀ y11 : Option V,
        ∀ (H3 : Hp), H3 = upd H' t (.tup [.int (n : Int), .str z]) → (tDrop (tBM K "list" rAppend (tVar 5) (tCons (tCall spAs [] E0 (tCons (tVar 1) (tCons (tVar 9) tNil))) tNil))) T [x0, some (.ref p), some (.int (wd : Int)), some (.ref la), some (.ref s), some (.ref D), some (.ref t), x7, some (.int (n : Int)), some v, some (.int j), y11, x12, x13, x14, x15] H3 := by
      rintro z hz1 hz2 H' I' hd' e2 t nt y11 H3 rfl
      have s3 := same_upd (o := .tup [.int (n : Int), .str z]) nt
      have I3 := I'.same s3
      refine ⟨_, rfl, .inl ⟨rfl, _, SqL.of I3.lst⟩, _, rfl, _, rfl, p, l, New H1, v, dd, o, rfl, I3.hand, sok I3, hd'.same s3, hrow, hok, fun w d' H2 h1 h2 h3 h4 h5 => ?_⟩
      exact ⟨D, vs, w, rfl, rfl, fin _ _ _ Z I3.more (by rw [e2]; exact .tup trivial upd_same (.cons (.int _) (.cons (.str z hz2 hz1) .nil))) (fun z => by rw [e2] at z; cases z) w d' H2 h1 h2 h3 h4 h5⟩
    rcases hj with ⟨rfl, rfl⟩ | ⟨j0, xs, r, rfl, hw, rfl⟩
    · have e2 : dueO wd St.new 0 (os ++ [none]) = some (n, ("row" : Str)) := due_o e
      refine ⟨_, rfl, rfl, _, rfl, iteT ?_⟩
      refine ⟨_, rfl, rfl, _, rfl, iteF ?_⟩
      refine ⟨_, rfl, _, rfl, (by show 2 ≤ sizeLine; decide), fun t nt => ?_⟩
      exact lenN (by unfold layS; decide +kernel) (by decide +kernel) H I hd e2 t nt _ _ rfl
    · have e1 := due_o e
      refine ⟨_, rfl, rfl, _, rfl, ?_⟩
      rw [decide_eq_false (fun z => j0 (V.int.inj z))]
      refine iteF ⟨_, rfl, _, rfl, _, rfl, s, k, d, m, p2, Z, 3 * n, wd, v, _, xs, r, rfl, I.st, hd.any, rfl, hw, fun H' s' => ?_⟩
      have I2 := I.same s'
      have hd2 := hd.same s'
      cases ej : jL Z wd r with
      | none =>
        have e2 : dueO wd St.new 0 (os ++ [some r]) = none := by
          rw [e1]
          show (match jL Z wd r with | some z => some (n, z) | none => none) = none
          rw [ej]
        refine ⟨_, rfl, rfl, _, rfl, iteT ?_⟩
        refine ⟨_, rfl, _, rfl, s, k, d, m, p2, Z, 3 * n, v, xs, r, rfl, I2.st, hd2.any, hw, by omega, fun H3 hZ3 k3 => ?_⟩
        have I3 := I2.entered F hZ3 k3
        have o3 : OffW (Wr p s k d m p2 D) H' H3 := enter_off I2.st hZ3 k3
        refine ⟨_, rfl, .inl ⟨rfl, _, SqL.of I3.lst⟩, _, rfl, _, rfl, p, l, New H1, v, _, some r, rfl, I3.hand, sok I3, hd2.offW o3 F.al, hrow, hok, fun w d' H2 h1 h2 h3 h4 h5 => ?_⟩
        exact ⟨D, vs, w, rfl, rfl, fin _ _ _ _ I3 (by rw [e2]; exact .non) (fun _ => by rw [List.foldl_append, hZ e]; rfl) w d' H2 h1 h2 h3 h4 h5⟩
      | some z =>
        have e2 : dueO wd St.new 0 (os ++ [some r]) = some (n, z) := by
          rw [e1]
          show (match jL Z wd r with | some z => some (n, z) | none => none) = _
          rw [ej]
        refine ⟨_, rfl, rfl, _, rfl, iteF ?_⟩
        refine ⟨_, rfl, _, rfl, (by show 2 ≤ sizeLine; decide), fun t nt => ?_⟩
        exact lenN (jL_lay ej).1 (jL_lay ej).2 H' I2 hd2 e2 t nt _ _ rfl
end
end K01

/-! the law's end: the record is kept when its rows are spoilt -/
namespace K01
open PySem PySem.Spec PyProof.Rows L2
theorem passX0 {X : Cx} : Passes (L2.CX X.prog X.w) X E0 := fun _ _ _ _ _ _ _ h => by
  obtain ⟨_, _, _, _, _, _, _, _, _, _, _, _, e⟩ := h
  exact e.elim
theorem data_row {d : PyData} {r : Rw} (h : RowD d (some r)) (k : okD d) : RowD r.data (some r) ∧ okD r.data := by
  cases h with
  | row e hw =>
    cases hw with
    | @comes l kk n hs e5 hl hk hn he hh =>
      refine ⟨.row rfl (.comes hl hk hn rfl hh), fun xs ex => ?_⟩
      cases ex
      refine ⟨by simp, fun x hx ys ey => ?_⟩
      simp only [List.mem_cons, List.not_mem_nil, or_false] at hx
      rcases hx with rfl | rfl | rfl | rfl | rfl
      · cases ey
      · cases ey
      · cases ey
      · cases ey
      · cases ey
        exact (k _ e).2 e5 (by simp) _ he
    | weds hf hm =>
      refine ⟨.row rfl (.weds hf hm), fun xs ex => ?_⟩
      cases ex
      refine ⟨by simp, fun x hx ys ey => ?_⟩
      simp only [List.mem_cons, List.not_mem_nil, or_false] at hx
      rcases hx with rfl | rfl | rfl <;> cases ey
    | born hf hm hk hl hn =>
      refine ⟨.row rfl (.born hf hm hk hl hn), fun xs ex => ?_⟩
      cases ex
      refine ⟨by simp, fun x hx ys ey => ?_⟩
      simp only [List.mem_cons, List.not_mem_nil, or_false] at hx
      rcases hx with rfl | rfl | rfl | rfl | rfl | rfl <;> cases ey
    | dies hl =>
      refine ⟨.row rfl (.dies hl), fun xs ex => ?_⟩
      cases ex
      refine ⟨by simp, fun x hx ys ey => ?_⟩
      simp only [List.mem_cons, List.not_mem_nil, or_false] at hx
      rcases hx with rfl | rfl <;> cases ey
theorem data_rows {ds : List PyData} {os : List (Option Rw)} (h : RowsD ds os) : (∀ o ∈ os, ∃ r, o = some r) → RowsD (os.map datO) os := by
  induction h with
  | nil => exact fun _ => .nil
  | @cons d o ds os hr hk _ ih =>
    intro hs
    obtain ⟨r, rfl⟩ := hs o (by simp)
    obtain ⟨h1, h2⟩ := data_row hr hk
    exact .cons h1 h2 (ih fun o ho => hs o (List.mem_cons_of_mem _ ho))
theorem data_depth (o : Option Rw) : (datO o).depth ≤ 2 := by
  cases o with
  | none => exact Nat.zero_le _
  | some r =>
    cases r with
    | comes l k n hs =>
      show PyData.depthAll [.str "comes", .str l, .str k, .int n, .tuple (hs.map PyData.int)] + 1 ≤ 2
      have := ints_depth hs
      have e : PyData.depthAll [.str "comes", .str l, .str k, .int n, .tuple (hs.map PyData.int)] ≤ 1 := depth_le.mpr fun x hx => by
        simp only [List.mem_cons, List.not_mem_nil, or_false] at hx
        rcases hx with rfl | rfl | rfl | rfl | rfl
        · exact Nat.zero_le _
        · exact Nat.zero_le _
        · exact Nat.zero_le _
        · exact Nat.zero_le _
        · show PyData.depthAll (hs.map PyData.int) + 1 ≤ 1
          omega
      omega
    | weds f m => exact Nat.le_succ_of_le (Nat.le_refl 1)
    | born f m k l n => exact Nat.le_succ_of_le (Nat.le_refl 1)
    | dies l => exact Nat.le_succ_of_le (Nat.le_refl 1)
theorem rows_depth (os : List (Option Rw)) : PyData.depthAll (os.map datO) ≤ 2 := depth_le.mpr fun x hx => by
  obtain ⟨o, _, rfl⟩ := List.mem_map.mp hx
  exact data_depth o
theorem rows_noL (os : List (Option Rw)) : noL (rowsD os) = true := noL_dat os
/-- a row as the law's list holds it, when none is due -/
def RowP (D : Addr) (H : Hp) (v : V) : Prop := ∃ a, v = .ref a ∧ a ≠ D ∧ ((∃ xs, H a = some (.tup xs)) ∨ ∃ x xs, H a = some (.lst (x :: xs)))
/-- .. and what else stands at the end -/
def EndS (CR : Addr) (σ : L2.St) (H : Hp) : Prop := ∃ (wd : Nat) (D pt rc : Addr) (vs : List V) (ds : List PyData) (os : List (Option Rw)) (x0 x1 x3 x4 x6 x7 x8 x9 x10 x11 x12 x13 : Option V),
  σ = [x0, x1, some (.int (wd : Int)), x3, x4, some (.ref D), x6, x7, x8, x9, x10, x11, x12, x13, some (.ref pt), some (.ref rc)] ∧ H D = some (.lst vs) ∧ vs.length ≤ 18 ∧ (∀ v ∈ vs, RowP D H v) ∧ RecAt CR H rc wd (rowsD os) ∧
  Dt Any H (.ref pt) (rowsD os) ∧ wd ≤ 2 ∧ os.length ≤ 18 ∧ faultO wd Bk.new 0 os = none ∧ RowsD ds os
theorem RecAt.tups {CR x : Addr} {H H' : Hp} {wd : Int} {D : PyData} (h : RecAt CR H x wd D) (n : noL D = true) (t : ∀ a xs, H a = some (.tup xs) → H' a = some (.tup xs)) (i : ∀ a C dx fs, H a = some (.ins C dx fs) → H' a = some (.ins C dx fs)) : RecAt CR H' x wd D := by
  obtain ⟨dx, ar, ap, af, ab, aw, ac, al, b, hx, hD⟩ := h
  exact ⟨dx, ar, ap, af, ab, aw, ac, al, b, i _ _ _ _ hx, hD.tups n fun a xs _ e => t a xs e⟩
/-- record == .. -/
structure EqM (P : Program) (w : World) (K : PySem.W.Frag) (mg : Str → Option Value) (base : Heap) (C : Addr) (f : Addr) (fd : FuncData) : Prop where
  ok : FnOk P w K mg base CX0 1 f fd ["self", "other"] (spREq C)
  fi : PySem.W.findIn K (.ref C) "__eq__" = some (some (.ref f))
  fn : PySem.W.isFn K (.ref f) = true
  bi : Binds K fd ["self", "other"] []
  nf : PySem.W.notFirst K C (.ref C) = true
/-- len(x) -/
def rLenI (C : Addr) : List V → Hp → VK → Prop := fun xs H Q => ∃ (x dx ar : Addr) (fs : List (Str × V)) (ys : List V), xs = [.ref x] ∧ H x = some (.ins C dx fs) ∧ fs.lookup ("rows" : Str) = some (V.ref ar) ∧ H ar = some (.tup ys) ∧ Q (.int (ys.length : Int)) H
theorem call_lenI {X : Cx} {C fI fL : Addr} {fdI fdL : FuncData} (O : OwnC X.prog X.w X.K X.mg X.base C fI fL fdI fdL) (hr : Room 2 X.A) : CallR X (.builtin "len") (rLenI C) := by
  intro pins s σ H xs us Q I rv h
  obtain ⟨x, dx, ar, fs, ys, rfl, hx, hl, ha, q⟩ := h
  obtain ⟨u, rfl, ru⟩ := rv.one
  cases ru
  exact own_len ⟨hr, rfl⟩ O I hx hl ha fun t s' I' => ⟨.int (ys.length : Int), H, I', ⟨t, rfl⟩, q⟩
theorem isi_lst {K : PySem.W.Frag} {H : Hp} {a : Addr} {xs : List V} {j : Nat} {σ : L2.St} {Q : VK} (e : σ[j]? = some (some (.ref a))) (h : H a = some (.lst xs)) (q : Q (.bl true) H) :
    tCB (rIsi K) (tCons (tVar j) (tCons (tC (.ty "list")) tNil)) σ H Q := ⟨_, e, _, _, _, _, true, rfl, .ty _, .base (.lst h), kit_ty (by decide +kernel), q⟩
theorem isi_lstT {K : PySem.W.Frag} {H : Hp} {a : Addr} {xs : List V} {j : Nat} {σ : L2.St} {Q : VK} (e : σ[j]? = some (some (.ref a))) (h : H a = some (.tup xs)) (q : Q (.bl false) H) :
    tCB (rIsi K) (tCons (tVar j) (tCons (tC (.ty "list")) tNil)) σ H Q := ⟨_, e, _, _, _, _, false, rfl, .ty _, .base (.tup h), kit_ty (by decide +kernel), q⟩
section
variable {P : Program} {w : World} {K : PySem.W.Frag} {mg : Str → Option Value} {base : Heap}
theorem tEnd {f CR CE CU fI fIt fL fE : Addr} {fdI fdIt fdL fdE : FuncData} {cdv : Value} {A : Around} {outer : List Env} {s0 : Shared} {H0 : Hp} {E : XK} (z_len : mg "len" = none) (z_list : mg "list" = none) (z_tuple : mg "tuple" = none) (z_isinstance : mg "isinstance" = none)
    (hr : Room 9 (A.deeper (envOfC "law" (defScope sLaw) s0.heap.objs.size f cdv))) (R : RecMk P w K mg base CR CE CU fI fdI) (O : OwnC P w K mg base CR fIt fL fdIt fdL) (EQ : EqM P w K mg base CR fE fdE) :
    ∃ u, PSs (cxOf CX0 P w K mg base nmL "law" (defScope sLaw) f cdv A outer s0 H0 E).nox ((defBody sLaw).drop 12) u ∧
      ∀ (σ : L2.St) (H : Hp) (T : Ends), EndS CR σ H → (∀ H', T.rt (.bl true) H') → u T σ H := by
  have hr1 := hr.mono (show 1 ≤ 9 by decide)
  have hr2 := hr.mono (show 2 ≤ 9 by decide)
  have hr4 := hr.mono (show 4 ≤ 9 by decide)
  have hr8 := hr.mono (show 8 ≤ 9 by decide)
  refine ⟨_, (pss_cons (ps_for PassesOwn.never rfl (pi_list (pv 5)) (pg_name (i := 9) scLaw.nd rfl (.inl rfl))
      (pss_one (ps_if (pt_val (pe_callB call_isi (by rfl) z_isinstance (by decide +kernel) (pa_cons (pv 9) (pa_cons (pe_bltn (by rfl) z_list (by decide +kernel) (v := .ty "list") rfl) pa_nil))))
        (pss_one (ps_asg pe_str (pg_sub (pv 9) pe_int set_list)))
        pss_nil)))
    (pss_cons (ps_expr (pe_bm PySem.F.plainAttrs_list PySem.F.slot_list_append PySem.F.type_list_append mt_append (pv 5) (pa_cons pe_non pa_nil)))
    (pss_cons (ps_if (PW.pt (pw_or (pt_cmpR (op_neD hr.units) (pe_fld (pv 15) rfl) (pv 14) (nomark _)) (pw_or (pt_cmpR op_ne (pe_callB (call_lenI O hr2) (by rfl) z_len boot_len (pa_cons (pv 15) pa_nil)) (pe_callB call_len_seq (by rfl) z_len boot_len (pa_cons (pv 14) pa_nil)) (nomark _)) (pw_or1 (pt_cmpR (op_neD hr.units) (pe_callTy (call_listI O hr4) (by rfl) z_list (by decide +kernel) (pa_cons (pv 15) pa_nil)) (pe_callTy call_listS (by rfl) z_list (by decide +kernel) (pa_cons (pv 14) pa_nil)) (nomark _))))))
      (pss_one (ps_ret pe_bl))
      pss_nil)
    (pss_cons (ps_for PassesOwn.never rfl (pi_tup (pe_fld (pv 15) rfl)) (pg_name (i := 9) scLaw.nd rfl (.inl rfl))
      (pss_one (ps_if (PW.pt (pw_or (pt_not (pt_val (pe_callB call_isi (by rfl) z_isinstance (by decide +kernel) (pa_cons (pv 9) (pa_cons (pe_bltn (by rfl) z_tuple (by decide +kernel) (v := .ty "tuple") rfl) pa_nil))))) (pw_or1 (PW.pt (pw_and (pt_cmpR op_eq (pe_ix ixS (pv 9) pe_int (fun _ _ => rfl)) pe_str (nomark _)) (pw_and1 (pt_not (pt_val (pe_callB call_isi (by rfl) z_isinstance (by decide +kernel) (pa_cons (pe_ix ixS (pv 9) pe_int (fun _ _ => rfl)) (pa_cons (pe_bltn (by rfl) z_tuple (by decide +kernel) (v := .ty "tuple") rfl) pa_nil)))))))))))
        (pss_one (ps_ret pe_bl))
        pss_nil)))
    (pss_one (ps_ret (pe_cmpR (op_eqI EQ.ok EQ.nf EQ.fi EQ.fn EQ.bi pass0 hr1) (pv 15) (pe_make R.mks R.ok hr8 (by rfl) R.gl R.bi .nil passX0 (pa_cons (pv 2) (pa_cons (pv 14) pa_nil))) (nomark _)))))))), ?_⟩
  rintro σ H T ⟨wd, D, pt, rc, vs, ds, os, x0, x1, x3, x4, x6, x7, x8, x9, x10, x11, x12, x13, rfl, hD, hl, hP, hR, hpt, w2, l18, ef, rows⟩ q
  refine ⟨_, rfl, D, rfl, ⟨_, SqL.of hD⟩, for_it walk_list (fun i σ' H' => ∃ y9 : Option V, σ' = [x0, x1, some (.int (wd : Int)), x3, x4, some (.ref D), x6, x7, x8, y9, x10, x11, x12, x13, some (.ref pt), some (.ref rc)] ∧ H' D = some (.lst vs) ∧ (∀ v ∈ vs, RowP D H' v) ∧
    (∀ a xs, H a = some (.tup xs) → H' a = some (.tup xs)) ∧ (∀ a C dx fs, H a = some (.ins C dx fs) → H' a = some (.ins C dx fs))) ⟨_, rfl, hD, hP, fun _ _ e => e, fun _ _ _ _ e => e⟩ (fun i σ' H' _ ⟨_, _, h, _⟩ => SqL.of h) ?_ ?_⟩
  · rintro n v σ1 H1 H2 hn ⟨y9, rfl, hD1, hP1, ht1, hi1⟩ ⟨rfl, hv⟩
    obtain ⟨a, rfl, na, ⟨xs, ea⟩ | ⟨x, xs, ea⟩⟩ := hP1 v (List.mem_of_getElem? hv)
    · exact isi_lstT rfl ea ⟨_, rfl, iteF ⟨_, rfl, hD1, hP1, ht1, hi1⟩⟩
    · refine isi_lst rfl ea ⟨_, rfl, iteT ?_⟩
      refine ⟨_, rfl, a, x :: xs, 0, 0, rfl, rfl, ea, (by unfold ixN; simp), _, rfl, (upd_ne (Ne.symm na)).trans hD1, fun v' hv' => ?_, fun b ys e => (upd_ne (ne_of (ht1 _ _ e) ea (by intro z; cases z))).trans (ht1 _ _ e), fun b C dx fs e => (upd_ne (ne_of (hi1 _ _ _ _ e) ea (by intro z; cases z))).trans (hi1 _ _ _ _ e)⟩
      obtain ⟨b, rfl, nb, eb⟩ := hP1 v' hv'
      refine ⟨b, rfl, nb, ?_⟩
      by_cases z : b = a
      · exact .inr ⟨_, _, by rw [z, upd_same]; rfl⟩
      · rw [upd_ne z]; exact eb
  rintro σ1 H1 ⟨y9, rfl, hD1, hP1, ht1, hi1⟩
  refine ⟨_, rfl, .inl ⟨rfl, _, SqL.of hD1⟩, D, vs, _, rfl, rfl, hD1, lt_line hl (by decide), ?_⟩
  have ht2 : ∀ a xs, H a = some (.tup xs) → upd H1 D (.lst (vs ++ [.non])) a = some (.tup xs) := fun a xs e => (upd_ne (ne_of (ht1 _ _ e) hD1 (by intro z; cases z))).trans (ht1 _ _ e)
  have hi2 : ∀ a C dx fs, H a = some (.ins C dx fs) → upd H1 D (.lst (vs ++ [.non])) a = some (.ins C dx fs) := fun a C dx fs e => (upd_ne (ne_of (hi1 _ _ _ _ e) hD1 (by intro z; cases z))).trans (hi1 _ _ _ _ e)
  have hR2 := hR.tups (rows_noL os) ht2 hi2
  have hp2 := hpt.tups (rows_noL os) fun a xs _ e => ht2 a xs e
  generalize upd H1 D (.lst (vs ++ [.non])) = H3 at hR2 hp2 ⊢
  clear ht2 hi2 hD1 hP1 ht1 hi1 hR hpt
  have dep : (rowsD os).depth ≤ 64 := by
    show PyData.depthAll (os.map datO) + 1 ≤ 64
    have := rows_depth os
    omega
  have sh : SeqAt.shaped (rowsD os) = true := shaped_of hp2.lay dep
  obtain ⟨dx, ar, ap, af, ab, aw, ac, al, b, hx, hA⟩ := id hR2
  refine ⟨_, rfl, rc, CR, dx, _, _, rfl, hx, R.cl.cl, R.cl.nRows, rfl, _, rfl, rowsD os, rowsD os, hA.dp, hp2.dp, sh, sh, _, rfl, ?_⟩
  rw [PySem.SeqAt.eqv_refl (rowsD os) hp2.lay]
  refine iteF ?_
  obtain ⟨at_, ea, hats⟩ : ∃ xs : List V, H3 ar = some (.tup xs) ∧ DtAll Any H3 xs (os.map datO) := by
    cases hA with | tup _ e r => exact ⟨_, e, r⟩
  obtain ⟨ap_, ep, haps⟩ : ∃ xs : List V, H3 pt = some (.tup xs) ∧ DtAll Any H3 xs (os.map datO) := by
    cases hp2 with | tup _ e r => exact ⟨_, e, r⟩
  refine ⟨_, rfl, rc, dx, ar, _, at_, rfl, hx, rfl, ea, _, rfl, pt, ap_, rfl, .inr (SqT.of ep), rfl, _, rfl, ?_⟩
  have le : at_.length = ap_.length := hats.len.trans haps.len.symm
  rw [le, decide_eq_true rfl]
  refine iteF ?_
  refine ⟨_, rfl, rc, dx, ar, _, at_, rfl, hx, rfl, ea, fun H4 q4 s4 nq hq4 => ?_⟩
  refine ⟨_, rfl, pt, ap_, rfl, .inr (s4 _ _ ep), fun l nl => ?_⟩
  have s5 := same_upd (o := .lst ap_) nl
  have s6 := s4.trans s5
  have dl : Dt Any (upd H4 l (.lst ap_)) (.ref q4) (.list (os.map datO)) := .lst trivial (s5 _ _ hq4) (hats.same s6)
  have dl2 : Dt Any (upd H4 l (.lst ap_)) (.ref l) (.list (os.map datO)) := .lst trivial upd_same (haps.same s6)
  have shl : SeqAt.shaped (.list (os.map datO)) = true := shaped_of dl.lay dep
  refine ⟨_, _, dl.dp, dl2.dp, shl, shl, _, rfl, ?_⟩
  rw [PySem.SeqAt.eqv_refl _ dl.lay]
  refine iteF ?_
  have hx6 := s6 _ _ hx
  have ea6 := s6 _ _ ea
  have hats6 := hats.same s6
  have hp6 := hp2.same s6
  have hR6 : RecAt CR (upd H4 l (.lst ap_)) rc wd (rowsD os) := ⟨dx, ar, ap, af, ab, aw, ac, al, b, hx6, hA.same s6⟩
  generalize upd H4 l (.lst ap_) = H6 at hx6 ea6 hats6 hp6 hR6 ⊢
  clear dl dl2 s5 s6 s4 nl nq hq4 hx ea hats haps ep hA hp2 hR2
  refine ⟨_, rfl, rc, CR, dx, _, _, rfl, hx6, R.cl.cl, R.cl.nRows, rfl, ar, rfl, ⟨_, SqT.of ea6⟩, for_it walk_tup (fun i σ' H' => ∃ y9 : Option V, σ' = [x0, x1, some (.int (wd : Int)), x3, x4, some (.ref D), x6, x7, x8, y9, x10, x11, x12, x13, some (.ref pt), some (.ref rc)] ∧ H' = H6) ⟨_, rfl, rfl⟩ (fun i σ' H' _ ⟨_, _, h⟩ => by rw [h]; exact SqT.of ea6) ?_ ?_⟩
  · rintro n v σ1 H7 H8 hn ⟨z9, rfl, rfl⟩ ⟨rfl, hv⟩
    obtain ⟨d, ed, hd⟩ := hats6.get hv
    rw [List.getElem?_map] at ed
    cases eo : os[n]? with
    | none => rw [eo] at ed; cases ed
    | some o =>
      rw [eo] at ed
      cases ed
      obtain ⟨r, rfl⟩ := fault_none ef o (List.mem_of_getElem? eo)
      refine isi_tup (j := 9) rfl hd ⟨_, rfl, ?_⟩
      cases r with
      | comes lb kk nn hs =>
        cases hd with | @tup a _ _ _ e rs =>
        cases rs with | cons g0 rs => cases rs with | cons g1 rs => cases rs with | cons g2 rs => cases rs with | cons g3 rs => cases rs with | cons g4 rs =>
        cases rs
        obtain rfl := g0.str_inv.1
        cases g4 with | @tup a4 _ _ _ e4 _ =>
        have hS : Sq _ a _ := .inr e
        refine iteF ⟨_, rfl, _, _, _, _, rfl, rfl, hS, atI_nat (j := 0) rfl, rfl, _, rfl, iteT ?_⟩
        exact ⟨_, rfl, _, _, _, _, rfl, rfl, hS, atI_nat (j := 4) rfl, _, _, _, _, true, rfl, .ty _, .base (.tup e4), kit_ty (by decide +kernel), _, rfl, iteF ⟨_, rfl, rfl⟩⟩
      | weds f1 m1 =>
        cases hd with | @tup a _ _ _ e rs =>
        cases rs with | cons g0 rs =>
        obtain rfl := g0.str_inv.1
        have hS : Sq _ a _ := .inr e
        exact iteF ⟨_, rfl, _, _, _, _, rfl, rfl, hS, atI_nat (j := 0) rfl, rfl, _, rfl, iteF (iteF ⟨_, rfl, rfl⟩)⟩
      | born f1 m1 k1 l1 n1 =>
        cases hd with | @tup a _ _ _ e rs =>
        cases rs with | cons g0 rs =>
        obtain rfl := g0.str_inv.1
        have hS : Sq _ a _ := .inr e
        exact iteF ⟨_, rfl, _, _, _, _, rfl, rfl, hS, atI_nat (j := 0) rfl, rfl, _, rfl, iteF (iteF ⟨_, rfl, rfl⟩)⟩
      | dies l1 =>
        cases hd with | @tup a _ _ _ e rs =>
        cases rs with | cons g0 rs =>
        obtain rfl := g0.str_inv.1
        have hS : Sq _ a _ := .inr e
        exact iteF ⟨_, rfl, _, _, _, _, rfl, rfl, hS, atI_nat (j := 0) rfl, rfl, _, rfl, iteF (iteF ⟨_, rfl, rfl⟩)⟩
  rintro σ1 H7 ⟨z9, rfl, rfl⟩
  refine ⟨_, rfl, _, rfl, _, rfl, fun x dx2 nx nd ne => ?_⟩
  have s0 := same_ins (C := CR) nx nd ne
  have pl : Plan H7 wd (.ref pt) os (rowsD os) (os.map datO) := ⟨by omega, by omega, hp6, rfl, by rw [List.length_map]; omega, data_rows rows (fault_none ef)⟩
  refine ⟨x, dx2, wd, .ref pt, os, rowsD os, _, rfl, upd_same, pl.same s0, fun _ H8 hR8 k8 => ⟨rfl, ?_⟩, fun i z e => by rw [ef] at e; cases e⟩
  have s8 : Same H7 H8 := fun y o e => k8 y o (s0 _ _ e) (ne_of_none e nx)
  have hR8' : RecAt CR H8 rc wd (rowsD os) := hR6.tups (rows_noL os) (fun a xs e => s8 _ _ e) fun a C dx fs e => s8 _ _ e
  obtain ⟨dx8, ar8, ap8, af8, ab8, aw8, ac8, al8, b8, hx8, hA8⟩ := id hR8
  exact ⟨rc, x, dx, dx8, _, _, rfl, rfl, s8 _ _ hx6, hx8, rc, x, wd, rowsD os, rfl, hR8', hR8, dep, _, rfl, q _⟩
end
end K01

/-! the law behind its loop: what is told is what is due -/
namespace K01
open PySem PySem.Spec PyProof.Rows L2
theorem due_lay {wd : Int} : ∀ {os : List (Option Rw)} {Z : St} {i j : Nat} {z : Str}, dueO wd Z i os = some (j, z) → layS z ∧ z.length ≤ 1000
  | [], _, _, _, _ => fun h => by cases h
  | o :: os, Z, i, j, z => fun h => by
    have h : (match jLO Z wd o with | some z => some (i, z) | none => dueO wd (eLO Z o) (i + 1) os) = some (j, z) := h
    cases e : jLO Z wd o with
    | some y =>
      rw [e] at h
      cases h
      cases o with
      | none => cases e; exact ⟨by unfold layS; decide +kernel, by decide +kernel⟩
      | some r => exact jL_lay e
    | none =>
      rw [e] at h
      exact due_lay h
theorem due_take {wd : Int} : ∀ {os : List (Option Rw)} {Z : St} {i j : Nat} {z : Str}, dueO wd Z i os = some (j, z) → i ≤ j ∧ j - i < os.length ∧ dueO wd Z i (os.take (j - i)) = none
  | [], _, _, _, _ => fun h => by cases h
  | o :: os, Z, i, j, z => fun h => by
    have h : (match jLO Z wd o with | some z => some (i, z) | none => dueO wd (eLO Z o) (i + 1) os) = some (j, z) := h
    cases e : jLO Z wd o with
    | some y =>
      rw [e] at h
      cases h
      rw [Nat.sub_self]
      exact ⟨Nat.le_refl _, Nat.succ_pos _, rfl⟩
    | none =>
      rw [e] at h
      obtain ⟨h1, h2, h3⟩ := due_take h
      refine ⟨by omega, by rw [List.length_cons]; omega, ?_⟩
      rw [show j - i = (j - (i + 1)) + 1 by omega, List.take_succ_cons]
      show (match jLO Z wd o with | some z => some (i, z) | none => dueO wd (eLO Z o) (i + 1) (os.take (j - (i + 1)))) = none
      rw [e]
      exact h3
theorem fault_lay2 {wd : Int} {os : List (Option Rw)} {j : Nat} {z : Str} (h : faultO wd Bk.new 0 os = some (j, z)) : layS z ∧ z.length ≤ 1000 := due_lay ((due_new os).symm.trans h)
theorem due_depth (x : Option (Nat × Str)) : (dueD x).depth ≤ 1 := by
  cases x with
  | none => exact Nat.zero_le _
  | some x => exact Nat.le_refl _
theorem rf_run {wd : Int} {v : V} {os : List (Option Rw)} {d : PyData} {ds : List PyData} {H : Hp} {Q : VK} {E : XK} (pl : Plan H wd v os d ds) (q : ∀ (v' : V) (H' : Hp), Same H H' → Dt Any H' v' (dueD (faultO wd Bk.new 0 os)) → Q v' H') : spRF [.int wd, v] H Q E :=
  ⟨wd, v, os, d, ds, rfl, pl, fun e H' s => q _ _ s (by rw [e]; exact .non), fun i z e H' t s h => q _ _ s (by rw [e]; exact .tup trivial h (.cons (.int _) (.cons (.str z (fault_lay2 e).2 (fault_lay2 e).1) .nil)))⟩
/-- the rows, all of which stand; what is due -/
structure Mid (H1 H : Hp) (wd : Nat) (D : Addr) (dv : V) (vs : List V) (ds : List PyData) (os : List (Option Rw)) : Prop where
  hD : H D = some (.lst vs)
  nD : H1 D ≠ none
  its : DtAll (New H1) H vs ds
  rows : RowsD ds os
  rk : ∀ x ∈ ds, okR x = true
  few : vs.length ≤ 18
  w2 : wd ≤ 2
  due : Dt Any H dv (dueD (faultO wd Bk.new 0 os))
section
variable {H1 H H' : Hp} {wd : Nat} {D : Addr} {dv : V} {vs : List V} {ds : List PyData} {os : List (Option Rw)}
theorem Mid.same (M : Mid H1 H wd D dv vs ds os) (s : Same H H') : Mid H1 H' wd D dv vs ds os := ⟨s _ _ M.hD, M.nD, M.its.same s, M.rows, M.rk, M.few, M.w2, M.due.same s⟩
theorem Mid.lens (M : Mid H1 H wd D dv vs ds os) : vs.length = ds.length ∧ ds.length = os.length := ⟨M.its.len, M.rows.len⟩
theorem Mid.plan (M : Mid H1 H wd D dv vs ds os) : Plan H wd (.ref D) os (.list ds) ds := by
  have := M.lens
  have := M.few
  have := M.w2
  exact ⟨by omega, by omega, .lst trivial M.hD M.its.any, rfl, by omega, M.rows⟩
theorem Mid.rowP (M : Mid H1 H wd D dv vs ds os) (ef : faultO wd Bk.new 0 os = none) : ∀ v ∈ vs, RowP D H v := fun v hv => by
  obtain ⟨i, hi⟩ := List.mem_iff_getElem?.mp hv
  obtain ⟨d, ed, hd⟩ := M.its.get hi
  obtain ⟨o, eo, hr, _⟩ := M.rows.get ed
  obtain ⟨r, rfl⟩ := fault_none ef o (List.mem_of_getElem? eo)
  cases hr with
  | row e hw =>
    obtain ⟨z, rest, ex, _⟩ := hw.word
    subst ex
    cases hd with
    | @lst a xs _ n ea hx =>
      cases e
      refine ⟨a, rfl, fun z => M.nD (z ▸ n), ?_⟩
      cases hx with
      | cons g0 gs => exact .inr ⟨_, _, ea⟩
    | @tup a xs _ n ea hx => exact ⟨a, rfl, fun z => M.nD (z ▸ n), .inl ⟨_, ea⟩⟩
    | _ => cases e
end
def MidS (σ : L2.St) (H : Hp) : Prop := ∃ (H1 : Hp) (wd : Nat) (D : Addr) (dv : V) (vs : List V) (ds : List PyData) (os : List (Option Rw)) (pv_ : V) (x0 x1 x3 x4 x7 x8 x9 x10 x11 x12 x13 x15 : Option V),
  σ = [x0, x1, some (.int (wd : Int)), x3, x4, some (.ref D), some dv, x7, x8, x9, x10, x11, x12, x13, some pv_, x15] ∧ Mid H1 H wd D dv vs ds os ∧ (faultO wd Bk.new 0 os = none → ∃ pt, pv_ = .ref pt ∧ Dt Any H (.ref pt) (rowsD os))
section
variable {P : Program} {w : World} {K : PySem.W.Frag} {mg : Str → Option Value} {base : Heap}
theorem tMid {f fA CR CE CU fI fIt fL fE : Addr} {fdA fdI fdIt fdL fdE : FuncData} {cdv : Value} {A : Around} {outer : List Env} {s0 : Shared} {H0 : Hp} {E : XK} (z_len : mg "len" = none) (z_list : mg "list" = none) (z_tuple : mg "tuple" = none) (z_isinstance : mg "isinstance" = none)
    (hr : Room 9 (A.deeper (envOfC "law" (defScope sLaw) s0.heap.objs.size f cdv))) (R : RecMk P w K mg base CR CE CU fI fdI) (O : OwnC P w K mg base CR fIt fL fdIt fdL) (EQ : EqM P w K mg base CR fE fdE)
    (dA : Df P w K mg base "_law_asked" 9 ["_law_width", "_law_rows"] spAsked fA fdA) :
    ∃ u, PSs (cxOf CX0 P w K mg base nmL "law" (defScope sLaw) f cdv A outer s0 H0 E).nox ((defBody sLaw).drop 10) u ∧
      ∀ (σ : L2.St) (H : Hp) (T : Ends), MidS σ H → (∀ H', T.rt (.bl true) H') → u T σ H := by
  obtain ⟨u12, p12, r12⟩ := tEnd (P := P) (w := w) (base := base) (f := f) (cdv := cdv) (outer := outer) (H0 := H0) (E := E) z_len z_list z_tuple z_isinstance hr R O EQ
  have hr8 := hr.mono (show 8 ≤ 9 by decide)
  have hr9 := hr
  refine ⟨_, (pss_cons (ps_if (pt_cmpR op_notN (pv 6) pe_non (nomark _))
      (pss_one (ps_ret (pe_cmpR (op_eqD hr.units) (pe_call dA.ok hr9 (by rfl) dA.gl dA.kp dA.bi .nil pass0 (pa_cons (pv 2) (pa_cons (pv 5) pa_nil))) (pe_tup (pa_cons pe_str (pa_cons pe_bl (pa_cons pe_bl (pa_cons (pe_ix ixS (pv 6) pe_int (fun _ _ => rfl)) (pa_cons (pe_ix ixS (pv 6) pe_int (fun _ _ => rfl)) pa_nil)))))) (nomark _))))
      pss_nil)
    (pss_cons (ps_set (i := 15) scLaw.nd rfl (.inl rfl) (pe_make R.mks R.ok hr8 (by rfl) R.gl R.bi .nil passX0 (pa_cons (pv 2) (pa_cons (pv 5) pa_nil))))
    p12)), ?_⟩
  rintro σ H T ⟨H1, wd, D, dv, vs, ds, os, pv_, x0, x1, x3, x4, x7, x8, x9, x10, x11, x12, x13, x15, rfl, M, hp⟩ q
  have pl := M.plan
  have hdue := M.due
  cases ef : faultO wd Bk.new 0 os with
  | some x =>
    obtain ⟨i, z⟩ := x
    rw [ef] at hdue
    cases hdue with
    | @tup t _ _ _ ht hts =>
      cases hts with | cons g0 hts => cases hts with | cons g1 hts =>
      cases hts
      obtain rfl := g0.int_inv
      obtain rfl := g1.str_inv.1
      refine ⟨_, rfl, rfl, _, rfl, iteT ?_⟩
      refine ⟨_, rfl, _, rfl, wd, .ref D, os, .list ds, ds, rfl, pl, (fun e => by rw [ef] at e; cases e), fun i' z' e' H' y s' hy => ?_⟩
      rw [ef] at e'
      cases e'
      have hS : Sq H' t _ := .inr (s' _ _ ht)
      refine ⟨_, rfl, _, _, _, _, rfl, rfl, hS, atI_nat (j := 0) rfl, _, rfl, _, _, _, _, rfl, rfl, hS, atI_nat (j := 1) rfl, (by show 5 ≤ sizeLine; decide), fun u nu => ?_⟩
      have su := same_upd (o := .tup [.str "refused", .bl true, .bl true, .int (i : Int), .str z]) nu
      have lz := fault_lay2 ef
      have mk : ∀ (H2 : Hp) (a : Addr), H2 a = some (.tup [.str "refused", .bl true, .bl true, .int (i : Int), .str z]) → Dt Any H2 (.ref a) (refD i z) := fun H2 a e => .tup trivial e (.cons (.str "refused" (by decide) (by decide +kernel)) (.cons (.bl true) (.cons (.bl true) (.cons (.int _) (.cons (.str z lz.2 lz.1) .nil)))))
      have d1 := mk _ _ (su _ _ hy)
      have d2 := mk _ _ (upd_same (H := H') (a := u) (o := .tup [.str "refused", .bl true, .bl true, .int (i : Int), .str z]))
      have sh : SeqAt.shaped (refD (i : Int) z) = true := shaped_of d1.lay (show (1 : Nat) ≤ 64 by decide)
      refine ⟨_, _, d1.dp, d2.dp, sh, sh, ?_⟩
      rw [PySem.SeqAt.eqv_refl _ d1.lay]
      exact q _
  | none =>
    rw [ef] at hdue
    cases hdue
    obtain ⟨pt, rfl, hpt⟩ := hp ef
    refine ⟨_, rfl, rfl, _, rfl, iteF ?_⟩
    refine ⟨_, rfl, _, rfl, fun x dx2 nx nd ne => ?_⟩
    have s0 := same_ins (C := CR) nx nd ne
    refine ⟨x, dx2, wd, .ref D, os, .list ds, ds, rfl, upd_same, pl.same s0, fun _ H8 hR8 k8 => ⟨rfl, ?_⟩, fun i z e => by rw [ef] at e; cases e⟩
    have s8 : Same H H8 := fun y o e => k8 y o (s0 _ _ e) (ne_of_none e nx)
    have M8 := M.same s8
    have ln := M.lens
    exact r12 _ _ _ ⟨wd, D, pt, x, vs, ds, os, x0, x1, x3, x4, _, x7, x8, x9, x10, x11, x12, x13, rfl, M8.hD, M.few, M8.rowP ef, hR8, hpt.same s8, M.w2, by have := M.few; omega, ef, M.rows⟩ q
end
end K01

/-! the law behind its loop: the rows up to the fault -/
namespace K01
open PySem PySem.Spec PyProof.Rows L2
def GoodS (σ : L2.St) (H : Hp) : Prop := ∃ (H1 : Hp) (wd : Nat) (D g : Addr) (dv : V) (vs gv : List V) (ds gs : List PyData) (os gos : List (Option Rw)) (x0 x1 x3 x4 x7 x8 x9 x10 x11 x12 x14 x15 : Option V),
  σ = [x0, x1, some (.int (wd : Int)), x3, x4, some (.ref D), some dv, x7, x8, x9, x10, x11, x12, some (.ref g), x14, x15] ∧ Mid H1 H wd D dv vs ds os ∧ H g = some (.lst gv) ∧ DtAll Any H gv gs ∧ RowsD gs gos ∧ gv.length ≤ 18 ∧
  faultO wd Bk.new 0 gos = none ∧ (faultO wd Bk.new 0 os = none → gos = os)
def RestS (σ : L2.St) (H : Hp) : Prop := ∃ (H1 : Hp) (wd : Nat) (D : Addr) (dv : V) (vs : List V) (ds : List PyData) (os : List (Option Rw)) (x0 x1 x3 x4 x7 x8 x9 x10 x11 x12 x13 x14 x15 : Option V),
  σ = [x0, x1, some (.int (wd : Int)), x3, x4, some (.ref D), some dv, x7, x8, x9, x10, x11, x12, x13, x14, x15] ∧ Mid H1 H wd D dv vs ds os
theorem Mid.shl {H1 H : Hp} {wd : Nat} {D : Addr} {dv : V} {vs : List V} {ds : List PyData} {os : List (Option Rw)} (M : Mid H1 H wd D dv vs ds os) : SeqAt.shaped (.list ds) = true := by
  refine shaped_of (h := M.its.lay) ?_
  have : PyData.depthAll ds ≤ 8 := depth_le.mpr fun x hx => okR_depth (M.rk x hx)
  show PyData.depthAll ds + 1 ≤ 64
  omega
theorem Mid.shd {H1 H : Hp} {wd : Nat} {D : Addr} {dv : V} {vs : List V} {ds : List PyData} {os : List (Option Rw)} (M : Mid H1 H wd D dv vs ds os) : SeqAt.shaped (dueD (faultO wd Bk.new 0 os)) = true :=
  shaped_of M.due.lay (Nat.le_trans (due_depth _) (by decide))
theorem rf_call {i j : Nat} {σ : L2.St} {H : Hp} {Q : VK} {wd : Int} {v : V} {os : List (Option Rw)} {d : PyData} {ds : List PyData} (e1 : σ[i]? = some (some (.int wd))) (e2 : σ[j]? = some (some v)) (pl : Plan H wd v os d ds)
    (q : ∀ (v' : V) (H' : Hp), Same H H' → Dt Any H' v' (dueD (faultO wd Bk.new 0 os)) → Q v' H') : tCall spRF [] E0 (tCons (tVar i) (tCons (tVar j) tNil)) σ H Q := ⟨_, e1, _, e2, rf_run (E := E0) pl q⟩
theorem rf_callT {i j : Nat} {σ : L2.St} {H : Hp} {Q : VK} {wd : Int} {D : Addr} {vs : List V} {os : List (Option Rw)} {ds : List PyData} (e1 : σ[i]? = some (some (.int wd))) (e2 : σ[j]? = some (some (.ref D))) (hD : H D = some (.lst vs)) (h : DtAll Any H vs ds) (pl : Plan H wd (.ref D) os (.list ds) ds)
    (q : ∀ (v' : V) (H' : Hp), Same H H' → Dt Any H' v' (dueD (faultO wd Bk.new 0 os)) → Q v' H') : tCall spRF [] E0 (tCons (tVar i) (tCons (tCB rTupS (tCons (tVar j) tNil)) tNil)) σ H Q :=
  ⟨_, e1, _, e2, D, vs, rfl, .inl hD, fun H4 t4 s4 ht4 => rf_run (E := E0) ⟨pl.w0, pl.w2, .tup trivial ht4 (h.same s4), rfl, pl.few, pl.rows⟩ fun v5 H5 s5 h5 => q _ _ (s4.trans s5) h5⟩
section
variable {P : Program} {w : World} {K : PySem.W.Frag} {mg : Str → Option Value} {base : Heap}
theorem tGood {f fA fR fP CR CE CU fI fIt fL fE : Addr} {fdA fdR fdP fdI fdIt fdL fdE : FuncData} {cdv : Value} {A : Around} {outer : List Env} {s0 : Shared} {H0 : Hp} {E : XK} (z_len : mg "len" = none) (z_list : mg "list" = none) (z_tuple : mg "tuple" = none) (z_isinstance : mg "isinstance" = none)
    (hr : Room 9 (A.deeper (envOfC "law" (defScope sLaw) s0.heap.objs.size f cdv))) (R : RecMk P w K mg base CR CE CU fI fdI) (O : OwnC P w K mg base CR fIt fL fdIt fdL) (EQ : EqM P w K mg base CR fE fdE)
    (dA : Df P w K mg base "_law_asked" 9 ["_law_width", "_law_rows"] spAsked fA fdA) (dR : Df P w K mg base "record_fault" 7 ["width", "rows"] spRF fR fdR) (dP : Df P w K mg base "_law_plain" 1 ["_law_row"] spPlain fP fdP) :
    ∃ u, PSs (cxOf CX0 P w K mg base nmL "law" (defScope sLaw) f cdv A outer s0 H0 E).nox ((defBody sLaw).drop 8) u ∧
      ∀ (σ : L2.St) (H : Hp) (T : Ends), GoodS σ H → (∀ H', T.rt (.bl true) H') → u T σ H := by
  obtain ⟨u10, p10, r10⟩ := tMid (P := P) (w := w) (base := base) (f := f) (cdv := cdv) (outer := outer) (H0 := H0) (E := E) z_len z_list z_tuple z_isinstance hr R O EQ dA
  have hr1 := hr.mono (show 1 ≤ 9 by decide)
  have hr7 := hr.mono (show 7 ≤ 9 by decide)
  have hr9 := hr
  refine ⟨_, (pss_cons (ps_set (i := 14) scLaw.nd rfl (.inl rfl) (pe_callTy call_tuple_of (by rfl) z_tuple (by decide +kernel) (pa_cons (pe_lc (own := [("_law_row", 9)]) (g := gName 9) (tt := tYes) rfl scLaw.nd (pi_list (pv 13)) (blkOk_by (N := ["_law_script", "_law_hand_here", "_law_width", "_law_labels_here", "_law_state", "_law_rows", "_law_due", "_law_many", "_law_k", "_law_row", "_law_sort", "_law_word_here", "_law_kept", "_law_good", "_law_plain_here", "_law_record"]) (sc := defScope sLaw) (by decide +kernel)) (fun _ _ _ _ _ => pg_name (i := 9) scLaw.nd rfl (Or.inl rfl)) (fun _ _ _ _ _ => pts_nil) (fun _ _ _ _ _ => (pe_call dP.ok hr1 (by rfl) dP.gl dP.kp dP.bi .nil pass0 (pa_cons (pv 9) pa_nil)))) pa_nil)))
    (pss_cons (ps_if (PW.pt (pw_or (pt_cmpR op_notN (pe_call dR.ok hr7 (by rfl) dR.gl dR.kp dR.bi .nil pass0 (pa_cons (pv 2) (pa_cons (pv 13) pa_nil))) pe_non (nomark _)) (pw_or1 (pt_cmpR (op_neD hr.units) (pe_call dA.ok hr9 (by rfl) dA.gl dA.kp dA.bi .nil pass0 (pa_cons (pv 2) (pa_cons (pv 13) pa_nil))) (pe_tup (pa_cons pe_str (pa_cons (pv 2) (pa_cons (pv 14) pa_nil)))) (nomark _)))))
      (pss_one (ps_ret pe_bl))
      pss_nil)
    p10)), ?_⟩
  rintro σ H T ⟨H1, wd, D, g, dv, vs, gv, ds, gs, os, gos, x0, x1, x3, x4, x7, x8, x9, x10, x11, x12, x14, x15, rfl, M, hg, hgd, hgr, g18, eg, eo⟩ q
  have el := hgd.len
  have el2 := hgr.len
  refine ⟨_, rfl, g, rfl, ⟨_, SqL.of hg⟩, fun Dn nD => lc_it walk_list (fun i H' => ∃ acc : List V, H' Dn = some (.lst acc) ∧ acc.length = i ∧ Same H H' ∧ DtAll Any H' acc ((gos.take i).map datO)) ⟨[], upd_same, rfl, same_upd nD, .nil⟩ (fun i H' _ ⟨_, _, _, s, _⟩ => SqL.of (s _ _ hg)) ?_ ?_⟩
  · rintro i y H4 H5 hi ⟨acc, eD, hacc, s4, hda⟩ ⟨rfl, ev⟩
    obtain ⟨d', ed', hd'⟩ := hgd.get ev
    obtain ⟨o, eo', ho, okd⟩ := hgr.get ed'
    obtain ⟨r, rfl⟩ := fault_none eg o (List.mem_of_getElem? eo')
    cases ho with
    | @row zs _ e3 hw =>
    refine ⟨rfl, ?_⟩
    refine ⟨_, rfl, y, d', zs, r, rfl, hd'.same s4, e3, hw, fun t6 H6 s6 ht => ?_⟩
    refine ⟨acc, s6 _ _ eD, by rw [hacc]; exact lt_line (Nat.le_refl _) (by omega), acc ++ [.ref t6], upd_same, by rw [List.length_append, hacc]; rfl, fun y' o' e' => ?_, ?_⟩
    · rw [upd_ne (ne_of_none e' nD)]
      exact s6 _ _ (s4 _ _ e')
    · rw [take_snoc eo', List.map_append]
      have new : DtAll Any H6 (acc ++ [V.ref t6]) ((gos.take i).map datO ++ [r.data]) := (hda.same s6).app (.cons ht .nil)
      exact new.tups (noLAll_app (noL_dat _) (by show (noL r.data && true) = true; rw [r.noL]; rfl)) fun a ys _ ea => (upd_ne (ne_of ea (s6 _ _ eD) (by intro z; cases z))).trans ea
  rintro H4 ⟨ys, eD, hacc, s4, hda⟩
  rw [el, el2, List.take_of_length_le (Nat.le_refl _)] at hda
  refine ⟨Dn, ys, rfl, .inl ⟨SqL.of eD, fun pt hc => ?_⟩⟩
  have s5 := same_upd (o := .tup ys) hc
  have hpt : Dt Any (upd H4 pt (.tup ys)) (.ref pt) (rowsD gos) := .tup trivial upd_same (hda.same s5)
  replace M := (M.same s4).same s5
  replace hg := s5 _ _ (s4 _ _ hg)
  replace hgd := (hgd.same s4).same s5
  generalize upd H4 pt (.tup ys) = H6 at hpt M hg hgd ⊢
  have pl : ∀ {H' : Hp}, Same H6 H' → Plan H' wd (.ref g) gos (.list gs) gs := fun s => ⟨by omega, by have := M.w2; omega, .lst trivial (s _ _ hg) (hgd.same s), rfl, by omega, hgr⟩
  refine rf_call (i := 2) (j := 13) rfl rfl (pl (Same.refl _)) fun v' H7 s7 h7 => ?_
  rw [eg] at h7
  cases h7
  refine ⟨rfl, _, rfl, iteF ?_⟩
  refine ⟨_, rfl, _, rfl, wd, .ref g, gos, .list gs, gs, rfl, pl s7, fun _ H8 z s8 hz => ?_, fun i x e => by rw [eg] at e; cases e⟩
  refine ⟨_, rfl, _, rfl, (by show 3 ≤ sizeLine; decide), fun u nu => ?_⟩
  have su := same_upd (o := .tup [.str "made", .int (wd : Int), .ref pt]) nu
  have s68 := (s7.trans s8).trans su
  have d1 := hz.same su
  have d2 : Dt Any (upd H8 u (.tup [.str "made", .int (wd : Int), .ref pt])) (.ref u) (madeD wd gos) := .tup trivial upd_same (.cons (.str "made" (by decide) (by decide +kernel)) (.cons (.int _) (.cons (hpt.same s68) .nil)))
  have sh : SeqAt.shaped (madeD (wd : Int) gos) = true := shaped_of d1.lay (by
    have := rows_depth gos
    show PyData.depthAll [.str "made", .int (wd : Int), rowsD gos] + 1 ≤ 64
    have e : PyData.depthAll [.str "made", .int (wd : Int), rowsD gos] ≤ 10 := depth_le.mpr fun x hx => by
      simp only [List.mem_cons, List.not_mem_nil, or_false] at hx
      rcases hx with rfl | rfl | rfl
      · exact Nat.zero_le _
      · exact Nat.zero_le _
      · show PyData.depthAll (gos.map datO) + 1 ≤ 10
        omega
    omega)
  refine ⟨_, _, d1.dp, d2.dp, sh, sh, _, rfl, ?_⟩
  rw [PySem.SeqAt.eqv_refl _ d1.lay]
  refine iteF ?_
  exact r10 _ _ _ ⟨H1, wd, D, dv, vs, ds, os, .ref pt, x0, x1, x3, x4, x7, x8, x9, x10, x11, x12, _, x15, rfl, M.same s68, fun e => ⟨pt, rfl, by rw [← eo e]; exact hpt.same s68⟩⟩ q
theorem tRest {f fA fR fP CR CE CU fI fIt fL fE : Addr} {fdA fdR fdP fdI fdIt fdL fdE : FuncData} {cdv : Value} {A : Around} {outer : List Env} {s0 : Shared} {H0 : Hp} {E : XK} (z_len : mg "len" = none) (z_list : mg "list" = none) (z_tuple : mg "tuple" = none) (z_isinstance : mg "isinstance" = none)
    (hr : Room 9 (A.deeper (envOfC "law" (defScope sLaw) s0.heap.objs.size f cdv))) (R : RecMk P w K mg base CR CE CU fI fdI) (O : OwnC P w K mg base CR fIt fL fdIt fdL) (EQ : EqM P w K mg base CR fE fdE)
    (dA : Df P w K mg base "_law_asked" 9 ["_law_width", "_law_rows"] spAsked fA fdA) (dR : Df P w K mg base "record_fault" 7 ["width", "rows"] spRF fR fdR) (dP : Df P w K mg base "_law_plain" 1 ["_law_row"] spPlain fP fdP) :
    ∃ u, PSs (cxOf CX0 P w K mg base nmL "law" (defScope sLaw) f cdv A outer s0 H0 E).nox ((defBody sLaw).drop 5) u ∧
      ∀ (σ : L2.St) (H : Hp) (T : Ends), RestS σ H → (∀ H', T.rt (.bl true) H') → u T σ H := by
  obtain ⟨u8, p8, r8⟩ := tGood (P := P) (w := w) (base := base) (f := f) (cdv := cdv) (outer := outer) (H0 := H0) (E := E) z_len z_list z_tuple z_isinstance hr R O EQ dA dR dP
  have hr7 := hr.mono (show 7 ≤ 9 by decide)
  refine ⟨_, (pss_cons (ps_set (i := 12) scLaw.nd rfl (.inl rfl) (pe_callTy call_listS (by rfl) z_list (by decide +kernel) (pa_cons (pv 5) pa_nil)))
    (pss_cons (ps_if (PW.pt (pw_or (pt_cmpR (op_neD hr.units) (pe_call dR.ok hr7 (by rfl) dR.gl dR.kp dR.bi .nil pass0 (pa_cons (pv 2) (pa_cons (pv 5) pa_nil))) (pv 6) (nomark _)) (pw_or (pt_cmpR (op_neD hr.units) (pe_call dR.ok hr7 (by rfl) dR.gl dR.kp dR.bi .nil pass0 (pa_cons (pv 2) (pa_cons (pe_callTy call_tupS (by rfl) z_tuple (by decide +kernel) (pa_cons (pv 5) pa_nil)) pa_nil))) (pv 6) (nomark _)) (pw_or1 (pt_cmpR (op_neD hr.units) (pv 5) (pv 12) (nomark _))))))
      (pss_one (ps_ret pe_bl))
      pss_nil)
    (pss_cons (ps_set (i := 13) scLaw.nd rfl (.inl rfl) (pe_ifExp (pt_cmpR op_isN (pv 6) pe_non (nomark _)) (pv 5) (pe_slice sl_list (pv 5) po_none (po_some (pe_ix ixS (pv 6) pe_int (fun _ _ => rfl))))))
    p8))), ?_⟩
  rintro σ H T ⟨H1, wd, D, dv, vs, ds, os, x0, x1, x3, x4, x7, x8, x9, x10, x11, x12, x13, x14, x15, rfl, M⟩ q
  refine ⟨_, rfl, D, vs, rfl, .inl M.hD, fun kk nk => ?_⟩
  have M0 := M.same (same_upd (o := .lst vs) nk)
  have hkk : upd H kk (.lst vs) kk = some (.lst vs) := upd_same
  generalize upd H kk (.lst vs) = H2 at M0 hkk ⊢
  refine rf_call (i := 2) (j := 5) rfl rfl M0.plan fun v3 H3 s3 h3 => ?_
  have M3 := M0.same s3
  refine ⟨_, rfl, _, _, h3.dp, M3.due.dp, M3.shd, M3.shd, _, rfl, ?_⟩
  rw [PySem.SeqAt.eqv_refl _ M3.due.lay]
  refine iteF ?_
  refine rf_callT (i := 2) (j := 5) rfl rfl M3.hD M3.its.any M3.plan fun v5 H5 s5 h5 => ?_
  have M5 := M3.same s5
  refine ⟨_, rfl, _, _, h5.dp, M5.due.dp, M5.shd, M5.shd, _, rfl, ?_⟩
  rw [PySem.SeqAt.eqv_refl _ M5.due.lay]
  refine iteF ?_
  have dl : Dt Any H5 (.ref D) (.list ds) := .lst trivial M5.hD M5.its.any
  have dk : Dt Any H5 (.ref kk) (.list ds) := .lst trivial (s5 _ _ (s3 _ _ hkk)) M5.its.any
  refine ⟨_, rfl, _, rfl, _, _, dl.dp, dk.dp, M5.shl, M5.shl, _, rfl, ?_⟩
  rw [PySem.SeqAt.eqv_refl _ dl.lay]
  refine iteF ?_
  have hdue := M5.due
  cases ef : faultO wd Bk.new 0 os with
  | none =>
    rw [ef] at hdue
    cases hdue
    refine ⟨_, rfl, rfl, _, rfl, iteT ⟨_, rfl, ?_⟩⟩
    exact r8 _ _ _ ⟨H1, wd, D, D, _, vs, vs, ds, ds, os, os, x0, x1, x3, x4, x7, x8, x9, x10, x11, _, x14, x15, rfl, M5, M5.hD, M5.its.any, M5.rows, M5.few, ef, fun _ => rfl⟩ q
  | some x =>
    obtain ⟨i, z⟩ := x
    rw [ef] at hdue
    cases hdue with
    | @tup t _ _ _ ht hts =>
      cases hts with | cons g0 hts => cases hts with | cons g1 hts =>
      cases hts
      obtain rfl := g0.int_inv
      obtain rfl := g1.str_inv.1
      have hS : Sq H5 t _ := .inr ht
      have tk := due_take ((due_new os).symm.trans ef)
      have ln := M.lens
      refine ⟨_, rfl, rfl, _, rfl, iteF ⟨_, rfl, _, rfl, _, _, _, _, rfl, rfl, hS, atI_nat (j := 0) rfl, _, rfl, D, vs, rfl, SqL.of M5.hD, fun g ng => ?_⟩⟩
      rw [cut_to vs i (by omega)]
      have sg := same_upd (o := .lst (vs.take i)) ng
      refine r8 _ _ _ ⟨H1, wd, D, g, _, vs, vs.take i, ds, ds.take i, os, os.take i, x0, x1, x3, x4, x7, x8, x9, x10, x11, _, x14, x15, rfl, M5.same sg, upd_same, (M5.its.any.take i).same sg, M5.rows.take i, ?_, ?_, fun e => by rw [ef] at e; cases e⟩ q
      · rw [List.length_take]; have := M5.few; omega
      · have e := tk.2.2
        rw [Nat.sub_zero] at e
        exact (due_new _).trans e
end
end K01

/-! the law's own body -/
namespace K01
open PySem PySem.Spec PyProof.Rows L2
def spLaw (K : PySem.W.Frag) : Sp := fun vs H Q _ => ∃ (a : Addr) (ns : List Int), vs = [.ref a] ∧ SqL K H a (ns.map V.int) ∧ ns.length ≤ 63 ∧ ∀ H', Q (.bl true) H'
theorem RowN.ok {S : Addr → Prop} {H : Hp} {v : V} {xs : List PyData} {r : Rw} (h : RowN S H v xs r) : okR (.tuple xs) = true := by
  obtain ⟨z, rest, ex, _, _, h6⟩ := h.row.word
  exact okR_of rfl rfl (by omega) (h.row.okM h.hs) fun x e => by
    rw [ex] at e
    cases e
    rfl
section
variable {P : Program} {w : World} {K : PySem.W.Frag} {mg : Str → Option Value} {base : Heap}
theorem ok_law {f fA fR fP fH fD fL fZ fF fS fY fW fN fT CR CE CU fI fIt fLn fE : Addr} {fd fdA fdR fdP fdH fdD fdL fdZ fdF fdS fdY fdW fdN fdT fdI fdIt fdLn fdE : FuncData} (F : FnP K "law" sLaw f fd) (z_len : mg "len" = none) (z_list : mg "list" = none) (z_tuple : mg "tuple" = none) (z_isinstance : mg "isinstance" = none) (z_range : mg "range" = none)
    (R : RecMk P w K mg base CR CE CU fI fdI) (O : OwnC P w K mg base CR fIt fLn fdIt fdLn) (EQ : EqM P w K mg base CR fE fdE)
    (dA : Df P w K mg base "_law_asked" 9 ["_law_width", "_law_rows"] spAsked fA fdA) (dR : Df P w K mg base "record_fault" 7 ["width", "rows"] spRF fR fdR) (dP : Df P w K mg base "_law_plain" 1 ["_law_row"] spPlain fP fdP)
    (dH : Df P w K mg base "_law_hand" 1 ["_law_script"] (spHand K) fH fdH) (dD : Df P w K mg base "_law_draw" 2 ["_law_hand_here", "_law_many"] spDr fD fdD) (dL : Df P w K mg base "_law_labels" 3 ["_law_hand_here"] spLabels fL fdL)
    (dZ : Df P w K mg base "_law_start" 1 [] spStart fZ fdZ) (dF : Df P w K mg base "_law_fitting" 5 ["_law_hand_here", "_law_state", "_law_labels_here", "_law_width"] spFit fF fdF) (dS : Df P w K mg base "_law_spoilt" 5 ["_law_hand_here", "_law_row"] spSpoil fS fdS)
    (dY : Df P w K mg base "_law_any_row" 4 ["_law_hand_here", "_law_labels_here", "_law_many"] spAny fY fdY) (dW : Df P w K mg base "_law_word" 2 ["_law_state", "_law_width", "_law_row"] spWord fW fdW) (dN : Df P w K mg base "_law_enter" 1 ["_law_state", "_law_row"] spEnter fN fdN)
    (dT : Df P w K mg base "_law_as_list" 3 ["_law_hand_here", "_law_row"] spAs fT fdT) : FnOk P w K mg base CX0 10 f fd ["_law_script"] (spLaw K) := by
  refine F.ok scLaw (fun vs H Q E h => ?_) (fun cdv A outer s0 H vs Q E hr h => ?_)
  · obtain ⟨a, ns, rfl, _⟩ := h
    rfl
  · obtain ⟨a, ns, rfl, hS, hlen, q⟩ := h
    obtain ⟨u5, p5, r5⟩ := tRest (P := P) (w := w) (base := base) (f := f) (cdv := cdv) (outer := outer) (H0 := H) (E := E) z_len z_list z_tuple z_isinstance hr R O EQ dA dR dP
    obtain ⟨uT, pT, rT⟩ := tTurn (P := P) (w := w) (base := base) (f := f) (cdv := cdv) (outer := outer) (H0 := H) (E := E) hr dW dN dT
    have hr1 := hr.mono (show 1 ≤ 9 by decide)
    have hr2 := hr.mono (show 2 ≤ 9 by decide)
    have hr3 := hr.mono (show 3 ≤ 9 by decide)
    have hr4 := hr.mono (show 4 ≤ 9 by decide)
    have hr5 := hr.mono (show 5 ≤ 9 by decide)
    refine ⟨_, PSs.nox (pss_cons (ps_set (i := 1) scLaw.nd rfl (.inl rfl) (pe_call dH.ok hr1 (by rfl) dH.gl dH.kp dH.bi .nil pass0 (pa_cons (pv 0) pa_nil)))
    (pss_cons (ps_par (i := 2) (j := 3) rfl scLaw.nd rfl rfl (by decide) rfl rfl (pa_cons (pe_call dD.ok hr2 (by rfl) dD.gl dD.kp dD.bi .nil pass0 (pa_cons (pv 1) (pa_cons pe_int pa_nil))) (pa_cons (pe_call dL.ok hr3 (by rfl) dL.gl dL.kp dL.bi .nil pass0 (pa_cons (pv 1) pa_nil)) pa_nil)) rfl)
    (pss_cons (ps_par3 (i := 4) (j := 5) (l := 6) rfl scLaw.nd rfl rfl rfl (by decide) (by decide) (by decide) rfl rfl rfl (pa_cons (pe_call0 dZ.ok hr1 (by rfl) dZ.gl dZ.kp dZ.bi .nil pass0) (pa_cons (pe_lst pa_nil) (pa_cons pe_non pa_nil))) rfl)
    (pss_cons (ps_set (i := 7) scLaw.nd rfl (.inl rfl) (pe_op op_add pe_int (pe_call dD.ok hr2 (by rfl) dD.gl dD.kp dD.bi .nil pass0 (pa_cons (pv 1) (pa_cons pe_int pa_nil)))))
    (pss_cons (ps_for PassesOwn.never rfl (pi_range1 (by rfl) z_range (pa_cons (pv 7) pa_nil)) (pg_name (i := 8) scLaw.nd rfl (.inl rfl)) (pss_cons (ps_set (i := 9) scLaw.nd rfl (.inl rfl) (pe_call dF.ok hr5 (by rfl) dF.gl dF.kp dF.bi .nil pass0 (pa_cons (pv 1) (pa_cons (pv 4) (pa_cons (pv 3) (pa_cons (pv 2) pa_nil))))))
        (pss_cons (ps_set (i := 10) scLaw.nd rfl (.inl rfl) (pe_call dD.ok hr2 (by rfl) dD.gl dD.kp dD.bi .nil pass0 (pa_cons (pv 1) (pa_cons pe_int pa_nil))))
        (pss_cons (ps_if (pt_cmpR op_eq (pv 10) pe_int (nomark _))
          (pss_one (ps_set (i := 9) scLaw.nd rfl (.inl rfl) (pe_call dS.ok hr5 (by rfl) dS.gl dS.kp dS.bi .nil pass0 (pa_cons (pv 1) (pa_cons (pv 9) pa_nil)))))
          (pss_one (ps_if (pt_cmpR op_eq (pv 10) pe_int (nomark _))
            (pss_one (ps_set (i := 9) scLaw.nd rfl (.inl rfl) (pe_call dY.ok hr4 (by rfl) dY.gl dY.kp dY.bi .nil pass0 (pa_cons (pv 1) (pa_cons (pv 3) (pa_cons (pe_call dD.ok hr2 (by rfl) dD.gl dD.kp dD.bi .nil pass0 (pa_cons (pv 1) (pa_cons pe_int pa_nil))) pa_nil))))))
            pss_nil)))
        pT))))
    p5))))), ?_⟩
    refine ⟨_, rfl, a, ns, rfl, hS, hlen, fun H1 p l t s1 np hh1 => ?_⟩
    have hd1 : Hand p l H1 := ⟨_, _, _, _, hh1⟩
    refine ⟨_, rfl, p, l, 3, rfl, hd1, by decide, by decide, fun wdI H2 w0 w3 k2 hd2 => ?_⟩
    refine ⟨_, rfl, p, l, rfl, hd2, fun la L H3 k3 hd3 nla hla hL6 hLab => ⟨_, _, rfl, ?_⟩⟩
    obtain ⟨wd, rfl⟩ := Int.eq_ofNat_of_zero_le w0
    have nlap : la ≠ p := hd2.nn nla
    have nlal : la ≠ l := hd2.nl nla
    refine ⟨rfl, fun H4 s k d m p2 s4 hZ new => ⟨(by show 0 ≤ sizeLine; decide), fun D nD => ⟨_, _, _, rfl, ?_⟩⟩⟩
    have s5 := same_upd (o := .lst []) nD
    have hd5 := (hd3.same s4).same s5
    have nw : ∀ x ∈ [s, k, d, m, p2], x ≠ p ∧ x ≠ l ∧ x ≠ la ∧ x ≠ D := fun x hx => by
      have e := new x hx
      refine ⟨hd3.nn e, hd3.nl e, Ne.symm (ne_of_none hla e), fun z => ?_⟩
      obtain ⟨ts, ep, _⟩ := hZ.hp
      simp only [List.mem_cons, List.not_mem_nil, or_false] at hx
      rcases hx with rfl | rfl | rfl | rfl | rfl
      · have := hZ.hs; rw [z, nD] at this; cases this
      · have := hZ.hk; rw [z, nD] at this; cases this
      · have := hZ.hd; rw [z, nD] at this; cases this
      · have := hZ.hm; rw [z, nD] at this; cases this
      · rw [z, nD] at ep; cases ep
    refine ⟨_, rfl, p, l, 18, rfl, hd5, by decide, by decide, fun mj H6 m0 m18 k6 hd6 => ?_⟩
    refine ⟨_, _, rfl, rfl, ?_⟩
    have nDp : D ≠ p := (hd3.same s4).nn nD
    have nDl : D ≠ l := (hd3.same s4).nl nD
    have nDla : D ≠ la := Ne.symm (ne_of_none (s4 _ _ hla) nD)
    have hZ6 : StAt St.new 0 H6 s k d m p2 := (hZ.same s5).kept k6 (fun b hb => (nw b hb).1) hd5.at_
    have hla6 : H6 la = some (.lst (L.map V.str)) := k6 _ _ nlap (s5 _ _ (s4 _ _ hla))
    have hD6 : H6 D = some (.lst []) := k6 _ _ nDp upd_same
    have nlp : l ≠ p := by
      obtain ⟨cells, i, r, t, h⟩ := hd6
      exact hand_apart h
    clear s5 hZ hla hd5 k6 nD new s4
    have P1 : Pl H6 p l la s k d m p2 D := by
      obtain ⟨ts, ep, _⟩ := hZ6.hp
      obtain ⟨xs, epp⟩ := hd6.at_
      have n1 := nw s (by simp); have n2 := nw k (by simp); have n3 := nw d (by simp); have n4 := nw m (by simp); have n5 := nw p2 (by simp)
      refine ⟨fun x hx z => ?_, ?_, ?_, ?_, ?_⟩
      · simp only [Wr, List.mem_cons, List.not_mem_nil, or_false] at hx
        rcases hx with rfl | rfl | rfl | rfl | rfl | rfl | rfl
        · rw [epp] at z; cases z
        · rw [hZ6.hs] at z; cases z
        · rw [hZ6.hk] at z; cases z
        · rw [hZ6.hd] at z; cases z
        · rw [hZ6.hm] at z; cases z
        · rw [ep] at z; cases z
        · rw [hD6] at z; cases z
      · simp only [List.mem_cons, List.not_mem_nil, or_false, not_or]
        exact ⟨Ne.symm n1.1, Ne.symm n2.1, Ne.symm n3.1, Ne.symm n4.1, Ne.symm n5.1, Ne.symm nDp, Ne.symm nlap⟩
      · simp only [Wr, List.mem_cons, List.not_mem_nil, or_false, not_or]
        exact ⟨nlp, Ne.symm n1.2.1, Ne.symm n2.2.1, Ne.symm n3.2.1, Ne.symm n4.2.1, Ne.symm n5.2.1, Ne.symm nDl⟩
      · simp only [Wr, List.mem_cons, List.not_mem_nil, or_false, not_or]
        exact ⟨nlap, Ne.symm n1.2.2.1, Ne.symm n2.2.2.1, Ne.symm n3.2.2.1, Ne.symm n4.2.2.1, Ne.symm n5.2.2.1, Ne.symm nDla⟩
      · simp only [List.mem_cons, List.not_mem_nil, or_false, not_or]
        exact ⟨nDp, Ne.symm n1.2.2.2, Ne.symm n2.2.2.2, Ne.symm n3.2.2.2, Ne.symm n4.2.2.2, Ne.symm n5.2.2.2⟩
    have lp0 : Lp H6 H6 p l la s k d m p2 D L 0 [] [] [] St.new := ⟨hd6, hla6, hD6, .nil, .nil, (fun x hx => by cases hx), hZ6, fun _ e => e⟩
    refine ⟨_, rfl, 1 + mj, rfl, by omega, by omega, for_it walk_range (fun n σ H' => TurnI H6 p l la s k d m p2 D L wd n σ H') ⟨_, _, _, _, _, _, _, _, _, _, _, _, _, _, _, rfl, lp0, rfl, .non, fun _ => rfl⟩ (fun _ _ _ _ _ => trivial) ?_ ?_⟩
    · rintro n y σ H7 H8 hn ⟨dv, x0, x7, x8, x9, x10, x11, x12, x13, x14, x15, vs, ds, os, Z, rfl, I, hvs, hdv, hZ⟩ ⟨rfl, rfl⟩
      have hn18 : n < 18 := by omega
      show gName 8 (V.int (0 + (n : Int))) _ _ _
      rw [Int.zero_add]
      have np : ∀ b ∈ [s, k, d, m, p2], b ≠ p := fun b hb => (nw b hb).1
      refine ⟨_, rfl, _, rfl, _, rfl, _, rfl, p, l, la, L, wd, s, k, d, m, p2, Z, 3 * n, rfl, I.hand, I.lab, nlap, by omega, by omega, hLab, by omega, I.st, np, fun v xs r H9 hrow k9 hd9 => ?_⟩
      have I9 := I.kept P1 k9 hd9
      have hrow9 : RowN (New H6) H9 v xs r := hrow.to (fun a e => I.back a e) fun _ _ _ e => e
      have due9 := dueD_off hdv (k9.offW (s := s) (k := k) (d := d) (m := m) (p2 := p2) (D := D) I.hand hd9)
      refine ⟨_, rfl, p, l, 16, rfl, hd9, by decide, by decide, fun j H10 j0 j16 k10 hd10 => ?_⟩
      have I10 := I9.kept P1 k10 hd10
      have of10 : OffW (Wr p s k d m p2 D) H9 H10 := k10.offW hd9 hd10
      have hrow10 : RowN (New H6) H10 v xs r := hrow9.to (fun _ z => z) fun a u e ea => of10.kp a u (fun z => P1.al a z e) ea
      have due10 := dueD_off due9 of10
      clear hrow hrow9 due9 I9 I hdv of10 k10 k9 hd9
      refine ⟨_, rfl, rfl, _, rfl, ite2 (fun g => ?_) (fun g => ?_)⟩
      · obtain rfl := V.int.inj (of_decide_eq_true g)
        refine ⟨_, rfl, _, rfl, p, l, New H6, v, xs, r, rfl, hd10, ⟨I10.back, P1.al p (by simp)⟩, hrow10, fun w dd H11 hw1 hw2 hw3 k11 hd11 => ?_⟩
        have I11 := I10.kept P1 k11 hd11
        refine rT H6 p l la s k d m p2 D L wd n _ _ _ P1 hn18 ⟨dv, w, 0, x0, x7, x11, x12, x13, x14, x15, vs, ds, os, Z, dd, none, rfl, I11, hvs, dueD_off due10 (k11.offW (s := s) (k := k) (d := d) (m := m) (p2 := p2) (D := D) hd10 hd11), hZ, hw1, hw3, .no hw2, .inl ⟨rfl, rfl⟩⟩ fun σ' H' z => z
      · have gj : j ≠ 0 := fun z => (by rw [z] at g; exact g rfl)
        refine ⟨_, rfl, rfl, _, rfl, ite2 (fun g1 => ?_) (fun g1 => ?_)⟩
        · refine ⟨_, rfl, _, rfl, _, rfl, p, l, 3, rfl, hd10, by decide, by decide, fun c H11 c0 c3 k11 hd11 => ?_⟩
          have I11 := I10.kept P1 k11 hd11
          obtain ⟨cn, rfl⟩ := Int.eq_ofNat_of_zero_le c0
          refine ⟨p, l, la, L, cn, rfl, hd11, I11.lab, nlap, by omega, by omega, hLab, by omega, fun v2 xs2 r2 H12 hrow2 k12 hd12 => ?_⟩
          have I12 := I11.kept P1 k12 hd12
          have hrow12 : RowN (New H6) H12 v2 xs2 r2 := hrow2.to (fun a e => I11.back a e) fun _ _ _ e => e
          have due12 := dueD_off (dueD_off due10 (k11.offW (s := s) (k := k) (d := d) (m := m) (p2 := p2) (D := D) hd10 hd11)) (k12.offW (s := s) (k := k) (d := d) (m := m) (p2 := p2) (D := D) hd11 hd12)
          refine rT H6 p l la s k d m p2 D L wd n _ _ _ P1 hn18 ⟨dv, v2, j, x0, x7, x11, x12, x13, x14, x15, vs, ds, os, Z, _, some r2, rfl, I12, hvs, due12, hZ, hrow12.dt, hrow12.ok, .row rfl hrow12.row, .inr ⟨gj, _, _, rfl, hrow12.row, rfl⟩⟩ fun σ' H' z => z
        · refine rT H6 p l la s k d m p2 D L wd n _ _ _ P1 hn18 ⟨dv, v, j, x0, x7, x11, x12, x13, x14, x15, vs, ds, os, Z, _, some r, rfl, I10, hvs, due10, hZ, hrow10.dt, hrow10.ok, .row rfl hrow10.row, .inr ⟨gj, _, _, rfl, hrow10.row, rfl⟩⟩ fun σ' H' z => z
    rintro σ H7 ⟨dv, x0, x7, x8, x9, x10, x11, x12, x13, x14, x15, vs, ds, os, Z, rfl, I, hvs, hdv, hZ⟩
    exact r5 _ _ _ ⟨H6, wd, D, dv, vs, ds, os, x0, some (.ref p), some (.ref la), some (.ref s), x7, x8, x9, x10, x11, x12, x13, x14, x15, rfl, ⟨I.lst, P1.al D (by simp), I.its, I.rows, I.rk, by omega, by omega, by rw [due_new]; exact hdv⟩⟩ q
end
end K01

set_option maxHeartbeats 8000000
/-! the facts by the head, the end -/
namespace K01
open PySem PySem.Spec PyProof.Rows L2
theorem oexB_ok {K : PySem.W.Frag} {C : Addr} (h : oexB K C = true) : ∃ nm q N bs bm sn sub ab col dd k0 k1 k2 k3 k5, K.lookup C = some (excClassObj nm q C N bs bm true sn sub ab col dd k0 k1 k2 k3 k5 "ValueError.__new__") ∧ PySem.HandSPX.refsVE bm = true := by
  unfold oexB at h
  split at h
  · rename_i t dd cd sl e
    obtain ⟨h1, h2⟩ := Bool.and_eq_true_iff.mp h
    have et := of_decide_eq_true h1
    split at h2
    · rename_i C' bm k0 k1 k2 k3 n k5 hm hs
      obtain ⟨h3, h4⟩ := Bool.and_eq_true_iff.mp h2
      obtain ⟨h5, h6⟩ := Bool.and_eq_true_iff.mp h4
      obtain ⟨h7, h8⟩ := Bool.and_eq_true_iff.mp h6
      obtain ⟨h9, h10⟩ := Bool.and_eq_true_iff.mp h8
      have eC := of_decide_eq_true h3
      have en := of_decide_eq_true h5
      obtain ⟨nm, bs, mro, ns, qn, hd, sn, sb, ab, col, del⟩ := cd
      dsimp only at hm h7 h9
      have e9 : del = false := by
        cases del with
        | false => rfl
        | true => cases h9
      have es : sl = #[k0, k1, k2, k3, some (.builtin n), k5] := by
        cases sl
        exact congrArg Array.mk hs
      subst et eC en e9 hm es h7
      exact ⟨nm, qn, ns, bs, bm, sn, sb, ab, col, dd, k0, k1, k2, k3, k5, e, h10⟩
    · cases h2
  · cases h
theorem b2 {a b : Bool} (h : (a && b) = true) : a = true ∧ b = true := Bool.and_eq_true_iff.mp h
/-- what the head says of an error -/
structure BadF (K : PySem.W.Frag) (D : Addr) : Prop where
  ox : OexC K D
  xf : XfC K D
  cl : PySem.W.findIn K (.ref D) "__class__" = some (some (.builtin "object.__class__"))
  ob : PySem.W.mroIn K D (.type "object") = some true
  ini : PySem.W.findIn K (.ref D) "__init__" = some (some (.ref (He.ma K D "__init__")))
  ty : PySem.W.typeIn K (.ref (He.ma K D "__init__")) = some (.type "function")
theorem badB_ok {K : PySem.W.Frag} {D : Addr} (h : badB K D = true) : BadF K D := by
  obtain ⟨x1, h⟩ := b2 h
  obtain ⟨x2, h⟩ := b2 h
  obtain ⟨x3, x4⟩ := b2 h
  obtain ⟨h1, h⟩ := b2 x2
  obtain ⟨h2, h⟩ := b2 h
  obtain ⟨h3, h⟩ := b2 h
  obtain ⟨h4, h⟩ := b2 h
  obtain ⟨h5, h⟩ := b2 h
  obtain ⟨h6, h⟩ := b2 h
  obtain ⟨h7, h⟩ := b2 h
  obtain ⟨h8, h9⟩ := b2 h
  have xf : XfC K D := ⟨of_decide_eq_true h1, of_decide_eq_true h2, of_decide_eq_true h3, h4⟩
  exact ⟨⟨oexB_ok x1, of_decide_eq_true h7, xf.exC, of_decide_eq_true h8, h9⟩, xf, of_decide_eq_true h5, of_decide_eq_true h6, of_decide_eq_true x3, of_decide_eq_true x4⟩
theorem BadF.xc {K : PySem.W.Frag} {D : Addr} (e : BadF K D) (d : dunB K = true) : ExcC K D := by
  obtain ⟨h1, h2⟩ := b2 d
  exact ⟨e.xf.ga, e.xf.gg, e.xf.exC, e.xf.hdC, e.cl, of_decide_eq_true h1, of_decide_eq_true h2, e.ob⟩
section
variable {P : Program} {w : World} {K : PySem.W.Frag} {mg : Str → Option Value} {base : Heap}
theorem SaysM.all (c : SaysM K) : ((fa.all fun f => f.ok K) && (restB K && fn.all fun d => d.ok K)) = true := congrArg (fun z : AlM => z.1) c
theorem SaysM.fact_ (c : SaysM K) (i : Nat) {f : He.Fa} (h : fa[i]? = some f) : f.ok K = true := List.all_eq_true.mp (b2 c.all).1 f (List.mem_of_getElem? h)
theorem SaysM.rest (c : SaysM K) : restB K = true := (b2 (b2 c.all).2).1
theorem SaysM.def_ (c : SaysM K) (i : Nat) {d : He.DefD} (h : fn[i]? = some d) : ∃ fd, FunD K d.name d.qual d.params d.body d.scope (d.dvs K) (d.kws K) (He.fAd K d.at_) fd := by
  have c2 := (b2 (b2 c.all).2).2
  have e : fn.map (fun d => He.fnW K d.at_) = fn.map He.DefD.val := congrArg (fun z : AlM => z.2) c
  have e2 : (fn.map fun d => He.fnW K d.at_)[i]? = (fn.map He.DefD.val)[i]? := by rw [e]
  rw [List.getElem?_map, List.getElem?_map, h] at e2
  exact He.DefD.funD (Option.some.inj e2) (List.all_eq_true.mp c2 d (List.mem_of_getElem? h))
theorem facts {h : Heap} {f : Addr} (X : K.In h) (G : h.Ns mainGlobals mg) (hfa : mg ("law" : Str) = some (.ref f)) (c : SaysM K) :
    ∃ fd : FuncData, (∀ (s : Shared) (v : Value), BindsTo s fd ⟨[v], []⟩ [("_law_script", v)]) ∧ ∀ base : Heap, K.In base → base.Ns mainGlobals mg → FnOk P w K mg base CX0 10 f fd ["_law_script"] (spLaw K) := by
  have z_int : mg "int" = none := He.free_ok X G (c.fact_ 0 (f := .free "int") rfl)
  have z_bool : mg "bool" = none := He.free_ok X G (c.fact_ 1 (f := .free "bool") rfl)
  have z_isinstance : mg "isinstance" = none := He.free_ok X G (c.fact_ 2 (f := .free "isinstance") rfl)
  have z_str : mg "str" = none := He.free_ok X G (c.fact_ 3 (f := .free "str") rfl)
  have z_len : mg "len" = none := He.free_ok X G (c.fact_ 4 (f := .free "len") rfl)
  have z_all : mg "all" = none := He.free_ok X G (c.fact_ 5 (f := .free "all") rfl)
  have z_list : mg "list" = none := He.free_ok X G (c.fact_ 6 (f := .free "list") rfl)
  have z_tuple : mg "tuple" = none := He.free_ok X G (c.fact_ 7 (f := .free "tuple") rfl)
  have z_enumerate : mg "enumerate" = none := He.free_ok X G (c.fact_ 8 (f := .free "enumerate") rfl)
  have z_range : mg "range" = none := He.free_ok X G (c.fact_ 9 (f := .free "range") rfl)
  have z_abs : mg "abs" = none := He.free_ok X G (c.fact_ 10 (f := .free "abs") rfl)
  have z_type : mg "type" = none := He.free_ok X G (c.fact_ 11 (f := .free "type") rfl)
  have z_iter : mg "iter" = none := He.free_ok X G (c.fact_ 12 (f := .free "iter") rfl)
  have z_ValueError : mg "ValueError" = none := He.free_ok X G (c.fact_ 13 (f := .free "ValueError") rfl)
  have g_is_whole : mg "is_whole" = some (.ref (He.ga K "is_whole")) := He.glo_ok X G (c.fact_ 14 (f := .glo "is_whole") rfl)
  have g_is_name : mg "is_name" = some (.ref (He.ga K "is_name")) := He.glo_ok X G (c.fact_ 15 (f := .glo "is_name") rfl)
  have g_is_label : mg "is_label" = some (.ref (He.ga K "is_label")) := He.glo_ok X G (c.fact_ 16 (f := .glo "is_label") rfl)
  have g_is_kind : mg "is_kind" = some (.ref (He.ga K "is_kind")) := He.glo_ok X G (c.fact_ 17 (f := .glo "is_kind") rfl)
  have g_is_sequence : mg "is_sequence" = some (.ref (He.ga K "is_sequence")) := He.glo_ok X G (c.fact_ 18 (f := .glo "is_sequence") rfl)
  have g_is_row : mg "is_row" = some (.ref (He.ga K "is_row")) := He.glo_ok X G (c.fact_ 19 (f := .glo "is_row") rfl)
  have g__are_names : mg "_are_names" = some (.ref (He.ga K "_are_names")) := He.glo_ok X G (c.fact_ 20 (f := .glo "_are_names") rfl)
  have g_row_fault : mg "row_fault" = some (.ref (He.ga K "row_fault")) := He.glo_ok X G (c.fact_ 21 (f := .glo "row_fault") rfl)
  have g__coming_fault : mg "_coming_fault" = some (.ref (He.ga K "_coming_fault")) := He.glo_ok X G (c.fact_ 22 (f := .glo "_coming_fault") rfl)
  have g__wedding_fault : mg "_wedding_fault" = some (.ref (He.ga K "_wedding_fault")) := He.glo_ok X G (c.fact_ 23 (f := .glo "_wedding_fault") rfl)
  have g__birth_fault : mg "_birth_fault" = some (.ref (He.ga K "_birth_fault")) := He.glo_ok X G (c.fact_ 24 (f := .glo "_birth_fault") rfl)
  have g__write_rows : mg "_write_rows" = some (.ref (He.ga K "_write_rows")) := He.glo_ok X G (c.fact_ 25 (f := .glo "_write_rows") rfl)
  have g_record_fault : mg "record_fault" = some (.ref (He.ga K "record_fault")) := He.glo_ok X G (c.fact_ 26 (f := .glo "record_fault") rfl)
  have g_as_tuples : mg "as_tuples" = some (.ref (He.ga K "as_tuples")) := He.glo_ok X G (c.fact_ 27 (f := .glo "as_tuples") rfl)
  have g__law_mix : mg "_law_mix" = some (.ref (He.ga K "_law_mix")) := He.glo_ok X G (c.fact_ 28 (f := .glo "_law_mix") rfl)
  have g__law_hand : mg "_law_hand" = some (.ref (He.ga K "_law_hand")) := He.glo_ok X G (c.fact_ 29 (f := .glo "_law_hand") rfl)
  have g__law_draw : mg "_law_draw" = some (.ref (He.ga K "_law_draw")) := He.glo_ok X G (c.fact_ 30 (f := .glo "_law_draw") rfl)
  have g__law_pick : mg "_law_pick" = some (.ref (He.ga K "_law_pick")) := He.glo_ok X G (c.fact_ 31 (f := .glo "_law_pick") rfl)
  have g__law_start : mg "_law_start" = some (.ref (He.ga K "_law_start")) := He.glo_ok X G (c.fact_ 32 (f := .glo "_law_start") rfl)
  have g__law_has_mate : mg "_law_has_mate" = some (.ref (He.ga K "_law_has_mate")) := He.glo_ok X G (c.fact_ 33 (f := .glo "_law_has_mate") rfl)
  have g__law_word : mg "_law_word" = some (.ref (He.ga K "_law_word")) := He.glo_ok X G (c.fact_ 34 (f := .glo "_law_word") rfl)
  have g__law_enter : mg "_law_enter" = some (.ref (He.ga K "_law_enter")) := He.glo_ok X G (c.fact_ 35 (f := .glo "_law_enter") rfl)
  have g__law_name : mg "_law_name" = some (.ref (He.ga K "_law_name")) := He.glo_ok X G (c.fact_ 36 (f := .glo "_law_name") rfl)
  have g__law_any_row : mg "_law_any_row" = some (.ref (He.ga K "_law_any_row")) := He.glo_ok X G (c.fact_ 37 (f := .glo "_law_any_row") rfl)
  have g__law_fitting : mg "_law_fitting" = some (.ref (He.ga K "_law_fitting")) := He.glo_ok X G (c.fact_ 38 (f := .glo "_law_fitting") rfl)
  have g__law_wrong_item : mg "_law_wrong_item" = some (.ref (He.ga K "_law_wrong_item")) := He.glo_ok X G (c.fact_ 39 (f := .glo "_law_wrong_item") rfl)
  have g__law_spoilt : mg "_law_spoilt" = some (.ref (He.ga K "_law_spoilt")) := He.glo_ok X G (c.fact_ 40 (f := .glo "_law_spoilt") rfl)
  have g__law_labels : mg "_law_labels" = some (.ref (He.ga K "_law_labels")) := He.glo_ok X G (c.fact_ 41 (f := .glo "_law_labels") rfl)
  have g__law_as_list : mg "_law_as_list" = some (.ref (He.ga K "_law_as_list")) := He.glo_ok X G (c.fact_ 42 (f := .glo "_law_as_list") rfl)
  have g__law_asked : mg "_law_asked" = some (.ref (He.ga K "_law_asked")) := He.glo_ok X G (c.fact_ 43 (f := .glo "_law_asked") rfl)
  have g__law_plain : mg "_law_plain" = some (.ref (He.ga K "_law_plain")) := He.glo_ok X G (c.fact_ 44 (f := .glo "_law_plain") rfl)
  have g_law : mg "law" = some (.ref (He.ga K "law")) := He.glo_ok X G (c.fact_ 45 (f := .glo "law") rfl)
  have g_Book : mg "Book" = some (.ref (He.ga K "Book")) := He.glo_ok X G (c.fact_ 46 (f := .glo "Book") rfl)
  have g_Record : mg "Record" = some (.ref (He.ga K "Record")) := He.glo_ok X G (c.fact_ 47 (f := .glo "Record") rfl)
  have g_BadRecord : mg "BadRecord" = some (.ref (He.ga K "BadRecord")) := He.glo_ok X G (c.fact_ 48 (f := .glo "BadRecord") rfl)
  have g_CustomError : mg "CustomError" = some (.ref (He.ga K "CustomError")) := He.glo_ok X G (c.fact_ 49 (f := .glo "CustomError") rfl)
  have g_KINDS : mg "KINDS" = some (.ref (He.ga K "KINDS")) := He.glo_ok X G (c.fact_ 50 (f := .glo "KINDS") rfl)
  have g_MOST_ROWS : ∃ t, mg "MOST_ROWS" = some (.int 5000 t) := He.int_ok X G (c.fact_ 51 (f := .int "MOST_ROWS" 5000) rfl)
  have g_MOST_NAME : ∃ t, mg "MOST_NAME" = some (.int (10 ^ 30) t) := He.int_ok X G (c.fact_ 52 (f := .int "MOST_NAME" (10 ^ 30)) rfl)
  have g_MOST_WIDTH : ∃ t, mg "MOST_WIDTH" = some (.int 2 t) := He.int_ok X G (c.fact_ 53 (f := .int "MOST_WIDTH" 2) rfl)
  obtain ⟨d_is_whole, F_is_whole⟩ := c.def_ 0 rfl
  obtain ⟨d_is_name, F_is_name⟩ := c.def_ 1 rfl
  obtain ⟨d_is_label, F_is_label⟩ := c.def_ 2 rfl
  obtain ⟨d_is_kind, F_is_kind⟩ := c.def_ 3 rfl
  obtain ⟨d_is_sequence, F_is_sequence⟩ := c.def_ 4 rfl
  obtain ⟨d_is_row, F_is_row⟩ := c.def_ 5 rfl
  obtain ⟨d__are_names, F__are_names⟩ := c.def_ 6 rfl
  obtain ⟨d_row_fault, F_row_fault⟩ := c.def_ 7 rfl
  obtain ⟨d__coming_fault, F__coming_fault⟩ := c.def_ 8 rfl
  obtain ⟨d__wedding_fault, F__wedding_fault⟩ := c.def_ 9 rfl
  obtain ⟨d__birth_fault, F__birth_fault⟩ := c.def_ 10 rfl
  obtain ⟨d__write_rows, F__write_rows⟩ := c.def_ 11 rfl
  obtain ⟨d_record_fault, F_record_fault⟩ := c.def_ 12 rfl
  obtain ⟨d_as_tuples, F_as_tuples⟩ := c.def_ 13 rfl
  obtain ⟨d__law_mix, F__law_mix⟩ := c.def_ 14 rfl
  obtain ⟨d__law_hand, F__law_hand⟩ := c.def_ 15 rfl
  obtain ⟨d__law_draw, F__law_draw⟩ := c.def_ 16 rfl
  obtain ⟨d__law_pick, F__law_pick⟩ := c.def_ 17 rfl
  obtain ⟨d__law_start, F__law_start⟩ := c.def_ 18 rfl
  obtain ⟨d__law_has_mate, F__law_has_mate⟩ := c.def_ 19 rfl
  obtain ⟨d__law_word, F__law_word⟩ := c.def_ 20 rfl
  obtain ⟨d__law_enter, F__law_enter⟩ := c.def_ 21 rfl
  obtain ⟨d__law_name, F__law_name⟩ := c.def_ 22 rfl
  obtain ⟨d__law_any_row, F__law_any_row⟩ := c.def_ 23 rfl
  obtain ⟨d__law_fitting, F__law_fitting⟩ := c.def_ 24 rfl
  obtain ⟨d__law_wrong_item, F__law_wrong_item⟩ := c.def_ 25 rfl
  obtain ⟨d__law_spoilt, F__law_spoilt⟩ := c.def_ 26 rfl
  obtain ⟨d__law_labels, F__law_labels⟩ := c.def_ 27 rfl
  obtain ⟨d__law_as_list, F__law_as_list⟩ := c.def_ 28 rfl
  obtain ⟨d__law_asked, F__law_asked⟩ := c.def_ 29 rfl
  obtain ⟨d__law_plain, F__law_plain⟩ := c.def_ 30 rfl
  obtain ⟨d_law, F_law⟩ := c.def_ 31 rfl
  obtain ⟨d_BadRecord__init__, F_BadRecord__init__⟩ := c.def_ 32 rfl
  obtain ⟨d_Book__init__, F_Book__init__⟩ := c.def_ 33 rfl
  obtain ⟨d_Bookis_couple, F_Bookis_couple⟩ := c.def_ 34 rfl
  obtain ⟨d_Bookwrite, F_Bookwrite⟩ := c.def_ 35 rfl
  obtain ⟨d_Bookbring, F_Bookbring⟩ := c.def_ 36 rfl
  obtain ⟨d_Bookwed, F_Bookwed⟩ := c.def_ 37 rfl
  obtain ⟨d_Bookbury, F_Bookbury⟩ := c.def_ 38 rfl
  obtain ⟨d_Record__init__, F_Record__init__⟩ := c.def_ 39 rfl
  obtain ⟨d_Record__eq__, F_Record__eq__⟩ := c.def_ 40 rfl
  obtain ⟨d_Record__len__, F_Record__len__⟩ := c.def_ 41 rfl
  obtain ⟨d_Record__iter__, F_Record__iter__⟩ := c.def_ 42 rfl
  have b_is_whole : Binds K d_is_whole ["thing", "low", "high"] [] := FunD.bindsN F_is_whole fun _ _ _ _ _ _ us hl => match us, hl with | [_, _, _], _ => rfl
  have b_is_name : Binds K d_is_name ["thing"] [] := FunD.bindsN F_is_name fun _ _ _ _ _ _ us hl => match us, hl with | [_], _ => rfl
  have b_is_label : Binds K d_is_label ["thing"] [] := FunD.bindsN F_is_label fun _ _ _ _ _ _ us hl => match us, hl with | [_], _ => rfl
  have b_is_kind : Binds K d_is_kind ["thing"] [] := FunD.bindsN F_is_kind fun _ _ _ _ _ _ us hl => match us, hl with | [_], _ => rfl
  have b_is_sequence : Binds K d_is_sequence ["thing"] [] := FunD.bindsN F_is_sequence fun _ _ _ _ _ _ us hl => match us, hl with | [_], _ => rfl
  have b_is_row : Binds K d_is_row ["row"] [] := FunD.bindsN F_is_row fun _ _ _ _ _ _ us hl => match us, hl with | [_], _ => rfl
  have b__are_names : Binds K d__are_names ["thing"] [] := FunD.bindsN F__are_names fun _ _ _ _ _ _ us hl => match us, hl with | [_], _ => rfl
  have b_row_fault : Binds K d_row_fault ["book", "width", "row"] [] := FunD.bindsN F_row_fault fun _ _ _ _ _ _ us hl => match us, hl with | [_, _, _], _ => rfl
  have b__coming_fault : Binds K d__coming_fault ["book", "width", "row"] [] := FunD.bindsN F__coming_fault fun _ _ _ _ _ _ us hl => match us, hl with | [_, _, _], _ => rfl
  have b__wedding_fault : Binds K d__wedding_fault ["book", "father", "mother"] [] := FunD.bindsN F__wedding_fault fun _ _ _ _ _ _ us hl => match us, hl with | [_, _, _], _ => rfl
  have b__birth_fault : Binds K d__birth_fault ["book", "father", "mother", "label"] [] := FunD.bindsN F__birth_fault fun _ _ _ _ _ _ us hl => match us, hl with | [_, _, _, _], _ => rfl
  have b__write_rows : Binds K d__write_rows ["book", "width", "rows"] [] := FunD.bindsN F__write_rows fun _ _ _ _ _ _ us hl => match us, hl with | [_, _, _], _ => rfl
  have b_record_fault : Binds K d_record_fault ["width", "rows"] [] := FunD.bindsN F_record_fault fun _ _ _ _ _ _ us hl => match us, hl with | [_, _], _ => rfl
  have b_as_tuples : Binds K d_as_tuples ["row"] [] := FunD.bindsN F_as_tuples fun _ _ _ _ _ _ us hl => match us, hl with | [_], _ => rfl
  have b__law_mix : Binds K d__law_mix ["_law_number", "_law_turn"] [] := FunD.bindsN F__law_mix fun _ _ _ _ _ _ us hl => match us, hl with | [_, _], _ => rfl
  have b__law_hand : Binds K d__law_hand ["_law_script"] [] := FunD.bindsN F__law_hand fun _ _ _ _ _ _ us hl => match us, hl with | [_], _ => rfl
  have b__law_draw : Binds K d__law_draw ["_law_hand_here", "_law_many"] [] := FunD.bindsN F__law_draw fun _ _ _ _ _ _ us hl => match us, hl with | [_, _], _ => rfl
  have b__law_pick : Binds K d__law_pick ["_law_hand_here", "_law_things"] [] := FunD.bindsN F__law_pick fun _ _ _ _ _ _ us hl => match us, hl with | [_, _], _ => rfl
  have b__law_start : Binds K d__law_start [] [] := FunD.bindsN F__law_start fun _ _ _ _ _ _ us hl => match us, hl with | [], _ => rfl
  have b__law_has_mate : Binds K d__law_has_mate ["_law_state", "_law_label"] [] := FunD.bindsN F__law_has_mate fun _ _ _ _ _ _ us hl => match us, hl with | [_, _], _ => rfl
  have b__law_word : Binds K d__law_word ["_law_state", "_law_width", "_law_row"] [] := FunD.bindsN F__law_word fun _ _ _ _ _ _ us hl => match us, hl with | [_, _, _], _ => rfl
  have b__law_enter : Binds K d__law_enter ["_law_state", "_law_row"] [] := FunD.bindsN F__law_enter fun _ _ _ _ _ _ us hl => match us, hl with | [_, _], _ => rfl
  have b__law_name : Binds K d__law_name ["_law_hand_here"] [] := FunD.bindsN F__law_name fun _ _ _ _ _ _ us hl => match us, hl with | [_], _ => rfl
  have b__law_any_row : Binds K d__law_any_row ["_law_hand_here", "_law_labels_here", "_law_many"] [] := FunD.bindsN F__law_any_row fun _ _ _ _ _ _ us hl => match us, hl with | [_, _, _], _ => rfl
  have b__law_fitting : Binds K d__law_fitting ["_law_hand_here", "_law_state", "_law_labels_here", "_law_width"] [] := FunD.bindsN F__law_fitting fun _ _ _ _ _ _ us hl => match us, hl with | [_, _, _, _], _ => rfl
  have b__law_wrong_item : Binds K d__law_wrong_item ["_law_hand_here", "_law_row", "_law_place"] [] := FunD.bindsN F__law_wrong_item fun _ _ _ _ _ _ us hl => match us, hl with | [_, _, _], _ => rfl
  have b__law_spoilt : Binds K d__law_spoilt ["_law_hand_here", "_law_row"] [] := FunD.bindsN F__law_spoilt fun _ _ _ _ _ _ us hl => match us, hl with | [_, _], _ => rfl
  have b__law_labels : Binds K d__law_labels ["_law_hand_here"] [] := FunD.bindsN F__law_labels fun _ _ _ _ _ _ us hl => match us, hl with | [_], _ => rfl
  have b__law_as_list : Binds K d__law_as_list ["_law_hand_here", "_law_row"] [] := FunD.bindsN F__law_as_list fun _ _ _ _ _ _ us hl => match us, hl with | [_, _], _ => rfl
  have b__law_asked : Binds K d__law_asked ["_law_width", "_law_rows"] [] := FunD.bindsN F__law_asked fun _ _ _ _ _ _ us hl => match us, hl with | [_, _], _ => rfl
  have b__law_plain : Binds K d__law_plain ["_law_row"] [] := FunD.bindsN F__law_plain fun _ _ _ _ _ _ us hl => match us, hl with | [_], _ => rfl
  have b_BadRecord__init__ : Binds K d_BadRecord__init__ ["self", "index", "what"] [] := FunD.bindsN F_BadRecord__init__ fun _ _ _ _ _ _ us hl => match us, hl with | [_, _, _], _ => rfl
  have b_Book__init__ : Binds K d_Book__init__ ["self"] [] := FunD.bindsN F_Book__init__ fun _ _ _ _ _ _ us hl => match us, hl with | [_], _ => rfl
  have b_Bookis_couple : Binds K d_Bookis_couple ["self", "father", "mother"] [] := FunD.bindsN F_Bookis_couple fun _ _ _ _ _ _ us hl => match us, hl with | [_, _, _], _ => rfl
  have b_Bookwrite : Binds K d_Bookwrite ["self", "index", "row"] [] := FunD.bindsN F_Bookwrite fun _ _ _ _ _ _ us hl => match us, hl with | [_, _, _], _ => rfl
  have b_Bookbring : Binds K d_Bookbring ["self", "index", "label", "kind"] [] := FunD.bindsN F_Bookbring fun _ _ _ _ _ _ us hl => match us, hl with | [_, _, _, _], _ => rfl
  have b_Bookwed : Binds K d_Bookwed ["self", "father", "mother"] [] := FunD.bindsN F_Bookwed fun _ _ _ _ _ _ us hl => match us, hl with | [_, _, _], _ => rfl
  have b_Bookbury : Binds K d_Bookbury ["self", "label"] [] := FunD.bindsN F_Bookbury fun _ _ _ _ _ _ us hl => match us, hl with | [_, _], _ => rfl
  have b_Record__init__ : Binds K d_Record__init__ ["self", "width", "rows"] [] := by
    obtain ⟨ds, v, b⟩ := FunD.binds1 (ps := ["self", "width", "rows"]) F_Record__init__ 3 1 (List.cons_ne_nil _ _) rfl fun T kV doc pm an cdv ct us its h1 h2 => match us, h1, its, h2 with | [_, _, _], _, [_], _ => ⟨_, rfl, rfl⟩
    have e : ds = [] := by
      have z := v.length
      exact List.eq_nil_of_length_eq_zero z.symm
    subst e
    exact b
  have b_Record__eq__ : Binds K d_Record__eq__ ["self", "other"] [] := FunD.bindsN F_Record__eq__ fun _ _ _ _ _ _ us hl => match us, hl with | [_, _], _ => rfl
  have b_Record__len__ : Binds K d_Record__len__ ["self"] [] := FunD.bindsN F_Record__len__ fun _ _ _ _ _ _ us hl => match us, hl with | [_], _ => rfl
  have b_Record__iter__ : Binds K d_Record__iter__ ["self"] [] := FunD.bindsN F_Record__iter__ fun _ _ _ _ _ _ us hl => match us, hl with | [_], _ => rfl
  have TB : BookC K (He.ga K "Book") := ⟨(He.cls_ok (c.fact_ 54 (f := .cls "Book") rfl)), (He.noat_ok (c.fact_ 61 (f := .noat "Book" "kinds") rfl)), (He.noat_ok (c.fact_ 62 (f := .noat "Book" "parents") rfl)), (He.noat_ok (c.fact_ 63 (f := .noat "Book" "row_numbers") rfl)), (He.noat_ok (c.fact_ 64 (f := .noat "Book" "dead") rfl)), (He.noat_ok (c.fact_ 65 (f := .noat "Book" "mate_now") rfl)), (He.noat_ok (c.fact_ 66 (f := .noat "Book" "all_mates") rfl)), (He.noat_ok (c.fact_ 67 (f := .noat "Book" "children") rfl))⟩
  have TR : RecC K (He.ga K "Record") := ⟨(He.cls_ok (c.fact_ 68 (f := .cls "Record") rfl)), (He.noat_ok (c.fact_ 73 (f := .noat "Record" "width") rfl)), (He.noat_ok (c.fact_ 74 (f := .noat "Record" "rows") rfl)), (He.noat_ok (c.fact_ 75 (f := .noat "Record" "persons") rfl)), (He.noat_ok (c.fact_ 76 (f := .noat "Record" "founders") rfl)), (He.noat_ok (c.fact_ 77 (f := .noat "Record" "born") rfl)), (He.noat_ok (c.fact_ 78 (f := .noat "Record" "weddings") rfl)), (He.noat_ok (c.fact_ 79 (f := .noat "Record" "couples") rfl)), (He.noat_ok (c.fact_ 80 (f := .noat "Record" "living") rfl)), (He.noat_ok (c.fact_ 81 (f := .noat "Record" "_book") rfl))⟩
  obtain ⟨r1, r⟩ := b2 c.rest
  obtain ⟨r2, r⟩ := b2 r
  obtain ⟨r3, r⟩ := b2 r
  obtain ⟨r4, r⟩ := b2 r
  obtain ⟨r5, r6⟩ := b2 r
  have bf := badB_ok r1
  have e := hfa.symm.trans g_law
  cases e
  have b_law := FunD.bindsA (ps := ["_law_script"]) F_law fun _ _ _ _ _ _ us hl => match us, hl with | [_], _ => rfl
  refine ⟨d_law, fun s v => b_law s [v] rfl, fun base KX KG => ?_⟩
  have D_is_whole : Df P w K mg base "is_whole" 1 ["thing", "low", "high"] spWhole (He.ga K "is_whole") d_is_whole := ⟨g_is_whole, ok_whole F_is_whole z_int z_bool z_isinstance, b_is_whole, F_is_whole.kp⟩
  have D_is_name : Df P w K mg base "is_name" 2 ["thing"] spName (He.ga K "is_name") d_is_name := ⟨g_is_name, ok_name F_is_name D_is_whole.ok D_is_whole.bi D_is_whole.kp D_is_whole.gl g_MOST_NAME, b_is_name, F_is_name.kp⟩
  have D_is_label : Df P w K mg base "is_label" 1 ["thing"] spLabel (He.ga K "is_label") d_is_label := ⟨g_is_label, ok_label F_is_label z_str z_isinstance z_len z_all, b_is_label, F_is_label.kp⟩
  have D_is_kind : Df P w K mg base "is_kind" 1 ["thing"] spKind (He.ga K "is_kind") d_is_kind := ⟨g_is_kind, ok_kind F_is_kind z_str z_isinstance g_KINDS (fun H => He.tupB_ok r6 H), b_is_kind, F_is_kind.kp⟩
  have D_is_sequence : Df P w K mg base "is_sequence" 1 ["thing"] spSeq (He.ga K "is_sequence") d_is_sequence := ⟨g_is_sequence, ok_seq F_is_sequence z_list z_tuple z_isinstance, b_is_sequence, F_is_sequence.kp⟩
  have D__are_names : Df P w K mg base "_are_names" 3 ["thing"] spNames (He.ga K "_are_names") d__are_names := ⟨g__are_names, ok_names F__are_names z_all D_is_sequence D_is_name, b__are_names, F__are_names.kp⟩
  have D_is_row : Df P w K mg base "is_row" 4 ["row"] spRow (He.ga K "is_row") d_is_row := ⟨g_is_row, ok_row F_is_row z_isinstance z_str z_len D_is_sequence D_is_label D_is_kind D_is_name D__are_names, b_is_row, F_is_row.kp⟩
  have M_is_couple : Mt P w K mg base (He.ga K "Book") "is_couple" 1 ["self", "father", "mother"] (spCouple (He.ga K "Book")) _ d_Bookis_couple := ⟨(He.meth_ok (c.fact_ 56 (f := .meth "Book" "is_couple") rfl)), ok_couple F_Bookis_couple TB, b_Bookis_couple⟩
  have M_bring : Mt P w K mg base (He.ga K "Book") "bring" 1 ["self", "index", "label", "kind"] (spBring (He.ga K "Book")) _ d_Bookbring := ⟨(He.meth_ok (c.fact_ 58 (f := .meth "Book" "bring") rfl)), ok_bring F_Bookbring TB, b_Bookbring⟩
  have M_wed : Mt P w K mg base (He.ga K "Book") "wed" 1 ["self", "father", "mother"] (spWed (He.ga K "Book")) _ d_Bookwed := ⟨(He.meth_ok (c.fact_ 59 (f := .meth "Book" "wed") rfl)), ok_wed F_Bookwed TB, b_Bookwed⟩
  have M_bury : Mt P w K mg base (He.ga K "Book") "bury" 1 ["self", "label"] (spBury (He.ga K "Book")) _ d_Bookbury := ⟨(He.meth_ok (c.fact_ 60 (f := .meth "Book" "bury") rfl)), ok_bury F_Bookbury TB, b_Bookbury⟩
  have M_write : Mt P w K mg base (He.ga K "Book") "write" 2 ["self", "index", "row"] (spWrite (He.ga K "Book")) _ d_Bookwrite := ⟨(He.meth_ok (c.fact_ 57 (f := .meth "Book" "write") rfl)), ok_write F_Bookwrite TB M_bring M_wed M_bury, b_Bookwrite⟩
  have D__coming_fault : Df P w K mg base "_coming_fault" 1 ["book", "width", "row"] (spComing (He.ga K "Book")) (He.ga K "_coming_fault") d__coming_fault := ⟨g__coming_fault, ok_coming F__coming_fault TB z_len, b__coming_fault, F__coming_fault.kp⟩
  have D__wedding_fault : Df P w K mg base "_wedding_fault" 1 ["book", "father", "mother"] (spWedding (He.ga K "Book")) (He.ga K "_wedding_fault") d__wedding_fault := ⟨g__wedding_fault, ok_wedding F__wedding_fault TB, b__wedding_fault, F__wedding_fault.kp⟩
  have D__birth_fault : Df P w K mg base "_birth_fault" 2 ["book", "father", "mother", "label"] (spBirth (He.ga K "Book")) (He.ga K "_birth_fault") d__birth_fault := ⟨g__birth_fault, ok_birth F__birth_fault TB M_is_couple, b__birth_fault, F__birth_fault.kp⟩
  have D_row_fault : Df P w K mg base "row_fault" 5 ["book", "width", "row"] (spFault (He.ga K "Book")) (He.ga K "row_fault") d_row_fault := ⟨g_row_fault, ok_fault F_row_fault TB D_is_row D__coming_fault D__wedding_fault D__birth_fault, b_row_fault, F_row_fault.kp⟩
  have D__write_rows : Df P w K mg base "_write_rows" 6 ["book", "width", "rows"] (spWR (He.ga K "Book")) (He.ga K "_write_rows") d__write_rows := ⟨g__write_rows, ok_wr F__write_rows TB z_len z_enumerate g_MOST_ROWS g_MOST_WIDTH D_is_whole D_is_sequence D_row_fault M_write, b__write_rows, F__write_rows.kp⟩
  have MB : BookMk P w K mg base (He.ga K "Book") _ d_Book__init__ := ⟨(He.mkr_ok (c.fact_ 55 (f := .mkr "Book") rfl)), g_Book, ok_binit F_Book__init__ TB, b_Book__init__⟩
  have D_record_fault : Df P w K mg base "record_fault" 7 ["width", "rows"] spRF (He.ga K "record_fault") d_record_fault := ⟨g_record_fault, ok_rf F_record_fault MB D__write_rows, b_record_fault, F_record_fault.kp⟩
  have D_as_tuples : Df P w K mg base "as_tuples" 1 ["row"] spTuples (He.ga K "as_tuples") d_as_tuples := ⟨g_as_tuples, ok_tuples F_as_tuples z_tuple, b_as_tuples, F_as_tuples.kp⟩
  have XB : BadC P w K mg base (He.ga K "BadRecord") _ d_BadRecord__init__ := ⟨bf.ox, bf.ini, bf.ty, g_BadRecord, ok_bad F_BadRecord__init__ bf.ox (He.noat_ok (c.fact_ 82 (f := .noat "BadRecord" "index") rfl)) (He.noat_ok (c.fact_ 83 (f := .noat "BadRecord" "what") rfl)), b_BadRecord__init__⟩
  have RM : RecMk P w K mg base (He.ga K "Record") (He.ga K "BadRecord") (He.ga K "CustomError") _ d_Record__init__ := ⟨TR, (He.mkr_ok (c.fact_ 69 (f := .mkr "Record") rfl)), g_Record, ok_rec F_Record__init__ TR TB z_tuple MB D__write_rows D_as_tuples XB, b_Record__init__, g_BadRecord, g_CustomError, z_ValueError, z_isinstance, bf.xc r2, bf.xf, (He.noat_ok (c.fact_ 82 (f := .noat "BadRecord" "index") rfl)), (He.noat_ok (c.fact_ 83 (f := .noat "BadRecord" "what") rfl)), He.exm_ok (c.fact_ 84 (f := .exm "BadRecord" "CustomError" true) rfl), of_decide_eq_true r3, of_decide_eq_true r4⟩
  have ML := (He.meth_ok (c.fact_ 71 (f := .meth "Record" "__len__") rfl))
  have MI := (He.meth_ok (c.fact_ 72 (f := .meth "Record" "__iter__") rfl))
  have ME := (He.meth_ok (c.fact_ 70 (f := .meth "Record" "__eq__") rfl))
  have OC : OwnC P w K mg base (He.ga K "Record") _ _ d_Record__iter__ d_Record__len__ := ⟨MI.at_, MI.fn, ML.at_, ML.fn, ok_riter F_Record__iter__ TR z_iter, b_Record__iter__, ok_rlen F_Record__len__ TR z_len, b_Record__len__⟩
  have EQ : EqM P w K mg base (He.ga K "Record") _ d_Record__eq__ := ⟨ok_req F_Record__eq__ TR z_type, ME.at_, ME.fn, b_Record__eq__, r5⟩
  have D0_draw : Df P w K mg base "_law_draw" 2 ["_law_hand_here", "_law_many"] spDraw (He.ga K "_law_draw") d__law_draw := ⟨g__law_draw, ok_draw F__law_draw z_int z_len F__law_mix g__law_mix, b__law_draw, F__law_draw.kp⟩
  have D__law_draw := D0_draw.draw
  have D0_pick : Df P w K mg base "_law_pick" 3 ["_law_hand_here", "_law_things"] (spPick K) (He.ga K "_law_pick") d__law_pick := ⟨g__law_pick, ok_pick F__law_pick z_len D0_draw, b__law_pick, F__law_pick.kp⟩
  have D__law_pick := D0_pick.pick
  have D__law_hand : Df P w K mg base "_law_hand" 1 ["_law_script"] (spHand K) (He.ga K "_law_hand") d__law_hand := ⟨g__law_hand, ok_hand F__law_hand z_int z_abs z_enumerate, b__law_hand, F__law_hand.kp⟩
  have D__law_start : Df P w K mg base "_law_start" 1 [] spStart (He.ga K "_law_start") d__law_start := ⟨g__law_start, ok_start F__law_start, b__law_start, F__law_start.kp⟩
  have D__law_has_mate : Df P w K mg base "_law_has_mate" 1 ["_law_state", "_law_label"] spMate (He.ga K "_law_has_mate") d__law_has_mate := ⟨g__law_has_mate, ok_mate F__law_has_mate, b__law_has_mate, F__law_has_mate.kp⟩
  have D__law_word : Df P w K mg base "_law_word" 2 ["_law_state", "_law_width", "_law_row"] spWord (He.ga K "_law_word") d__law_word := ⟨g__law_word, ok_word F__law_word z_len D__law_has_mate, b__law_word, F__law_word.kp⟩
  have D__law_enter : Df P w K mg base "_law_enter" 1 ["_law_state", "_law_row"] spEnter (He.ga K "_law_enter") d__law_enter := ⟨g__law_enter, ok_enter F__law_enter, b__law_enter, F__law_enter.kp⟩
  have D__law_name : Df P w K mg base "_law_name" 3 ["_law_hand_here"] spNm (He.ga K "_law_name") d__law_name := ⟨g__law_name, ok_nm F__law_name D__law_draw, b__law_name, F__law_name.kp⟩
  have D__law_any_row : Df P w K mg base "_law_any_row" 4 ["_law_hand_here", "_law_labels_here", "_law_many"] spAny (He.ga K "_law_any_row") d__law_any_row := ⟨g__law_any_row, ok_any F__law_any_row z_range z_tuple D__law_draw D__law_pick D__law_name, b__law_any_row, F__law_any_row.kp⟩
  have D__law_fitting : Df P w K mg base "_law_fitting" 5 ["_law_hand_here", "_law_state", "_law_labels_here", "_law_width"] spFit (He.ga K "_law_fitting") d__law_fitting := ⟨g__law_fitting, ok_fit F__law_fitting z_range D__law_any_row D__law_word, b__law_fitting, F__law_fitting.kp⟩
  have D__law_wrong_item : Df P w K mg base "_law_wrong_item" 4 ["_law_hand_here", "_law_row", "_law_place"] spItem (He.ga K "_law_wrong_item") d__law_wrong_item := ⟨g__law_wrong_item, ok_item F__law_wrong_item D__law_pick, b__law_wrong_item, F__law_wrong_item.kp⟩
  have D__law_spoilt : Df P w K mg base "_law_spoilt" 5 ["_law_hand_here", "_law_row"] spSpoil (He.ga K "_law_spoilt") d__law_spoilt := ⟨g__law_spoilt, ok_spoil F__law_spoilt z_len D__law_draw D__law_pick D__law_wrong_item, b__law_spoilt, F__law_spoilt.kp⟩
  have D__law_labels : Df P w K mg base "_law_labels" 3 ["_law_hand_here"] spLabels (He.ga K "_law_labels") d__law_labels := ⟨g__law_labels, ok_labels F__law_labels z_range z_int D__law_draw, b__law_labels, F__law_labels.kp⟩
  have D__law_as_list : Df P w K mg base "_law_as_list" 3 ["_law_hand_here", "_law_row"] spAs (He.ga K "_law_as_list") d__law_as_list := ⟨g__law_as_list, ok_as F__law_as_list z_isinstance z_tuple z_list z_len D__law_draw, b__law_as_list, F__law_as_list.kp⟩
  have D__law_asked : Df P w K mg base "_law_asked" 9 ["_law_width", "_law_rows"] spAsked (He.ga K "_law_asked") d__law_asked := ⟨g__law_asked, ok_asked F__law_asked RM, b__law_asked, F__law_asked.kp⟩
  have D__law_plain : Df P w K mg base "_law_plain" 1 ["_law_row"] spPlain (He.ga K "_law_plain") d__law_plain := ⟨g__law_plain, ok_plain F__law_plain z_tuple, b__law_plain, F__law_plain.kp⟩
  exact ok_law F_law z_len z_list z_tuple z_isinstance z_range RM OC EQ D__law_asked D_record_fault D__law_plain D__law_hand D__law_draw D__law_labels D__law_start D__law_fitting D__law_spoilt D__law_any_row D__law_word D__law_enter D__law_as_list
end
end K01
open PySem PySem.W PySem.Calls PyProof.Rows
set_option maxRecDepth 100000 in
set_option maxHeartbeats 0 in
theorem PySem.Challenge.cw_namesakes_k01_whole_rows_judged_and_refu_holds : PySem.Challenge.rw_namesakes_k01_whole_rows_judged_and_refu.Holds := by
  w_on; o_law
  refine HandSHeadRun.head_any (r := OpenLaw.row PySem.Challenge.rw_namesakes_k01_whole_rows_judged_and_refu) (q := view (OpenLaw.row PySem.Challenge.rw_namesakes_k01_whole_rows_judged_and_refu).prog [43]) (H := K01.hookM) (ob := K01.ob) (M := 20000) (loose := K01.looseL)
    (d := HandSHeadRun.topDef (OpenLaw.row PySem.Challenge.rw_namesakes_k01_whole_rows_judged_and_refu).prog 43) (kwd := []) K01.ob_eq
    (by kernel_rfl) (fun s => by kernel_rfl) K01.run (by kernel_rfl) (by kernel_rfl) (by kernel_rfl) (by rfl) (by first | assumption | decide +kernel) (by decide +kernel) ⟨rfl, rfl, rfl, rfl, rfl, by decide +kernel⟩ ?hw ?hc
  case hw => w_witness2
  case hc =>
    refine L2.walk_ofE (l := PySem.Challenge.rw_namesakes_k01_whole_rows_judged_and_refu) (n := 63) (k := 10) (x := "_law_script") (CX := L2.CX0) rfl (by decide) (by kernel_rfl) ⟨rfl, by decide, by decide⟩ ?F (fun _ _ _ _ z => z)
    intro w mg fa h Y G hmg0
    obtain ⟨K, KX, c⟩ := Y
    have hmg : mg ("law" : PySem.Str) = some (.ref fa) := by
      have e : (HandSHeadRun.topDef (OpenLaw.row PySem.Challenge.rw_namesakes_k01_whole_rows_judged_and_refu).prog 43).name = ("law" : PySem.Str) := by kernel_rfl
      rw [← e]
      exact hmg0
    obtain ⟨fd, hb, hF⟩ := K01.facts (P := (PySem.Challenge.rw_namesakes_k01_whole_rows_judged_and_refu).prog) (w := w) KX G hmg c
    exact ⟨K, fd, K01.spLaw K, KX, hb, fun H a ns hl _ hS => ⟨a, ns, rfl, hS, hl, fun _ => rfl⟩, hF⟩
