import PyProof.Rows.All
import Wide.All
import OpenK.AllK
import Wide.FinOn
import KE.KStateDown
import KE.KExcIs
import HandS.ForMost
import HandS.Exc
import HandS.ExcOwn
import HandS.ExcInit
import HandS.ExcField
import HandS.ExcValue
import HandS.IsInst
import HandS.ExcIs
import HandS.Deep
import HandS.Wide
import HandS.Walk
import HandS.Flow
import HandS.Defaults
import HandS.Words
import HandS.WordsList
import HandS.WordsExc
import HandS.TryOnly
import HandS.Head0
import HandS.Head1
import HandS.Head2
import HandS.HeadEnd
import HandS.HeadHook1
import HandS.HeadHook2
import PySem.Challenge.RW_namesakes_k04_whole_beginnings_and_later
import HandS.HeadHook3
import HandS.Text
import HandS.More
import HandS.Iter
import HandS.Dict
import HandS.DictSub
import PyProof.EnumMake
import PyProof.Draws
import KE.GoesMore
import KE.KDictList
import PyProof.TupleOfGen
import HandS.Conv
import HandS.OwnIter
import HandS.IterNext
import HandS.OwnEq
import HandS.TupAny
import HandS.Star
import HandS.GenList
import PyProof.InstEq
set_option Elab.async false
set_option linter.all false
set_option maxRecDepth 100000
set_option maxHeartbeats 4000000
namespace K04
open PySem PySem.Spec PyProof.Rows L2
def top (i : Nat) : Stmt := PySem.Challenge.pw_namesakes_k04_whole_beginnings_and_later.main.body.getD i (.Pass ⟨0, 0, 0, 0⟩)
abbrev FnP (K : PySem.W.Frag) (x : Str) (st : Stmt) (f : Addr) (fd : FuncData) : Prop := FunD K x x (defArgs st) (defBody st) (defScope st) [] [] f fd
abbrev sPWall : Stmt := top 0
abbrev sPIsWhole : Stmt := top 10
abbrev sPIsName : Stmt := top 11
abbrev sPIsLabel : Stmt := top 12
abbrev sPIsKind : Stmt := top 13
abbrev sPIsSequence : Stmt := top 14
abbrev sPIsRow : Stmt := top 15
abbrev sPAreNames : Stmt := top 16
abbrev sPRowFault : Stmt := top 18
abbrev sPComingFault : Stmt := top 19
abbrev sPWeddingFault : Stmt := top 20
abbrev sPBirthFault : Stmt := top 21
abbrev sPWriteRows : Stmt := top 22
abbrev sPAsTuples : Stmt := top 23
abbrev sPBeginnings : Stmt := top 25
abbrev sMix : Stmt := top 27
abbrev sHand : Stmt := top 28
abbrev sDraw : Stmt := top 29
abbrev sPick : Stmt := top 30
abbrev sLabel : Stmt := top 31
abbrev sFreeRecord : Stmt := top 32
abbrev sUntil : Stmt := top 33
abbrev sAfter : Stmt := top 34
abbrev sShorter : Stmt := top 35
abbrev sLaw : Stmt := top 36
end K04

namespace K04
open PySem PySem.Spec PyProof.Rows L2
def oexB (K : PySem.W.Frag) (C : Addr) : Bool := match K.lookup C with
  | some ⟨.type t, _, .cls cd, sl⟩ => decide (t = "type") && (match cd.mro, sl.toList with
    | .ref C' :: bm, [_, _, _, _, some (.builtin n), _] => decide (C' = C) && (decide (n = "ValueError.__new__") && (cd.hasDict && (!cd.hasDel && PySem.HandSPX.refsVE bm)))
    | _, _ => false)
  | _ => false
/-- what isinstance and the reads of fields ask of a class -/
def excB (K : PySem.W.Frag) (D : Addr) : Bool :=
  decide (PySem.W.findIn K (.ref D) "__getattribute__" = some (some (.builtin "BaseException.__getattribute__"))) && (
  decide (PySem.W.findIn K (.ref D) "__getattr__" = some none) && (
  decide (PySem.W.subIn K (.ref D) (.type "BaseException") = some true) && (
  PySem.W.hasDictIn K D && (
  decide (PySem.W.findIn K (.ref D) "__class__" = some (some (.builtin "object.__class__"))) && (
  decide (PySem.W.mroIn K D (.type "object") = some true) && (
  decide (PySem.W.findIn K (.ref D) "__setattr__" = some (some (.builtin "object.__setattr__"))) && (
  decide (PySem.W.typeIn K (.ref D) = some (.type "type")) && (
  PySem.W.keepIn K (.ref D)))))))))
def dunB (K : PySem.W.Frag) : Bool :=
  decide (PySem.W.specialIn K (.builtin "object.__class__") "__get__" = some (some (.builtin "getset_descriptor.__get__"))) && decide (PySem.W.takesIn K (.builtin "object.__class__") = some true)
/-- an error with an own __init__ -/
def badB (K : PySem.W.Frag) (C : Addr) : Bool :=
  oexB K C && (excB K C && (
  decide (PySem.W.findIn K (.ref C) "__init__" = some (some (.ref (He.ma K C "__init__")))) &&
  decide (PySem.W.typeIn K (.ref (He.ma K C "__init__")) = some (.type "function"))))
/-- what else is asked of the record's class -/
def recB (K : PySem.W.Frag) (C : Addr) : Bool :=
  decide (PySem.W.findIn K (.ref C) "__ne__" = some (some (.builtin "object.__ne__"))) && (decide (PySem.W.mroIn K C (.type "object") = some true) && (
  decide (PySem.W.findIn K (.ref C) "__class__" = some (some (.builtin "object.__class__"))) && (decide (PySem.W.kitOne K (.ref C) (.ref C) = some true) && PySem.W.notFirst K C (.ref C))))
def restB (K : PySem.W.Frag) : Bool := badB K (He.ga K "BadRecord") && (badB K (He.ga K "NoRow") && (dunB K && (recB K (He.ga K "Record") && He.tupB K "KINDS" [.str "s", .str "d"])))
def fa : List He.Fa := [.free "int",
  .free "bool",
  .free "isinstance",
  .free "str",
  .free "len",
  .free "all",
  .free "list",
  .free "tuple",
  .free "enumerate",
  .free "range",
  .free "abs",
  .free "type",
  .glo "is_whole",
  .glo "is_name",
  .glo "is_label",
  .glo "is_kind",
  .glo "is_sequence",
  .glo "is_row",
  .glo "_are_names",
  .glo "row_fault",
  .glo "_coming_fault",
  .glo "_wedding_fault",
  .glo "_birth_fault",
  .glo "_write_rows",
  .glo "as_tuples",
  .glo "beginnings",
  .glo "_law_mix",
  .glo "_law_hand",
  .glo "_law_draw",
  .glo "_law_pick",
  .glo "_law_label",
  .glo "_law_free_record",
  .glo "_law_until",
  .glo "_law_after",
  .glo "_law_shorter",
  .glo "law",
  .glo "Book",
  .glo "Record",
  .glo "BadRecord",
  .glo "NoRow",
  .glo "CustomError",
  .glo "KINDS",
  .int "MOST_ROWS" 5000,
  .int "MOST_NAME" (10 ^ 30),
  .int "MOST_WIDTH" 2,
  .cls "Book",
  .mkr "Book",
  .meth "Book" "is_couple",
  .meth "Book" "write",
  .meth "Book" "bring",
  .meth "Book" "wed",
  .meth "Book" "bury",
  .noat "Book" "kinds",
  .noat "Book" "parents",
  .noat "Book" "row_numbers",
  .noat "Book" "dead",
  .noat "Book" "mate_now",
  .noat "Book" "all_mates",
  .noat "Book" "children",
  .cls "Record",
  .mkr "Record",
  .meth "Record" "__eq__",
  .meth "Record" "after",
  .meth "Record" "until",
  .meth "Record" "shorter",
  .noat "Record" "width",
  .noat "Record" "rows",
  .noat "Record" "persons",
  .noat "Record" "founders",
  .noat "Record" "born",
  .noat "Record" "weddings",
  .noat "Record" "couples",
  .noat "Record" "living",
  .noat "Record" "_book",
  .noat "BadRecord" "index",
  .noat "BadRecord" "what",
  .noat "NoRow" "number",
  .exm "BadRecord" "BadRecord" true,
  .exm "NoRow" "NoRow" true]
def dG (x : Str) (st : Stmt) : He.DefD := ⟨(x, none), x, x, defArgs st, defBody st, defScope st, [], []⟩
def fn : List He.DefD := [dG "is_whole" sPIsWhole,
  dG "is_name" sPIsName,
  dG "is_label" sPIsLabel,
  dG "is_kind" sPIsKind,
  dG "is_sequence" sPIsSequence,
  dG "is_row" sPIsRow,
  dG "_are_names" sPAreNames,
  dG "row_fault" sPRowFault,
  dG "_coming_fault" sPComingFault,
  dG "_wedding_fault" sPWeddingFault,
  dG "_birth_fault" sPBirthFault,
  dG "_write_rows" sPWriteRows,
  dG "as_tuples" sPAsTuples,
  dG "beginnings" sPBeginnings,
  dG "_law_mix" sMix,
  dG "_law_hand" sHand,
  dG "_law_draw" sDraw,
  dG "_law_pick" sPick,
  dG "_law_label" sLabel,
  dG "_law_free_record" sFreeRecord,
  dG "_law_until" sUntil,
  dG "_law_after" sAfter,
  dG "_law_shorter" sShorter,
  dG "law" sLaw,
  ⟨("BadRecord", some "__init__"), "__init__", "BadRecord.__init__", defArgs (inClass (top 3) 0), defBody (inClass (top 3) 0), defScope (inClass (top 3) 0), [], []⟩,
  ⟨("NoRow", some "__init__"), "__init__", "NoRow.__init__", defArgs (inClass (top 4) 0), defBody (inClass (top 4) 0), defScope (inClass (top 4) 0), [], []⟩,
  ⟨("Book", some "__init__"), "__init__", "Book.__init__", defArgs (inClass (top 17) 0), defBody (inClass (top 17) 0), defScope (inClass (top 17) 0), [], []⟩,
  ⟨("Book", some "is_couple"), "is_couple", "Book.is_couple", defArgs (inClass (top 17) 1), defBody (inClass (top 17) 1), defScope (inClass (top 17) 1), [], []⟩,
  ⟨("Book", some "write"), "write", "Book.write", defArgs (inClass (top 17) 2), defBody (inClass (top 17) 2), defScope (inClass (top 17) 2), [], []⟩,
  ⟨("Book", some "bring"), "bring", "Book.bring", defArgs (inClass (top 17) 3), defBody (inClass (top 17) 3), defScope (inClass (top 17) 3), [], []⟩,
  ⟨("Book", some "wed"), "wed", "Book.wed", defArgs (inClass (top 17) 4), defBody (inClass (top 17) 4), defScope (inClass (top 17) 4), [], []⟩,
  ⟨("Book", some "bury"), "bury", "Book.bury", defArgs (inClass (top 17) 5), defBody (inClass (top 17) 5), defScope (inClass (top 17) 5), [], []⟩,
  ⟨("Record", some "__init__"), "__init__", "Record.__init__", defArgs (inClass (top 24) 0), defBody (inClass (top 24) 0), defScope (inClass (top 24) 0), [.adr (He.dflAt ("Record", some "__init__") 0)], []⟩,
  ⟨("Record", some "after"), "after", "Record.after", defArgs (inClass (top 24) 13), defBody (inClass (top 24) 13), defScope (inClass (top 24) 13), [], []⟩,
  ⟨("Record", some "until"), "until", "Record.until", defArgs (inClass (top 24) 14), defBody (inClass (top 24) 14), defScope (inClass (top 24) 14), [], []⟩,
  ⟨("Record", some "shorter"), "shorter", "Record.shorter", defArgs (inClass (top 24) 15), defBody (inClass (top 24) 15), defScope (inClass (top 24) 15), [], []⟩,
  ⟨("Record", some "__eq__"), "__eq__", "Record.__eq__", defArgs (inClass (top 24) 16), defBody (inClass (top 24) 16), defScope (inClass (top 24) 16), [], []⟩]
/-! ### the Hook -/
abbrev AlM : Type := Bool × List He.FnW
def obsM (K : PySem.W.Frag) : AlM := ((fa.all fun f => f.ok K) && (restB K && fn.all fun d => d.ok K), fn.map fun d => He.fnW K d.at_)
def valM : AlM := (true, fn.map He.DefD.val)
def SaysM (K : PySem.W.Frag) : Prop := obsM K = valM
end K04

namespace K04
open PySem PySem.Spec PyProof.Rows L2
def refs1 (o : Obj) : List Addr := match o.data with
  | .dict es _ => es.toList.flatMap fun e => He.refV e.val
  | .func fd => He.refV fd.code ++ He.refV fd.defaults
  | .cls cd => [cd.ns]
  | _ => []
def nxt (g : Addr → Option Obj) (as : List Addr) : List Addr := as.flatMap fun a => match g a with
  | some o => refs1 o
  | none => []
def asM (g : Addr → Option Obj) : List Addr := mainGlobals :: (nxt g [mainGlobals] ++ (nxt g (nxt g [mainGlobals]) ++ (nxt g (nxt g (nxt g [mainGlobals])) ++ nxt g (nxt g (nxt g (nxt g [mainGlobals]))))))
def obsMG (g : Addr → Option Obj) : AlM := obsM (He.frG g (asM g))
def hookM : PySem.W.Hook where
  α := AlM
  obs := fun s => obsMG s.heap.get?
  val := fun _ => valM
  says := fun _ h => ∃ K : PySem.W.Frag, K.In h ∧ SaysM K
  of := fun _ _ e => ⟨_, He.frG_in, e⟩
  keeps := fun _ _ _ ⟨K, hK, c⟩ k => ⟨K, PySem.W.Frag.In.keeps hK k, c⟩
abbrev R : PySem.W.OpenRow := PySem.W.OpenLaw.row PySem.Challenge.rw_namesakes_k04_whole_beginnings_and_later
def ob (s : PySem.W.SharedT) : AlM := obsMG (HandSHeadRun.getT s)
theorem ob_eq (s : PySem.W.SharedT) : ob s = hookM.obs s.abs := by
  have e : HandSHeadRun.getT s = s.abs.heap.get? := funext (HandSHeadRun.getT_eq s)
  show obsMG (HandSHeadRun.getT s) = obsMG s.abs.heap.get?
  rw [e]
def looseL : List Str := [("_wall" : Str), ("CustomError" : Str), ("BadRecord" : Str), ("NoRow" : Str), ("MOST_ROWS" : Str), ("MOST_NAME" : Str), ("MOST_WIDTH" : Str), ("KINDS" : Str), ("Book" : Str), ("Record" : Str), ("is_whole" : Str), ("is_name" : Str), ("is_label" : Str), ("is_kind" : Str), ("is_sequence" : Str), ("is_row" : Str), ("_are_names" : Str), ("row_fault" : Str), ("_coming_fault" : Str), ("_wedding_fault" : Str), ("_birth_fault" : Str), ("_write_rows" : Str), ("as_tuples" : Str), ("beginnings" : Str), ("_law_mix" : Str), ("_law_hand" : Str), ("_law_draw" : Str), ("_law_pick" : Str), ("_law_label" : Str), ("_law_free_record" : Str), ("_law_until" : Str), ("_law_after" : Str), ("_law_shorter" : Str)]
theorem run (w : World) : HandSHeadRun.RunEq R (PySem.W.view R.prog [36]) hookM ob 20000 looseL w := by
  intro os
  kernel_rfl
end K04

namespace K04
open PySem PySem.Spec PyProof.Rows L2
/-! ### the hand from which a script is drawn -/
/-- what the hand's list holds: the cells' list, how many are taken, the rest of a great cell, the running number -/
abbrev handO (l : Addr) (i r t : Int) : HO := .lst [.ref l, .int i, .int r, .int t]
structure HandOk (cells : List Int) (i r t : Int) : Prop where
  len : cells.length ≤ 63
  pos : ∀ c ∈ cells, 0 ≤ c
  i0 : 0 ≤ i
  i1 : i ≤ 63
  r0 : 0 ≤ r
  t0 : 0 ≤ t
  t1 : t < 2147483629
def HandAt (H : Hp) (p l : Addr) (cells : List Int) (i r t : Int) : Prop := H p = some (handO l i r t) ∧ H l = some (.lst (cells.map V.int)) ∧ HandOk cells i r t
/-! ### promises -/
def spMix : Sp := fun vs H Q _ => ∃ n k : Int, vs = [.int n, .int k] ∧ 0 ≤ n ∧ n < 2147483647 ∧ 0 ≤ k ∧ k ≤ 64 ∧ ∀ d : Int, 0 ≤ d → Q (.int d) H
def spDraw : Sp := fun vs H Q _ => ∃ (p l : Addr) (cells : List Int) (i r t m : Int), vs = [.ref p, .int m] ∧ HandAt H p l cells i r t ∧ 0 < m ∧ m.natAbs < 2 ^ 8000 ∧
  ∀ d i' r' t' : Int, 0 ≤ d → d < m → HandOk cells i' r' t' → Q (.int d) (upd H p (handO l i' r' t'))
section
variable {P : Program} {w : World} {K : PySem.W.Frag} {mg : Str → Option Value} {base : Heap}
theorem scMix : FnScope ["_law_number", "_law_turn", "_law_once", "_law_twice"] ["_law_number", "_law_turn"] (defScope sMix) := ⟨rfl, rfl, rfl, by decide +kernel, rfl, by decide +kernel, by decide +kernel⟩
theorem pp31 : (2147483647 : Int) < 2 ^ 64 := by decide
theorem ok_mix {f : Addr} {fd : FuncData} (F : FnP K "_law_mix" sMix f fd) (zi : mg "int" = none) : FnOk P w K mg base CX0 1 f fd ["_law_number", "_law_turn"] spMix := by
  refine F.ok scMix (fun vs H Q E h => ?_) (fun cdv A outer s H vs Q E hr h => ?_)
  · obtain ⟨n, k, rfl, _⟩ := h
    rfl
  · obtain ⟨n, k, rfl, n0, n1, k0, k1, q⟩ := h
    refine ⟨_, PSs.nox (pss_cons (ps_set (i := 2) scMix.nd rfl (.inl rfl)
        (pe_op op_mod (pe_callTy call_int1 (by rfl) zi (by decide +kernel) (pa_cons
          (pe_op op_add (pe_op op_add (pe_op op_mul (pv 0) pe_int) (pe_op op_mul (pv 1) pe_int)) pe_int) pa_nil)) pe_int))
      (pss_cons (ps_set (i := 3) scMix.nd rfl (.inl rfl)
        (pe_op op_mod (pe_callTy call_int1 (by rfl) zi (by decide +kernel) (pa_cons
          (pe_op op_add (pe_op op_add (pe_op op_mul (pv 2) (pv 2)) (pe_op op_mul (pe_op op_fdiv (pv 2) pe_int) pe_int)) (pe_op op_mul (pv 1) pe_int)) pa_nil)) pe_int))
      (pss_one (ps_ret (pe_op op_fdiv (pe_op op_mod (pe_callTy call_int1 (by rfl) zi (by decide +kernel) (pa_cons
          (pe_op op_add (pe_op op_fdiv (pe_op op_mul (pv 3) (pv 3)) pe_int) (pv 2)) pa_nil)) pe_int) pe_int))))), ?_⟩
    refine ⟨_, rfl, _, _, rfl, rfl, .inl ⟨by omega, by omega⟩, _, rfl, _, _, rfl, rfl, .inl ⟨by omega, by omega⟩, _, _, rfl, rfl, _, _, rfl, rfl, .inl ⟨_, rfl, _, _, rfl, rfl, (by show (0 : Int) < 2147483647; decide), ?_⟩⟩
    refine ⟨_, rfl, _, rfl, _, _, rfl, rfl, .inl ⟨by omega, by omega⟩, _, rfl, _, _, rfl, rfl, ⟨by decide, by decide⟩, _, _, rfl, rfl, .inr ⟨by decide, by decide⟩, _, _, rfl, rfl, _, rfl, _, _, rfl, rfl, .inl ⟨by omega, by omega⟩, _, _, rfl, rfl, .inl ⟨_, rfl, _, _, rfl, rfl, (by show (0 : Int) < 2147483399; decide), ?_⟩⟩
    refine ⟨_, rfl, _, rfl, _, _, rfl, rfl, .inl ⟨by omega, by omega⟩, _, _, rfl, rfl, ⟨by decide, by decide⟩, _, rfl, _, _, rfl, rfl, .inl ⟨_, rfl, _, _, rfl, rfl, (by show (0 : Int) < 2147483563; decide), _, _, rfl, rfl, ⟨by decide, by decide⟩, ?_⟩⟩
    refine q _ ?_
    omega
theorem scDraw : FnScope ["_law_hand_here", "_law_many", "_law_cell", "_law_rest"] ["_law_hand_here", "_law_many"] (defScope sDraw) := ⟨rfl, rfl, rfl, by decide +kernel, rfl, by decide +kernel, by decide +kernel⟩
theorem ok_draw {f fM : Addr} {fd fdM : FuncData} (F : FnP K "_law_draw" sDraw f fd) (zi : mg "int" = none) (zl : mg "len" = none) (FM : FnP K "_law_mix" sMix fM fdM) (gM : mg "_law_mix" = some (.ref fM)) : FnOk P w K mg base CX0 2 f fd ["_law_hand_here", "_law_many"] spDraw := by
  have GM : FnOk P w K mg base CX0 1 fM fdM ["_law_number", "_law_turn"] spMix := ok_mix FM zi
  have bM : Binds K fdM ["_law_number", "_law_turn"] [] := FM.bindsN fun _ _ _ _ _ _ us hl => match us, hl with | [_, _], _ => rfl
  refine F.ok scDraw (fun vs H Q E h => ?_) (fun cdv A outer s H vs Q E hr h => ?_)
  · obtain ⟨p, l, cells, i, r, t, m, rfl, _⟩ := h
    rfl
  · obtain ⟨p, l, cells, i, r, t, m, rfl, ⟨hp, hl, ok⟩, m0, m1, q⟩ := h
    refine ⟨_, PSs.nox (pss_cons (ps_if (PW.pt (pw_and (pt_cmpR op_eq (pe_ix ix_list (pv 0) pe_int (fun _ _ => rfl)) pe_int (nomark _)) (pw_and1 (pt_cmpR op_lt (pe_ix ix_list (pv 0) pe_int (fun _ _ => rfl)) (pe_callB call_len_seq (by rfl) zl boot_len (pa_cons (pe_ix ix_list (pv 0) pe_int (fun _ _ => rfl)) pa_nil)) (nomark _)))))
          (pss_cons (ps_set (i := 2) scDraw.nd rfl (.inl rfl) (pe_ix ix_list (pe_ix ix_list (pv 0) pe_int (fun _ _ => rfl)) (pe_ix ix_list (pv 0) pe_int (fun _ _ => rfl)) (fun _ _ => rfl)))
          (pss_cons (ps_asg (pe_op op_add (pe_ix ix_list (pv 0) pe_int (fun _ _ => rfl)) pe_int) (pg_sub (pv 0) pe_int set_list))
          (pss_cons (ps_if (pt_cmpR op_lt (pv 2) (pe_op op_pow pe_int pe_int) (nomark _))
            (pss_one (ps_ret (pe_op op_mod (pe_callTy call_int1 (by rfl) zi (by decide +kernel) (pa_cons (pe_call GM hr (by rfl) gM FM.kp bM .nil pass0 (pa_cons (pe_op op_mod (pe_callTy call_int1 (by rfl) zi (by decide +kernel) (pa_cons (pv 2) pa_nil)) pe_int) (pa_cons (pe_ix ix_list (pv 0) pe_int (fun _ _ => rfl)) pa_nil))) pa_nil)) (pv 1)))) pss_nil)
          (pss_one (ps_asg (pv 2) (pg_sub (pv 0) pe_int set_list)))))) pss_nil)
      (pss_cons (ps_if (pt_cmpR op_gt (pe_ix ix_list (pv 0) pe_int (fun _ _ => rfl)) pe_int (nomark _))
          (pss_cons (ps_set (i := 3) scDraw.nd rfl (.inl rfl) (pe_ix ix_list (pv 0) pe_int (fun _ _ => rfl)))
          (pss_cons (ps_asg (pe_op op_fdivW (pv 3) (pv 1)) (pg_sub (pv 0) pe_int set_list))
          (pss_one (ps_ret (pe_op op_mod (pe_callTy call_int1 (by rfl) zi (by decide +kernel) (pa_cons (pv 3) pa_nil)) (pv 1)))))) pss_nil)
      (pss_cons (ps_asg (pe_op op_mod (pe_callTy call_int1 (by rfl) zi (by decide +kernel) (pa_cons (pe_op op_add (pe_ix ix_list (pv 0) pe_int (fun _ _ => rfl)) pe_int) pa_nil)) pe_int) (pg_sub (pv 0) pe_int set_list))
      (pss_one (ps_ret (pe_op op_mod (pe_callTy call_int1 (by rfl) zi (by decide +kernel) (pa_cons (pe_call GM hr (by rfl) gM FM.kp bM .nil pass0 (pa_cons (pe_ix ix_list (pv 0) pe_int (fun _ _ => rfl)) (pa_cons (pe_ix ix_list (pv 0) pe_int (fun _ _ => rfl)) pa_nil))) pa_nil)) (pv 1))))))), ?_⟩
    refine ⟨_, rfl, _, _, _, _, rfl, rfl, SqL.of hp, rfl, rfl, _, rfl, ?_⟩
    have mlog : m.natAbs.log2 < 9000 := Nat.lt_of_lt_of_le (PySem.Flt.log2_lt_of (by decide) m1) (by decide)
    have fin : ∀ (d i' r' t' : Int) (H2 : Hp), 0 ≤ d → d < m → HandOk cells i' r' t' → H2 = upd H p (handO l i' r' t') → Q (.int d) H2 := fun d i' r' t' H2 d0 d1 o e => by
      subst e
      exact q d i' r' t' d0 d1 o
    have npl : l ≠ p := fun z => by
      rw [z, hp] at hl
      have h2 := Option.some.inj hl
      injection h2 with h3
      have h4 := congrArg List.head? h3
      cases cells with
      | nil => cases h4
      | cons c cs => cases h4
    refine ite2 (fun e => ?_) (fun e => ?_)
    · refine ⟨_, rfl, _, _, _, _, rfl, rfl, SqL.of hp, rfl, _, rfl, _, _, _, _, rfl, rfl, SqL.of hp, rfl, _, _, rfl, .inl (SqL.of hl), _, _, rfl, rfl, _, rfl, ?_⟩
      refine ite2 (fun e1 => ?_) (fun e1 => ?_)
      · have HP0 := hp
        have hi0 : 0 ≤ i := ok.i0
        have hlen : ((cells.map V.int).length : Int) = (cells.length : Int) := by rw [List.length_map]
        have hlt : i < (cells.length : Int) := by
          have z : i < ((cells.map V.int).length : Int) := of_decide_eq_true e1
          omega
        have hnat : i.toNat < cells.length := by omega
        have hget : atI (cells.map V.int) i = some (.int cells[i.toNat]) := by
          have z := atI_nat (xs := cells.map V.int) (j := i.toNat) (v := .int cells[i.toNat]) (by rw [List.getElem?_map, List.getElem?_eq_getElem hnat]; rfl)
          rw [Int.toNat_of_nonneg hi0] at z
          exact z
        have c0 : 0 ≤ cells[i.toNat] := ok.pos _ (List.getElem_mem hnat)
        have hl63 := ok.len
        refine ⟨_, rfl, _, _, _, _, rfl, rfl, SqL.of hp, rfl, _, rfl, _, _, _, _, rfl, rfl, SqL.of hp, rfl, _, _, _, _, rfl, rfl, SqL.of hl, hget, ?_⟩
        generalize cells[i.toNat] = c at c0
        refine ⟨_, rfl, _, _, _, _, rfl, rfl, SqL.of hp, rfl, _, _, rfl, rfl, _, rfl, _, _, _, _, rfl, rfl, hp, rfl, ?_⟩
        have ok2 : HandOk cells (i + 1) c t := ⟨ok.len, ok.pos, by omega, by omega, c0, ok.t0, ok.t1⟩
        refine ⟨_, rfl, _, _, rfl, rfl, ⟨by decide, by decide, by decide⟩, _, _, rfl, rfl, _, rfl, ?_⟩
        refine ite2 (fun e2 => ?_) (fun e2 => ?_)
        · refine ⟨_, rfl, .inl ⟨_, rfl, _, _, rfl, rfl, (by show (0 : Int) < 2147483647; decide), _, rfl, _, _, _, _, rfl, rfl, SqL.of upd_same, rfl, _, _, rfl, Int.emod_nonneg _ (by decide), Int.emod_lt_of_pos _ (by decide), by omega, by omega, fun d d0 => ?_⟩⟩
          refine .inl ⟨_, rfl, _, rfl, _, _, rfl, rfl, m0, ?_⟩
          exact fin _ _ _ _ _ (Int.emod_nonneg _ (Int.ne_of_gt m0)) (Int.emod_lt_of_pos _ m0) ⟨ok.len, ok.pos, ok2.i0, ok2.i1, ok.r0, ok.t0, ok.t1⟩ (by simp only [upd_upd]; rfl)
        · refine ⟨_, rfl, _, rfl, _, _, _, _, rfl, rfl, upd_same, rfl, ?_⟩
          have HP : (upd (upd H p (.lst ([V.ref l, .int i, .int r, .int t].set 1 (.int (i + 1))))) p (.lst (([V.ref l, .int i, .int r, .int t].set 1 (.int (i + 1))).set 2 (.int c)))) p = some (handO l (i + 1) c t) := upd_same
          refine ⟨_, rfl, _, _, _, _, rfl, rfl, SqL.of HP, rfl, _, _, rfl, rfl, _, rfl, ?_⟩
          refine ite2 (fun e3 => ?_) (fun e3 => ?_)
          · refine ⟨_, rfl, _, _, _, _, rfl, rfl, SqL.of HP, rfl, ?_⟩
            refine ⟨_, rfl, _, rfl, _, _, rfl, rfl, ⟨m0, mlog⟩, _, rfl, _, _, _, _, rfl, rfl, HP, rfl, ?_⟩
            refine ⟨_, rfl, .inl ⟨_, rfl, _, rfl, _, _, rfl, rfl, m0, ?_⟩⟩
            exact fin _ _ _ _ _ (Int.emod_nonneg _ (Int.ne_of_gt m0)) (Int.emod_lt_of_pos _ m0) ⟨ok2.len, ok2.pos, ok2.i0, ok2.i1, Int.ediv_nonneg ok2.r0 (Int.le_of_lt m0), ok2.t0, ok2.t1⟩ (by simp only [upd_upd]; rfl)
          · refine ⟨_, rfl, _, _, _, _, rfl, rfl, SqL.of HP, rfl, _, _, rfl, rfl, .inl ⟨_, rfl, _, _, rfl, rfl, (by show (0 : Int) < 2147483629; decide), _, rfl, _, _, _, _, rfl, rfl, HP, rfl, ?_⟩⟩
            have u0 := ok2.i0
            have u1 := ok2.i1
            refine ⟨_, rfl, _, _, _, _, rfl, rfl, SqL.of upd_same, rfl, _, rfl, _, _, _, _, rfl, rfl, SqL.of upd_same, rfl, _, _, rfl, by omega, by omega, by omega, by omega, fun d d0 => ?_⟩
            refine .inl ⟨_, rfl, _, rfl, _, _, rfl, rfl, m0, ?_⟩
            exact fin _ _ _ _ _ (Int.emod_nonneg _ (Int.ne_of_gt m0)) (Int.emod_lt_of_pos _ m0) ⟨ok2.len, ok2.pos, ok2.i0, ok2.i1, ok2.r0, Int.emod_nonneg (t + 1) (show (2147483629 : Int) ≠ 0 by decide), Int.emod_lt_of_pos (t + 1) (show (0 : Int) < 2147483629 by decide)⟩ (by simp only [upd_upd]; rfl)
      · have HP := hp
        refine ⟨_, rfl, _, _, _, _, rfl, rfl, SqL.of HP, rfl, _, _, rfl, rfl, _, rfl, ?_⟩
        refine ite2 (fun e2 => ?_) (fun e2 => ?_)
        · refine ⟨_, rfl, _, _, _, _, rfl, rfl, SqL.of HP, rfl, ?_⟩
          refine ⟨_, rfl, _, rfl, _, _, rfl, rfl, ⟨m0, mlog⟩, _, rfl, _, _, _, _, rfl, rfl, HP, rfl, ?_⟩
          refine ⟨_, rfl, .inl ⟨_, rfl, _, rfl, _, _, rfl, rfl, m0, ?_⟩⟩
          exact fin _ _ _ _ _ (Int.emod_nonneg _ (Int.ne_of_gt m0)) (Int.emod_lt_of_pos _ m0) ⟨ok.len, ok.pos, ok.i0, ok.i1, Int.ediv_nonneg ok.r0 (Int.le_of_lt m0), ok.t0, ok.t1⟩ (by simp only [upd_upd]; rfl)
        · refine ⟨_, rfl, _, _, _, _, rfl, rfl, SqL.of HP, rfl, _, _, rfl, rfl, .inl ⟨_, rfl, _, _, rfl, rfl, (by show (0 : Int) < 2147483629; decide), _, rfl, _, _, _, _, rfl, rfl, HP, rfl, ?_⟩⟩
          have u0 := ok.i0
          have u1 := ok.i1
          refine ⟨_, rfl, _, _, _, _, rfl, rfl, SqL.of upd_same, rfl, _, rfl, _, _, _, _, rfl, rfl, SqL.of upd_same, rfl, _, _, rfl, by omega, by omega, by omega, by omega, fun d d0 => ?_⟩
          refine .inl ⟨_, rfl, _, rfl, _, _, rfl, rfl, m0, ?_⟩
          exact fin _ _ _ _ _ (Int.emod_nonneg _ (Int.ne_of_gt m0)) (Int.emod_lt_of_pos _ m0) ⟨ok.len, ok.pos, ok.i0, ok.i1, ok.r0, Int.emod_nonneg (t + 1) (show (2147483629 : Int) ≠ 0 by decide), Int.emod_lt_of_pos (t + 1) (show (0 : Int) < 2147483629 by decide)⟩ (by simp only [upd_upd]; rfl)
    · have HP := hp
      refine ⟨_, rfl, _, _, _, _, rfl, rfl, SqL.of HP, rfl, _, _, rfl, rfl, _, rfl, ?_⟩
      refine ite2 (fun e2 => ?_) (fun e2 => ?_)
      · refine ⟨_, rfl, _, _, _, _, rfl, rfl, SqL.of HP, rfl, ?_⟩
        refine ⟨_, rfl, _, rfl, _, _, rfl, rfl, ⟨m0, mlog⟩, _, rfl, _, _, _, _, rfl, rfl, HP, rfl, ?_⟩
        refine ⟨_, rfl, .inl ⟨_, rfl, _, rfl, _, _, rfl, rfl, m0, ?_⟩⟩
        exact fin _ _ _ _ _ (Int.emod_nonneg _ (Int.ne_of_gt m0)) (Int.emod_lt_of_pos _ m0) ⟨ok.len, ok.pos, ok.i0, ok.i1, Int.ediv_nonneg ok.r0 (Int.le_of_lt m0), ok.t0, ok.t1⟩ (by simp only [upd_upd]; rfl)
      · refine ⟨_, rfl, _, _, _, _, rfl, rfl, SqL.of HP, rfl, _, _, rfl, rfl, .inl ⟨_, rfl, _, _, rfl, rfl, (by show (0 : Int) < 2147483629; decide), _, rfl, _, _, _, _, rfl, rfl, HP, rfl, ?_⟩⟩
        have u0 := ok.i0
        have u1 := ok.i1
        refine ⟨_, rfl, _, _, _, _, rfl, rfl, SqL.of upd_same, rfl, _, rfl, _, _, _, _, rfl, rfl, SqL.of upd_same, rfl, _, _, rfl, by omega, by omega, by omega, by omega, fun d d0 => ?_⟩
        refine .inl ⟨_, rfl, _, rfl, _, _, rfl, rfl, m0, ?_⟩
        exact fin _ _ _ _ _ (Int.emod_nonneg _ (Int.ne_of_gt m0)) (Int.emod_lt_of_pos _ m0) ⟨ok.len, ok.pos, ok.i0, ok.i1, ok.r0, Int.emod_nonneg (t + 1) (show (2147483629 : Int) ≠ 0 by decide), Int.emod_lt_of_pos (t + 1) (show (0 : Int) < 2147483629 by decide)⟩ (by simp only [upd_upd]; rfl)
/-! ### the hand is made -/
def absI (c : Int) : Int := if c < 0 then -c else c
theorem absI_nonneg (c : Int) : 0 ≤ absI c := by
  unfold absI
  split <;> omega
theorem same_upd {H : Hp} {p : Addr} {o : HO} (h : H p = none) : Same H (upd H p o) := fun b x e => by
  rw [upd_ne (ne_of_none e h)]
  exact e
def spHand (K : PySem.W.Frag) : Sp := fun vs H Q _ => ∃ (a : Addr) (ns : List Int), vs = [.ref a] ∧ SqL K H a (ns.map V.int) ∧ ns.length ≤ 63 ∧
  ∀ (H' : Hp) (p l : Addr) (t : Int), Same H H' → H p = none → HandAt H' p l (ns.map absI) 0 0 t → Q (.ref p) H'
theorem scHand : FnScope ["_law_script", "_law_total", "_law_k", "_law_cell"] ["_law_script"] (defScope sHand) := ⟨rfl, rfl, rfl, by decide +kernel, rfl, by decide +kernel, by decide +kernel⟩
theorem ok_hand {f : Addr} {fd : FuncData} (F : FnP K "_law_hand" sHand f fd) (zi : mg "int" = none) (za : mg "abs" = none) (ze : mg "enumerate" = none) : FnOk P w K mg base CX0 1 f fd ["_law_script"] (spHand K) := by
  refine F.ok scHand (fun vs H Q E h => ?_) (fun cdv A outer s H vs Q E hr h => ?_)
  · obtain ⟨a, ns, rfl, _⟩ := h
    rfl
  · obtain ⟨a, ns, rfl, hS, hlen, q⟩ := h
    refine ⟨_, PSs.nox (pss_cons (ps_set (i := 1) scHand.nd rfl (.inl rfl) pe_int)
      (pss_cons (ps_for PassesOwn.never rfl (pi_enum (by rfl) ze (pa_cons (pv 0) pa_nil))
          (pg_tup (by rfl) (pgs_cons (pg_name (i := 2) scHand.nd rfl (.inl rfl)) (pgs_cons (pg_name (i := 3) scHand.nd rfl (.inl rfl)) pgs_nil)))
        (pss_one (ps_set (i := 1) scHand.nd rfl (.inl rfl) (pe_op op_mod (pe_callTy call_int1 (by rfl) zi (by decide +kernel) (pa_cons
          (pe_op op_add (pe_op op_mul (pv 1) pe_int) (pe_op op_mul (pe_callTy call_int1 (by rfl) zi (by decide +kernel) (pa_cons (pv 3) pa_nil)) (pe_op op_add (pv 2) pe_int))) pa_nil)) pe_int))))
      (pss_one (ps_ret (pe_lst (pa_cons
        (pe_lc (own := [("_law_cell", 3)]) (g := gName 3) (tt := tYes) rfl scHand.nd (pi_list (pv 0)) (blkOk_by (N := ["_law_script", "_law_total", "_law_k", "_law_cell"]) (sc := defScope sHand) (by decide +kernel)) (fun _ _ _ _ _ => pg_name (i := 3) scHand.nd rfl (Or.inl rfl)) (fun _ _ _ _ _ => pts_nil)
          (fun _ _ _ _ _ => pe_callB call_abs (by rfl) za (by decide +kernel) (pa_cons (pe_callTy call_int1 (by rfl) zi (by decide +kernel) (pa_cons (pv 3) pa_nil)) pa_nil)))
        (pa_cons pe_int (pa_cons pe_int (pa_cons (pv 1) pa_nil))))))))), ?_⟩
    refine ⟨_, rfl, a, _, rfl, hS, for_it walk_enum (fun _ σ H' => ∃ (t : Int) (x y : Option V), σ = [some (.ref a), some (.int t), x, y] ∧ 0 ≤ t ∧ t < 2147483629 ∧ Same H H') ⟨0, none, none, rfl, by decide, by decide, fun _ _ e => e⟩
      (fun i σ H' _ ⟨_, _, _, _, _, _, sm⟩ => sm.seq hS) ?_ ?_⟩
    · rintro i x σ H1 H2 hi ⟨t, x1, x2, rfl, t0, t1, sm⟩ ⟨T, u, v, rfl, nT, rfl, eu, ev⟩
      have hi' : i < ns.length := by
        rw [List.length_map] at hi
        exact hi
      obtain rfl : u = .int (i : Int) := (Option.some.inj eu).symm
      obtain rfl : v = .int ns[i] := by
        have e2 : (ns.map V.int)[i]? = some (.int ns[i]) := by rw [List.getElem?_map, List.getElem?_eq_getElem hi']; rfl
        exact Option.some.inj (ev.symm.trans e2)
      refine ⟨T, _, rfl, .inl (.inl upd_same), rfl, _, _, rfl, _, _, rfl, rfl, ?_⟩
      refine ⟨_, rfl, _, _, rfl, rfl, .inl ⟨by omega, by omega⟩, _, rfl, .inl ⟨_, rfl, _, rfl, _, _, rfl, rfl, _, _, rfl, rfl, .inr ⟨by omega, by omega⟩, _, _, rfl, rfl, .inl ⟨_, rfl, _, _, rfl, rfl, (by show (0 : Int) < 2147483629; decide), ?_⟩⟩⟩
      exact ⟨_, _, _, rfl, Int.emod_nonneg _ (by decide), Int.emod_lt_of_pos _ (by decide), fun b o e => same_upd nT _ _ (sm _ _ e)⟩
    · rintro σ H1 ⟨t, x1, x2, rfl, t0, t1, sm⟩
      refine ⟨_, rfl, a, rfl, ⟨_, sm.seq hS⟩, fun D nD => lc_it walk_list (fun i H' => Same H1 H' ∧ H' D = some (.lst (((ns.map absI).take i).map V.int))) ⟨same_upd nD, upd_same⟩
        (fun i H' _ ⟨s2, _⟩ => s2.seq (sm.seq hS)) ?_ ?_⟩
      · rintro i x H2 H3 hi ⟨s2, eD⟩ ⟨rfl, ex⟩
        have hi' : i < ns.length := by
          rw [List.length_map] at hi
          exact hi
        obtain rfl : x = .int ns[i] := by
          have e2 : (ns.map V.int)[i]? = some (.int ns[i]) := by rw [List.getElem?_map, List.getElem?_eq_getElem hi']; rfl
          exact Option.some.inj (ex.symm.trans e2)
        refine ⟨rfl, ?_⟩
        refine ⟨_, rfl, .inl ⟨_, rfl, _, rfl, _, eD, ?_, ?_⟩⟩
        · rw [List.length_map, List.length_take]
          exact Nat.lt_of_le_of_lt (Nat.min_le_left _ _) (Nat.lt_of_lt_of_le (Nat.lt_of_lt_of_le hi' hlen) (by decide))
        · refine ⟨fun b o e => ?_, ?_⟩
          · have nb : b ≠ D := ne_of_none e nD
            rw [upd_ne nb]
            exact s2 _ _ e
          · rw [upd_same, List.take_add_one, List.getElem?_map, List.getElem?_eq_getElem hi', List.map_append]
            rfl
      · rintro H2 ⟨s2, eD⟩
        have eall : ((ns.map absI).take (ns.map V.int).length) = ns.map absI := List.take_of_length_le (by rw [List.length_map, List.length_map]; exact Nat.le_refl _)
        rw [eall] at eD
        refine ⟨_, rfl, (by show 4 ≤ sizeLine; decide), fun p np => ?_⟩
        have npD : D ≠ p := ne_of_none eD np
        refine q _ p D t (fun b o e => same_upd np _ _ (s2 _ _ (sm _ _ e))) ?_ ⟨upd_same, ?_, ?_⟩
        · cases e : H p with
          | none => rfl
          | some o =>
            have e2 := s2 _ _ (sm _ _ e)
            rw [np] at e2
            cases e2
        · rw [upd_ne npD]
          exact eD
        · exact ⟨by rw [List.length_map]; exact hlen, fun c hc => by
            obtain ⟨y, _, rfl⟩ := List.mem_map.mp hc
            exact absI_nonneg y, by decide, by decide, by decide, t0, t1⟩
end
end K04

/-! the questions: is it a whole number, a name, a label, a kind, a way; the law's own -/
namespace K04
open PySem PySem.Spec PyProof.Rows L2
/-- any thing that the law draws: its type's name -/
inductive Odd (H : Hp) : V → String → Prop where
  | int (i : Int) : Odd H (.int i) "int"
  | bl (b : Bool) : Odd H (.bl b) "bool"
  | non : Odd H .non "NoneType"
  | str (x : Str) (hx : x.length ≤ 1000) (hs : (PyData.str x).canLay0 = true) : Odd H (.str x) "str"
  | tup {a : Addr} {xs : List V} (h : H a = some (.tup xs)) : Odd H (.ref a) "tuple"
  | lst {a : Addr} {xs : List V} (h : H a = some (.lst xs)) : Odd H (.ref a) "list"
  | dic {a : Addr} {kvs : List (Key × V)} (h : H a = some (.dK kvs)) : Odd H (.ref a) "dict"
theorem Odd.ty {K : PySem.W.Frag} {H : Hp} {v : V} {t : String} (o : Odd H v t) : TyX K H v (.type t) := by
  cases o with
  | int i => exact .base (.int i)
  | bl b => exact .base (.bl b)
  | non => exact .base .non
  | str x _ _ => exact .base (.str x)
  | tup h => exact .base (.tup h)
  | lst h => exact .base (.lst h)
  | dic h => exact .base (.dK h)
def wholeV (v : V) (lo hi : Int) : Bool := match v with
  | .int i => decide (lo ≤ i) && decide (i ≤ hi)
  | _ => false
def spWhole : Sp := fun vs H Q _ => ∃ (v : V) (t : String) (lo hi : Int), vs = [v, .int lo, .int hi] ∧ Odd H v t ∧ Q (.bl (wholeV v lo hi)) H
section
variable {P : Program} {w : World} {K : PySem.W.Frag} {mg : Str → Option Value} {base : Heap}
theorem scWhole : FnScope ["thing", "low", "high"] ["thing", "low", "high"] (defScope sPIsWhole) := ⟨rfl, rfl, rfl, by decide +kernel, rfl, by decide +kernel, by decide +kernel⟩
theorem ok_whole {f : Addr} {fd : FuncData} (F : FnP K "is_whole" sPIsWhole f fd) (zi : mg "int" = none) (zb : mg "bool" = none) (zs : mg "isinstance" = none) : FnOk P w K mg base CX0 1 f fd ["thing", "low", "high"] spWhole := by
  refine F.ok scWhole (fun vs H Q E h => ?_) (fun cdv A outer s H vs Q E hr h => ?_)
  · obtain ⟨v, t, lo, hi, rfl, _⟩ := h
    rfl
  · obtain ⟨v, t, lo, hi, rfl, o, q⟩ := h
    refine ⟨_, PSs.nox (pss_one (ps_ret (pe_and (pe_callB call_isi (by rfl) zs (by decide +kernel) (pa_cons (pv 0) (pa_cons (pe_bltn (by rfl) zi (by decide +kernel) (v := .ty "int") rfl) pa_nil)))
      (pe_and (pe_not (pe_callB call_isi (by rfl) zs (by decide +kernel) (pa_cons (pv 0) (pa_cons (pe_bltn (by rfl) zb (by decide +kernel) (v := .ty "bool") rfl) pa_nil)))) (pe_one (pe_chain op_le op_le (pv 1) (pv 0) (pv 2))))))), ?_⟩
    have ty := o.ty (K := K)
    cases o with
    | int i =>
      refine ⟨_, rfl, _, _, _, _, true, rfl, .ty _, ty, kit_ty (by decide +kernel), _, rfl, iteT ⟨_, rfl, _, _, _, _, false, rfl, .ty _, ty, kit_ty (by decide +kernel), _, rfl, _, rfl, iteT ⟨_, rfl, _, rfl, _, _, rfl, rfl, _, rfl, ?_⟩⟩⟩
      have e : wholeV (.int i) lo hi = (decide (lo ≤ i) && decide (i ≤ hi)) := rfl
      rw [e] at q
      refine ite2 (fun h => ?_) (fun h => ?_)
      · rw [h, Bool.true_and] at q
        exact ⟨_, rfl, _, _, rfl, rfl, q⟩
      · rw [Bool.eq_false_iff.mpr h, Bool.false_and] at q
        exact q
    | bl b => exact ⟨_, rfl, _, _, _, _, true, rfl, .ty _, ty, kit_ty (by decide +kernel), _, rfl, iteT ⟨_, rfl, _, _, _, _, true, rfl, .ty _, ty, kit_ty (by decide +kernel), _, rfl, _, rfl, iteF q⟩⟩
    | _ => exact ⟨_, rfl, _, _, _, _, false, rfl, .ty _, ty, kit_ty (by decide +kernel), _, rfl, iteF q⟩
/-! ### names, kinds, sequences -/
def spName : Sp := fun vs H Q _ => ∃ (v : V) (t : String), vs = [v] ∧ Odd H v t ∧ Q (.bl (wholeV v 0 (10 ^ 30))) H
theorem scName : FnScope ["thing"] ["thing"] (defScope sPIsName) := ⟨rfl, rfl, rfl, by decide +kernel, rfl, by decide +kernel, by decide +kernel⟩
theorem ok_name {f fW : Addr} {fd fdW : FuncData} (F : FnP K "is_name" sPIsName f fd) (GW : FnOk P w K mg base CX0 1 fW fdW ["thing", "low", "high"] spWhole) (bW : Binds K fdW ["thing", "low", "high"] []) (kW : PySem.W.keepIn K (.ref fW) = true) (gW : mg "is_whole" = some (.ref fW))
    (gN : ∃ t, mg "MOST_NAME" = some (.int (10 ^ 30) t)) : FnOk P w K mg base CX0 2 f fd ["thing"] spName := by
  obtain ⟨tk, gN⟩ := gN
  refine F.ok scName (fun vs H Q E h => ?_) (fun cdv A outer s H vs Q E hr h => ?_)
  · obtain ⟨v, t, rfl, _⟩ := h
    rfl
  · obtain ⟨v, t, rfl, o, q⟩ := h
    refine ⟨_, PSs.nox (pss_one (ps_ret (pe_call GW hr (by rfl) gW kW bW .nil pass0 (pa_cons (pv 0) (pa_cons pe_int (pa_cons (pe_glob (by rfl) gN (v := .int (10 ^ 30)) ⟨_, rfl⟩) pa_nil)))))), ?_⟩
    exact ⟨_, rfl, v, t, 0, _, rfl, o, q⟩
def kindV (v : V) : Bool := match v with
  | .str x => inV (.str x) [.str "s", .str "d"]
  | _ => false
def spKind : Sp := fun vs H Q _ => ∃ (v : V) (t : String), vs = [v] ∧ Odd H v t ∧ Q (.bl (kindV v)) H
theorem scKind : FnScope ["thing"] ["thing"] (defScope sPIsKind) := ⟨rfl, rfl, rfl, by decide +kernel, rfl, by decide +kernel, by decide +kernel⟩
theorem ok_kind {f a : Addr} {fd : FuncData} (F : FnP K "is_kind" sPIsKind f fd) (zt : mg "str" = none) (zs : mg "isinstance" = none) (gK : mg "KINDS" = some (.ref a)) (hK : ∀ H, SqT K H a [.str "s", .str "d"]) : FnOk P w K mg base CX0 1 f fd ["thing"] spKind := by
  refine F.ok scKind (fun vs H Q E h => ?_) (fun cdv A outer s H vs Q E hr h => ?_)
  · obtain ⟨v, t, rfl, _⟩ := h
    rfl
  · obtain ⟨v, t, rfl, o, q⟩ := h
    refine ⟨_, PSs.nox (pss_one (ps_ret (pe_and (pe_callB call_isi (by rfl) zs (by decide +kernel) (pa_cons (pv 0) (pa_cons (pe_bltn (by rfl) zt (by decide +kernel) (v := .ty "str") rfl) pa_nil)))
      (pe_one (pe_cmpR op_in_seq (pv 0) (pe_glob (by rfl) gK (v := .ref a) rfl) (by rfl)))))), ?_⟩
    have ty := o.ty (K := K)
    cases o with
    | str x hx hs => exact ⟨_, rfl, _, _, _, _, true, rfl, .ty _, ty, kit_ty (by decide +kernel), _, rfl, iteT ⟨_, rfl, _, _, rfl, .inr (hK H), rfl, rfl, q⟩⟩
    | _ => exact ⟨_, rfl, _, _, _, _, false, rfl, .ty _, ty, kit_ty (by decide +kernel), _, rfl, iteF q⟩
def seqT (t : String) : Bool := t == "list" || t == "tuple"
def spSeq : Sp := fun vs H Q _ => ∃ (v : V) (t : String), vs = [v] ∧ Odd H v t ∧ ∀ p, H p = none → Q (.bl (seqT t)) (upd H p (.tup [.ty "list", .ty "tuple"]))
theorem kit_seq {K : PySem.W.Frag} {t : String} {b1 b2 r : Bool} (h1 : kitB t "list" = some b1) (h2 : kitB t "tuple" = some b2) (e : (b1 || b2) = r) : PySem.W.kitAny K (.type t) [.type "list", .type "tuple"] = some r := by
  subst e
  refine kitAny_cons (kit_ty h1) (fun e1 => ?_) (fun e1 => by rw [e1]; rfl)
  subst e1
  refine kitAny_cons (kit_ty h2) (fun e2 => ?_) (fun e2 => by rw [e2]; rfl)
  subst e2
  exact kitAny_nil
theorem scSeq : FnScope ["thing"] ["thing"] (defScope sPIsSequence) := ⟨rfl, rfl, rfl, by decide +kernel, rfl, by decide +kernel, by decide +kernel⟩
theorem Odd.same {H H' : Hp} {v : V} {t : String} (o : Odd H v t) (s : Same H H') : Odd H' v t := by
  cases o with
  | int i => exact .int i
  | bl b => exact .bl b
  | non => exact .non
  | str x hx hs => exact .str x hx hs
  | tup h => exact .tup (s _ _ h)
  | lst h => exact .lst (s _ _ h)
  | dic h => exact .dic (s _ _ h)
theorem ok_seq {f : Addr} {fd : FuncData} (F : FnP K "is_sequence" sPIsSequence f fd) (zl : mg "list" = none) (zt : mg "tuple" = none) (zs : mg "isinstance" = none) : FnOk P w K mg base CX0 1 f fd ["thing"] spSeq := by
  refine F.ok scSeq (fun vs H Q E h => ?_) (fun cdv A outer s H vs Q E hr h => ?_)
  · obtain ⟨v, t, rfl, _⟩ := h
    rfl
  · obtain ⟨v, t, rfl, o, q⟩ := h
    refine ⟨_, PSs.nox (pss_one (ps_ret (pe_callB call_isiT (by rfl) zs (by decide +kernel) (pa_cons (pv 0) (pa_cons (pe_tup (pa_cons (pe_bltn (by rfl) zl (by decide +kernel) (v := .ty "list") rfl) (pa_cons (pe_bltn (by rfl) zt (by decide +kernel) (v := .ty "tuple") rfl) pa_nil))) pa_nil))))), ?_⟩
    refine ⟨_, rfl, (by show 2 ≤ sizeLine; decide), fun p np => ⟨_, p, _, _, [.type "list", .type "tuple"], seqT t, rfl, upd_same, .cons (.ty _) (.cons (.ty _) .nil), (o.same (same_upd np)).ty, ?_, q p np⟩⟩
    cases o with
    | tup _ => exact kit_seq (b1 := false) (b2 := true) (by decide +kernel) (by decide +kernel) (by decide +kernel)
    | lst _ => exact kit_seq (b1 := true) (b2 := false) (by decide +kernel) (by decide +kernel) (by decide +kernel)
    | _ => exact kit_seq (b1 := false) (b2 := false) (by decide +kernel) (by decide +kernel) (by decide +kernel)
/-! ### labels and ways -/
/-- "a" <= letter <= "z" -/
def lowC (c : Nat) : Bool := !decide ([c] < [97]) && !decide ([122] < [c])
def labelV (v : V) : Bool := match v with
  | .str x => (decide ((1 : Int) ≤ x.length) && decide ((x.length : Int) ≤ 6)) && x.cps.toList.all lowC
  | _ => false
def spLabel : Sp := fun vs H Q _ => ∃ (v : V) (t : String), vs = [v] ∧ Odd H v t ∧ ∀ H', Same H H' → Q (.bl (labelV v)) H'
theorem not_t {b : Bool} (h : (!b) = true) : b = false := by
  cases b with
  | false => rfl
  | true => cases h
theorem not_f {b : Bool} (h : ¬ (!b) = true) : b = true := by
  cases b with
  | true => rfl
  | false => exact absurd rfl h
theorem scLabel : FnScope ["thing", "letter"] ["thing"] (defScope sPIsLabel) := ⟨rfl, rfl, rfl, by decide +kernel, rfl, by decide +kernel, by decide +kernel⟩
theorem ok_label {f : Addr} {fd : FuncData} (F : FnP K "is_label" sPIsLabel f fd) (zt : mg "str" = none) (zs : mg "isinstance" = none) (zl : mg "len" = none) (za : mg "all" = none) : FnOk P w K mg base CX0 1 f fd ["thing"] spLabel := by
  refine F.ok scLabel (fun vs H Q E h => ?_) (fun cdv A outer s H vs Q E hr h => ?_)
  · obtain ⟨v, t, rfl, _⟩ := h
    rfl
  · obtain ⟨v, t, rfl, o, q⟩ := h
    refine ⟨_, PSs.nox (pss_cons (ps_if (PW.pt (pw_or (pt_not (pt_val (pe_callB call_isi (by rfl) zs (by decide +kernel) (pa_cons (pv 0) (pa_cons (pe_bltn (by rfl) zt (by decide +kernel) (v := .ty "str") rfl) pa_nil)))))
        (pw_or1 (pt_not (pt_chain op_le op_le pe_int (pe_callB call_len_str (by rfl) zl boot_len (pa_cons (pv 0) pa_nil)) pe_int))))) (pss_one (ps_ret pe_bl)) pss_nil)
      (pss_one (ps_ret (pe_callB (cr_all rfl) (by rfl) za (by decide +kernel) (pa_cons (pe_lc (own := [("letter", 1)]) (g := gName 1) (tt := tYes) rfl scLabel.nd (pi_str (pv 0)) (blkOk_by (N := ["thing", "letter"]) (sc := defScope sPIsLabel) (by decide +kernel))
          (fun _ _ _ _ _ => pg_name (i := 1) scLabel.nd rfl (Or.inl rfl)) (fun _ _ _ _ _ => pts_nil) (fun _ _ _ _ _ => pe_chain op_le_str op_le_str pe_str (pv 1) pe_str)) pa_nil))))), ?_⟩
    have ty := o.ty (K := K)
    cases o with
    | str x hx hs =>
      have e : labelV (.str x) = ((decide ((1 : Int) ≤ x.length) && decide ((x.length : Int) ≤ 6)) && x.cps.toList.all lowC) := rfl
      rw [e] at q
      refine ⟨_, rfl, _, _, _, _, true, rfl, .ty _, ty, kit_ty (by decide +kernel), _, rfl, iteF ?_⟩
      refine ⟨_, rfl, _, rfl, Nat.le_trans hx (by decide), _, _, rfl, rfl, _, rfl, ?_⟩
      refine ite2 (fun h1 => ?_) (fun h1 => ?_)
      · rw [h1, Bool.true_and] at q
        refine ⟨_, _, rfl, rfl, _, rfl, ?_⟩
        refine ite2 (fun h2 => ?_) (fun h2 => ?_)
        · rw [not_t h2, Bool.false_and] at q
          exact q H (Same.refl H)
        · rw [not_f h2, Bool.true_and] at q
          refine ⟨_, rfl, x, rfl, fun D nD => lc_it walk_str (fun i H' => Same H H' ∧ H' D = some (.lst (((x.cps.toList.take i).map lowC).map V.bl))) ⟨same_upd nD, upd_same⟩ (fun _ _ _ _ => trivial) ?_ ?_⟩
          · rintro i y H2 H3 hi ⟨s2, eD⟩ ⟨rfl, c, hc, rfl⟩
            have hi' : i < x.cps.toList.length := by
              rw [Array.length_toList]
              exact hi
            have hc' : x.cps.toList[i]? = some c := by
              rw [Array.getElem?_toList]
              exact hc
            have nx : ∀ b : Bool, b = lowC c → ∃ acc, H3 D = some (.lst acc) ∧ acc.length < sizeLine ∧ (Same H (upd H3 D (.lst (acc ++ [V.bl b]))) ∧ (upd H3 D (.lst (acc ++ [V.bl b]))) D = some (.lst (((x.cps.toList.take (i + 1)).map lowC).map V.bl))) := fun b eb => by
              subst eb
              refine ⟨_, eD, ?_, fun b' o' e' => ?_, ?_⟩
              · rw [List.length_map, List.length_map, List.length_take]
                exact Nat.lt_of_le_of_lt (Nat.min_le_left _ _) (Nat.lt_of_lt_of_le hi (Nat.le_trans hx (by decide)))
              · rw [upd_ne (ne_of_none e' nD)]
                exact s2 _ _ e'
              · rw [upd_same, List.take_add_one, hc', List.map_append, List.map_append]
                rfl
            refine ⟨rfl, ?_⟩
            refine ⟨_, rfl, _, _, rfl, rfl, _, rfl, ?_⟩
            refine ite2 (fun g1 => ?_) (fun g1 => ?_)
            · exact ⟨_, _, rfl, rfl, nx _ (by unfold lowC; rw [show (!decide ([c] < [97])) = true from g1, Bool.true_and]; rfl)⟩
            · exact nx _ (by unfold lowC; rw [show (!decide ([c] < [97])) = false from Bool.eq_false_iff.mpr g1, Bool.false_and])
          · rintro H2 ⟨s2, eD⟩
            have eall : x.cps.toList.take x.cps.size = x.cps.toList := List.take_of_length_le (by rw [Array.length_toList]; exact Nat.le_refl _)
            rw [eall] at eD
            refine ⟨D, _, rfl, SqL.of eD, ?_⟩
            rw [show ((x.cps.toList.map lowC).all id) = x.cps.toList.all lowC by rw [List.all_map]; rfl]
            exact q H2 s2
      · rw [Bool.eq_false_iff.mpr h1, Bool.false_and, Bool.false_and] at q
        exact ⟨_, rfl, iteT (q H (Same.refl H))⟩
    | _ => exact ⟨_, rfl, _, _, _, _, false, rfl, .ty _, ty, kit_ty (by decide +kernel), _, rfl, iteT (q H (Same.refl H))⟩
end
abbrev lettersS : Str := "abcdefghijklmnopqrstuvwxyz"
theorem letters_are : lettersS.cps.toList = (List.range 26).map (· + 97) := by decide +kernel
theorem lt_one (a b : Nat) : decide ([a] < [b]) = decide (a < b) := by
  refine decide_eq_decide.mpr ⟨fun h => ?_, fun h => ?_⟩
  · cases h with
    | rel h => exact h
    | cons h => cases h
  · exact List.Lex.rel h
theorem low_mem (c : Nat) : lowC c = decide (c ∈ lettersS.cps.toList) := by
  rw [letters_are]
  unfold lowC
  rw [lt_one, lt_one]
  by_cases h : 97 ≤ c ∧ c ≤ 122
  · have m : c ∈ (List.range 26).map (· + 97) := List.mem_map.mpr ⟨c - 97, List.mem_range.mpr (by omega), by omega⟩
    rw [decide_eq_true m, decide_eq_false (by omega), decide_eq_false (by omega)]
    rfl
  · have m : ¬ c ∈ (List.range 26).map (· + 97) := fun z => by
      obtain ⟨d, hd, e⟩ := List.mem_map.mp z
      have := List.mem_range.mp hd
      omega
    rw [decide_eq_false m]
    by_cases h2 : c < 97
    · rw [decide_eq_true h2]
      rfl
    · rw [decide_eq_true (show 122 < c by omega), decide_eq_false h2]
      rfl
structure Df (P : Program) (w : World) (K : PySem.W.Frag) (mg : Str → Option Value) (base : Heap) (x : Str) (k : Nat) (ps : List Str) (sp : Sp) (f : Addr) (fd : FuncData) : Prop where
  gl : mg x = some (.ref f)
  ok : FnOk P w K mg base CX0 k f fd ps sp
  bi : Binds K fd ps []
  kp : PySem.W.keepIn K (.ref f) = true
theorem and_kind {K : PySem.W.Frag} {σ : L2.St} {H : Hp} {v : V} {t : String} {Qc : V → Hp → Prop} (o : Odd H v t) (e0 : σ[0]? = some (some v)) (k : ∀ H', Same H H' → Qc (.bl (kindV v)) H') :
    tAndV (tCB (rIsi K) (tCons (tVar 0) (tCons (tC (.ty "str")) tNil))) (tOp (rIn K false) (tVar 0) (tLst (tCons (tC (.str "s")) (tCons (tC (.str "d")) tNil)))) σ H Qc := by
  have ty := o.ty (K := K)
  cases o with
  | str x hx hs => exact ⟨_, e0, _, _, _, _, true, rfl, .ty _, ty, kit_ty (by decide +kernel), _, rfl, iteT ⟨_, e0, (by show 2 ≤ sizeLine; decide), fun q nq => ⟨q, _, rfl, .inl (SqL.of upd_same), rfl, rfl, k _ (same_upd nq)⟩⟩⟩
  | _ => exact ⟨_, e0, _, _, _, _, false, rfl, .ty _, ty, kit_ty (by decide +kernel), _, rfl, iteF (k _ (Same.refl _))⟩
abbrev nmQ : List Str := ["_law_thing", "_law_low", "_law_high", "_law_letters", "_law_told", "_law_due", "_law_k"]
end K04

/-! odd things are drawn -/
namespace K04
open PySem PySem.Spec PyProof.Rows L2
def Kept (p : Addr) (H H' : Hp) : Prop := ∀ b o, b ≠ p → H b = some o → H' b = some o
theorem Kept.upd {p : Addr} {H : Hp} {o : HO} : Kept p H (upd H p o) := fun b u n e => by
  rw [upd_ne n]
  exact e
theorem Kept.refl {p : Addr} {H : Hp} : Kept p H H := fun b u n e => e
theorem Kept.trans {p : Addr} {H H1 H2 : Hp} (a : Kept p H H1) (b : Kept p H1 H2) : Kept p H H2 := fun c o n e => b c o n (a c o n e)
theorem Kept.same {p : Addr} {H H1 : Hp} (a : Same H H1) : Kept p H H1 := fun c o _ e => a c o e
theorem Kept.seq {p : Addr} {H H1 : Hp} {K : PySem.W.Frag} {a : Addr} {xs : List V} (k : Kept p H H1) (n : a ≠ p) (h : SqL K H a xs) : SqL K H1 a xs := by
  rcases h with (h | ⟨o, h⟩) | h
  · exact .inl (.inl (k _ _ n h))
  · exact .inl (.inr ⟨o, k _ _ n h⟩)
  · exact .inr h
theorem hand_apart {H : Hp} {p l : Addr} {cells : List Int} {i r t : Int} (h : HandAt H p l cells i r t) : l ≠ p := fun z => by
  have h1 := h.1
  have h2 := h.2.1
  rw [z, h1] at h2
  have h3 := Option.some.inj h2
  injection h3 with h4
  have h5 := congrArg List.head? h4
  cases cells with
  | nil => cases h5
  | cons c cs => cases h5
theorem hand_upd {H : Hp} {p l : Addr} {cells : List Int} {i r t i' r' t' : Int} (h : HandAt H p l cells i r t) (o : HandOk cells i' r' t') : HandAt (upd H p (handO l i' r' t')) p l cells i' r' t' := by
  refine ⟨upd_same, ?_, o⟩
  rw [upd_ne (hand_apart h)]
  exact h.2.1
theorem hand_same {H H' : Hp} {p l : Addr} {cells : List Int} {i r t : Int} (h : HandAt H p l cells i r t) (s : Same H H') : HandAt H' p l cells i r t := ⟨s _ _ h.1, s _ _ h.2.1, h.2.2⟩
theorem callR_or {X : Cx} {f : Value} {r1 r2 : List V → Hp → VK → Prop} (h1 : CallR X f r1) (h2 : CallR X f r2) : CallR X f (fun xs H Q => r1 xs H Q ∨ r2 xs H Q) := fun pins s σ H xs us Q I rv h => h.elim (h1 pins s σ H xs us Q I rv) (h2 pins s σ H xs us Q I rv)
/-- a list's item, or a text's sign -/
def spPick (K : PySem.W.Frag) : Sp := fun vs H Q _ => ∃ (p l : Addr) (cells : List Int) (i r t : Int), HandAt H p l cells i r t ∧
  ((∃ (a : Addr) (xs : List V), vs = [.ref p, .ref a] ∧ SqL K H a xs ∧ a ≠ p ∧ 0 < xs.length ∧ xs.length ≤ 1000 ∧ ∀ (v : V) (i' r' t' : Int), v ∈ xs → HandOk cells i' r' t' → Q v (upd H p (handO l i' r' t'))) ∨
   (∃ z : Str, vs = [.ref p, .str z] ∧ 0 < z.length ∧ z.length ≤ 1000 ∧ ∀ (c : Nat) (i' r' t' : Int), c ∈ z.cps.toList → HandOk cells i' r' t' → Q (.str ⟨#[c]⟩) (upd H p (handO l i' r' t'))))
section
variable {P : Program} {w : World} {K : PySem.W.Frag} {mg : Str → Option Value} {base : Heap}
theorem scPick : FnScope ["_law_hand_here", "_law_things"] ["_law_hand_here", "_law_things"] (defScope sPick) := ⟨rfl, rfl, rfl, by decide +kernel, rfl, by decide +kernel, by decide +kernel⟩
theorem ok_pick {f fD : Addr} {fd fdD : FuncData} (F : FnP K "_law_pick" sPick f fd) (zl : mg "len" = none) (dD : Df P w K mg base "_law_draw" 2 ["_law_hand_here", "_law_many"] spDraw fD fdD) : FnOk P w K mg base CX0 3 f fd ["_law_hand_here", "_law_things"] (spPick K) := by
  refine F.ok scPick (fun vs H Q E h => ?_) (fun cdv A outer s H vs Q E hr h => ?_)
  · obtain ⟨p, l, cells, i, r, t, hh, (⟨a, xs, rfl, _⟩ | ⟨z, rfl, _⟩)⟩ := h <;> rfl
  · obtain ⟨p, l, cells, i, r, t, hh, h⟩ := h
    refine ⟨_, PSs.nox (pss_one (ps_ret (pe_ix ix_seq (pv 1) (pe_call dD.ok hr (by rfl) dD.gl dD.kp dD.bi .nil pass0 (pa_cons (pv 0) (pa_cons (pe_callB (callR_or call_len_seq call_len_str) (by rfl) zl boot_len (pa_cons (pv 1) pa_nil)) pa_nil))) (fun _ _ => rfl)))), ?_⟩
    rcases h with ⟨a, xs, rfl, hS, nap, h0, h1, q⟩ | ⟨z, rfl, h0, h1, q⟩
    · refine ⟨_, rfl, _, rfl, _, rfl, .inl ⟨_, _, rfl, .inl hS, p, l, cells, i, r, t, _, rfl, hh, by omega, ?_, fun d i' r' t' d0 d1 ok' => ?_⟩⟩
      · have e : ((xs.length : Int)).natAbs = xs.length := by omega
        rw [e]
        exact Nat.lt_of_le_of_lt h1 (Nat.lt_of_lt_of_le (m := 2 ^ 20) (by decide) (Nat.pow_le_pow_right (by decide) (by decide)))
      · have hd : d.toNat < xs.length := by omega
        have hget : atI xs d = some xs[d.toNat] := by
          have z := atI_nat (xs := xs) (j := d.toNat) (v := xs[d.toNat]) (List.getElem?_eq_getElem hd)
          rw [Int.toNat_of_nonneg d0] at z
          exact z
        exact .inl ⟨_, _, _, _, rfl, rfl, Kept.upd.seq nap hS, hget, q _ i' r' t' (List.getElem_mem hd) ok'⟩
    · refine ⟨_, rfl, _, rfl, _, rfl, .inr ⟨z, rfl, Nat.le_trans h1 (by decide), p, l, cells, i, r, t, _, rfl, hh, by omega, ?_, fun d i' r' t' d0 d1 ok' => ?_⟩⟩
      · have e : ((z.length : Int)).natAbs = z.length := by omega
        rw [e]
        exact Nat.lt_of_le_of_lt h1 (Nat.lt_of_lt_of_le (m := 2 ^ 20) (by decide) (Nat.pow_le_pow_right (by decide) (by decide)))
      · have hl : z.cps.toList.length = z.length := Array.length_toList
        have hd : d.toNat < z.cps.toList.length := by omega
        have hget : atI z.cps.toList d = some (z.cps.toList[d.toNat]) := by
          have y := atI_nat (xs := z.cps.toList) (j := d.toNat) (v := z.cps.toList[d.toNat]) (List.getElem?_eq_getElem hd)
          rw [Int.toNat_of_nonneg d0] at y
          exact y
        exact .inr (.inr ⟨z, d, _, rfl, rfl, Nat.le_trans h1 (by decide), hget, q _ i' r' t' (List.getElem_mem hd) ok'⟩)
def layS (x : Str) : Prop := (PyData.str x).canLay0 = true
theorem lay_app {x : Str} {c : Nat} (h : layS x) (hc : c < 0x110000) : layS (x ++ ⟨#[c]⟩) := by
  have h1 : x.cps.all (fun c => decide (c < 0x110000)) = true := h
  show (x.cps ++ #[c]).all (fun c => decide (c < 0x110000)) = true
  rw [← Array.all_toList] at h1 ⊢
  rw [Array.toList_append, List.all_append, h1, Bool.true_and]
  show (List.all [c] _) = true
  rw [List.all_cons, decide_eq_true hc]
  rfl
theorem len_app {x : Str} {c : Nat} : (x ++ (⟨#[c]⟩ : Str)).length = x.length + 1 := by
  show (x.cps ++ #[c]).size = x.cps.size + 1
  rw [Array.size_append]
  rfl
theorem small2 {m : Int} (h : m.natAbs < 2 ^ 200) : m.natAbs < 2 ^ 8000 := Nat.lt_of_lt_of_le h (Nat.pow_le_pow_right (by decide) (by decide))
end
end K04

/-! things as data, rows -/
namespace K04
open PySem PySem.Spec PyProof.Rows L2
mutual
/-- d stands at v, all its objects are in S -/
inductive Dt (S : Addr → Prop) (H : Hp) : V → PyData → Prop
  | non : Dt S H .non .none
  | bl (b : Bool) : Dt S H (.bl b) (.bool b)
  | int (i : Int) : Dt S H (.int i) (.int i)
  | str (x : Str) (hx : x.length ≤ 1000) (hs : (PyData.str x).canLay0 = true) : Dt S H (.str x) (.str x)
  | lst {a : Addr} {xs : List V} {ds : List PyData} : S a → H a = some (.lst xs) → DtAll S H xs ds → Dt S H (.ref a) (.list ds)
  | tup {a : Addr} {xs : List V} {ds : List PyData} : S a → H a = some (.tup xs) → DtAll S H xs ds → Dt S H (.ref a) (.tuple ds)
inductive DtAll (S : Addr → Prop) (H : Hp) : List V → List PyData → Prop
  | nil : DtAll S H [] []
  | cons {v : V} {vs : List V} {d : PyData} {ds : List PyData} : Dt S H v d → DtAll S H vs ds → DtAll S H (v :: vs) (d :: ds)
end
section
variable {S S' : Addr → Prop} {H H' : Hp} {K : PySem.W.Frag}
mutual
theorem Dt.dp {v : V} {d : PyData} (h : Dt S H v d) : Dp K H v d := by
  cases h with
  | non => exact .non
  | bl b => exact .bl b
  | int i => exact .int i
  | str x _ _ => exact .str x
  | lst _ e r => exact .lst (SqL.of e) r.dp
  | tup _ e r => exact .tup (SqT.of e) r.dp
theorem DtAll.dp {vs : List V} {ds : List PyData} (h : DtAll S H vs ds) : DpAll K H vs ds := by
  cases h with
  | nil => exact .nil
  | cons a b => exact .cons a.dp b.dp
end
mutual
/-- carried to another heap -/
theorem Dt.to {v : V} {d : PyData} (h : Dt S H v d) (hS : ∀ a, S a → S' a) (k : ∀ a o, S a → H a = some o → H' a = some o) : Dt S' H' v d := by
  cases h with
  | non => exact .non
  | bl b => exact .bl b
  | int i => exact .int i
  | str x h1 h2 => exact .str x h1 h2
  | lst s e r => exact .lst (hS _ s) (k _ _ s e) (r.to hS k)
  | tup s e r => exact .tup (hS _ s) (k _ _ s e) (r.to hS k)
theorem DtAll.to {vs : List V} {ds : List PyData} (h : DtAll S H vs ds) (hS : ∀ a, S a → S' a) (k : ∀ a o, S a → H a = some o → H' a = some o) : DtAll S' H' vs ds := by
  cases h with
  | nil => exact .nil
  | cons a b => exact .cons (a.to hS k) (b.to hS k)
end
theorem Dt.same {v : V} {d : PyData} (h : Dt S H v d) (s : Same H H') : Dt S H' v d := h.to (fun _ z => z) fun a o _ e => s _ _ e
theorem DtAll.same {vs : List V} {ds : List PyData} (h : DtAll S H vs ds) (s : Same H H') : DtAll S H' vs ds := h.to (fun _ z => z) fun a o _ e => s _ _ e
abbrev Any : Addr → Prop := fun _ => True
theorem Dt.any {v : V} {d : PyData} (h : Dt S H v d) : Dt Any H v d := h.to (fun _ _ => trivial) fun _ _ _ e => e
theorem DtAll.any {vs : List V} {ds : List PyData} (h : DtAll S H vs ds) : DtAll Any H vs ds := h.to (fun _ _ => trivial) fun _ _ _ e => e
/-- another place than p, changed -/
theorem Dt.kept {v : V} {d : PyData} {p : Addr} (h : Dt S H v d) (np : ¬ S p) (k : Kept p H H') : Dt S H' v d := h.to (fun _ z => z) fun a o s e => k _ _ (fun z => np (z ▸ s)) e
theorem DtAll.kept {vs : List V} {ds : List PyData} {p : Addr} (h : DtAll S H vs ds) (np : ¬ S p) (k : Kept p H H') : DtAll S H' vs ds := h.to (fun _ z => z) fun a o s e => k _ _ (fun z => np (z ▸ s)) e
theorem DtAll.len {vs : List V} {ds : List PyData} (h : DtAll S H vs ds) : vs.length = ds.length := by
  induction ds generalizing vs with
  | nil => cases h; rfl
  | cons d ds ih => cases h with | cons a b => exact congrArg Nat.succ (ih b)
theorem DtAll.get {vs : List V} {ds : List PyData} (h : DtAll S H vs ds) {i : Nat} {v : V} (e : vs[i]? = some v) : ∃ d, ds[i]? = some d ∧ Dt S H v d := by
  induction ds generalizing vs i with
  | nil => cases h; cases e
  | cons d ds ih =>
    cases h with
    | cons a b =>
      cases i with
      | zero => cases e; exact ⟨d, rfl, a⟩
      | succ i => exact ih b e
theorem DtAll.app {vs us : List V} {ds es : List PyData} (h : DtAll S H vs ds) (g : DtAll S H us es) : DtAll S H (vs ++ us) (ds ++ es) := by
  induction ds generalizing vs with
  | nil => cases h; exact g
  | cons d ds ih => cases h with | cons a b => exact .cons a (ih b)
theorem DtAll.take {vs : List V} {ds : List PyData} (h : DtAll S H vs ds) (n : Nat) : DtAll S H (vs.take n) (ds.take n) := by
  induction ds generalizing vs n with
  | nil => cases h; cases n <;> exact .nil
  | cons d ds ih =>
    cases h with
    | cons a b =>
      cases n with
      | zero => exact .nil
      | succ n => exact .cons a (ih b n)
theorem DtAll.drop {vs : List V} {ds : List PyData} (h : DtAll S H vs ds) (n : Nat) : DtAll S H (vs.drop n) (ds.drop n) := by
  induction ds generalizing vs n with
  | nil => cases h; cases n <;> exact .nil
  | cons d ds ih =>
    cases h with
    | cons a b =>
      cases n with
      | zero => exact .cons a b
      | succ n => exact ih b n
def tyD : PyData → String
  | .none => "NoneType"
  | .bool _ => "bool"
  | .int _ => "int"
  | .str _ => "str"
  | .list _ => "list"
  | .tuple _ => "tuple"
  | .dict _ => "dict"
theorem Dt.odd {v : V} {d : PyData} (h : Dt S H v d) : Odd H v (tyD d) := by
  cases h with
  | non => exact .non
  | bl b => exact .bl b
  | int i => exact .int i
  | str x h1 h2 => exact .str x h1 h2
  | lst _ e r => exact .lst e
  | tup _ e r => exact .tup e
/-- a list or a tuple -/
def Sq (H : Hp) (a : Addr) (xs : List V) : Prop := H a = some (.lst xs) ∨ H a = some (.tup xs)
theorem Sq.same {a : Addr} {xs : List V} (h : Sq H a xs) (s : Same H H') : Sq H' a xs := h.elim (fun e => .inl (s _ _ e)) fun e => .inr (s _ _ e)
theorem Sq.or {a : Addr} {xs : List V} (h : Sq H a xs) : SqL K H a xs ∨ SqT K H a xs := h.elim (fun h => .inl (SqL.of h)) fun h => .inr (SqT.of h)
theorem Sq.ix {a : Addr} {xs : List V} (h : Sq H a xs) : SqL K H a xs ∨ SqT K H a xs := h.or
def seqD : PyData → Option (List PyData)
  | .list xs => some xs
  | .tuple xs => some xs
  | _ => none
theorem seq_ty (d : PyData) : seqT (tyD d) = (seqD d).isSome := by
  cases d with
  | none => exact (by decide : seqT "NoneType" = false)
  | bool _ => exact (by decide : seqT "bool" = false)
  | int _ => exact (by decide : seqT "int" = false)
  | str _ => exact (by decide : seqT "str" = false)
  | list _ => exact (by decide : seqT "list" = true)
  | tuple _ => exact (by decide : seqT "tuple" = true)
  | dict _ => exact (by decide : seqT "dict" = false)
theorem Dt.seq {v : V} {d : PyData} {ds : List PyData} (h : Dt S H v d) (e : seqD d = some ds) : ∃ a xs, v = .ref a ∧ S a ∧ Sq H a xs ∧ DtAll S H xs ds := by
  cases h with
  | lst s e1 r => cases e; exact ⟨_, _, rfl, s, .inl e1, r⟩
  | tup s e1 r => cases e; exact ⟨_, _, rfl, s, .inr e1, r⟩
  | _ => cases e
theorem Dt.of_seq {a : Addr} {xs : List V} {ds : List PyData} (s : S a) (h : Sq H a xs) (r : DtAll S H xs ds) : ∃ d, seqD d = some ds ∧ Dt S H (.ref a) d := h.elim (fun e => ⟨_, rfl, .lst s e r⟩) fun e => ⟨_, rfl, .tup s e r⟩
theorem Dt.str_inv {v : V} {x : Str} (h : Dt S H v (.str x)) : v = .str x ∧ x.length ≤ 1000 ∧ (PyData.str x).canLay0 = true := by cases h; exact ⟨rfl, by assumption, by assumption⟩
theorem Dt.int_inv {v : V} {i : Int} (h : Dt S H v (.int i)) : v = .int i := by cases h; rfl
end
/-! ### what is asked of a thing -/
def labelD : PyData → Bool
  | .str x => labelV (.str x)
  | _ => false
def kindD : PyData → Bool
  | .str x => kindV (.str x)
  | _ => false
def nameD : PyData → Bool
  | .int i => decide (0 ≤ i) && decide (i ≤ 10 ^ 30)
  | _ => false
def namesD (d : PyData) : Bool := match seqD d with
  | some xs => xs.all nameD
  | none => false
theorem Dt.label {S : Addr → Prop} {H : Hp} {v : V} {d : PyData} (h : Dt S H v d) : labelV v = labelD d := by cases h <;> rfl
theorem Dt.kind {S : Addr → Prop} {H : Hp} {v : V} {d : PyData} (h : Dt S H v d) : kindV v = kindD d := by cases h <;> rfl
theorem Dt.name {S : Addr → Prop} {H : Hp} {v : V} {d : PyData} (h : Dt S H v d) : wholeV v 0 (10 ^ 30) = nameD d := by cases h <;> rfl
def isRowT (z : Str) (rest : List PyData) : Bool :=
    if z = "comes" then (match rest with | [a, b, c, e] => labelD a && (kindD b && (nameD c && namesD e)) | _ => false)
    else if z = "weds" then (match rest with | [a, b] => labelD a && labelD b | _ => false)
    else if z = "born" then (match rest with | [a, b, k, l, c] => (labelD a && (labelD b && labelD l)) && (kindD k && nameD c) | _ => false)
    else if z = "dies" then (match rest with | [a] => labelD a | _ => false) else false
def isRowL : List PyData → Bool
  | .str z :: rest => isRowT z rest
  | _ => false
def isRowD (d : PyData) : Bool := match seqD d with
  | some xs => isRowL xs
  | none => false
/-- a row -/
inductive Rw where
  | comes (l k : Str) (n : Int) (hs : List Int)
  | weds (f m : Str)
  | born (f m k l : Str) (n : Int)
  | dies (l : Str)
def nameI (n : Int) : Prop := 0 ≤ n ∧ n ≤ 10 ^ 30
inductive RwL : List PyData → Rw → Prop where
  | comes {l k : Str} {n : Int} {hs : List Int} {e : PyData} (hl : labelV (.str l) = true) (hk : kindV (.str k) = true) (hn : nameI n) (he : seqD e = some (hs.map PyData.int)) (hh : ∀ x ∈ hs, nameI x) : RwL [.str "comes", .str l, .str k, .int n, e] (.comes l k n hs)
  | weds {f m : Str} (hf : labelV (.str f) = true) (hm : labelV (.str m) = true) : RwL [.str "weds", .str f, .str m] (.weds f m)
  | born {f m k l : Str} {n : Int} (hf : labelV (.str f) = true) (hm : labelV (.str m) = true) (hk : kindV (.str k) = true) (hl : labelV (.str l) = true) (hn : nameI n) : RwL [.str "born", .str f, .str m, .str k, .str l, .int n] (.born f m k l n)
  | dies {l : Str} (hl : labelV (.str l) = true) : RwL [.str "dies", .str l] (.dies l)
theorem label_inv {d : PyData} (h : labelD d = true) : ∃ x, d = .str x ∧ labelV (.str x) = true := by
  cases d with
  | str x => exact ⟨x, rfl, h⟩
  | _ => cases h
theorem kind_inv {d : PyData} (h : kindD d = true) : ∃ x, d = .str x ∧ kindV (.str x) = true := by
  cases d with
  | str x => exact ⟨x, rfl, h⟩
  | _ => cases h
theorem name_inv {d : PyData} (h : nameD d = true) : ∃ n, d = .int n ∧ nameI n := by
  cases d with
  | int n =>
    obtain ⟨a, b⟩ := Bool.and_eq_true_iff.mp (show (decide (0 ≤ n) && decide (n ≤ 10 ^ 30)) = true from h)
    exact ⟨n, rfl, of_decide_eq_true a, of_decide_eq_true b⟩
  | _ => cases h
theorem name_of {n : Int} (h : nameI n) : nameD (.int n) = true := Bool.and_eq_true_iff.mpr ⟨decide_eq_true h.1, decide_eq_true h.2⟩
theorem names_inv : ∀ {xs : List PyData}, xs.all nameD = true → ∃ hs : List Int, xs = hs.map PyData.int ∧ ∀ x ∈ hs, nameI x
  | [], _ => ⟨[], rfl, fun _ h => by cases h⟩
  | x :: xs, h => by
    obtain ⟨a, b⟩ := Bool.and_eq_true_iff.mp (show (nameD x && xs.all nameD) = true from h)
    obtain ⟨n, rfl, hn⟩ := name_inv a
    obtain ⟨hs, rfl, hh⟩ := names_inv b
    exact ⟨n :: hs, rfl, fun y hy => (List.mem_cons.mp hy).elim (fun e => e ▸ hn) (hh y)⟩
theorem names_of : ∀ {hs : List Int}, (∀ x ∈ hs, nameI x) → (hs.map PyData.int).all nameD = true
  | [], _ => rfl
  | x :: hs, h => Bool.and_eq_true_iff.mpr ⟨name_of (h x List.mem_cons_self), names_of fun y hy => h y (List.mem_cons_of_mem _ hy)⟩
theorem namesD_inv {d : PyData} (h : namesD d = true) : ∃ hs : List Int, seqD d = some (hs.map PyData.int) ∧ ∀ x ∈ hs, nameI x := by
  unfold namesD at h
  cases e : seqD d with
  | none => rw [e] at h; cases h
  | some xs =>
    rw [e] at h
    obtain ⟨hs, rfl, hh⟩ := names_inv h
    exact ⟨hs, rfl, hh⟩
theorem row_of {xs : List PyData} (h : isRowL xs = true) : ∃ r, RwL xs r := by
  unfold isRowL at h
  split at h
  · rename_i z rest
    unfold isRowT at h
    split at h
    · rename_i e
      subst e
      split at h
      · rename_i a b c e
        obtain ⟨h1, h⟩ := Bool.and_eq_true_iff.mp h
        obtain ⟨h2, h⟩ := Bool.and_eq_true_iff.mp h
        obtain ⟨h3, h4⟩ := Bool.and_eq_true_iff.mp h
        obtain ⟨l, rfl, hl⟩ := label_inv h1
        obtain ⟨k, rfl, hk⟩ := kind_inv h2
        obtain ⟨n, rfl, hn⟩ := name_inv h3
        obtain ⟨hs, he, hh⟩ := namesD_inv h4
        exact ⟨_, .comes hl hk hn he hh⟩
      · cases h
    · split at h
      · rename_i e
        subst e
        split at h
        · obtain ⟨h1, h2⟩ := Bool.and_eq_true_iff.mp h
          obtain ⟨f, rfl, hf⟩ := label_inv h1
          obtain ⟨m, rfl, hm⟩ := label_inv h2
          exact ⟨_, .weds hf hm⟩
        · cases h
      · split at h
        · rename_i e
          subst e
          split at h
          · obtain ⟨h1, h2⟩ := Bool.and_eq_true_iff.mp h
            obtain ⟨h3, h4⟩ := Bool.and_eq_true_iff.mp h1
            obtain ⟨h5, h6⟩ := Bool.and_eq_true_iff.mp h4
            obtain ⟨h7, h8⟩ := Bool.and_eq_true_iff.mp h2
            obtain ⟨f, rfl, hf⟩ := label_inv h3
            obtain ⟨m, rfl, hm⟩ := label_inv h5
            obtain ⟨l, rfl, hl⟩ := label_inv h6
            obtain ⟨k, rfl, hk⟩ := kind_inv h7
            obtain ⟨n, rfl, hn⟩ := name_inv h8
            exact ⟨_, .born hf hm hk hl hn⟩
          · cases h
        · split at h
          · rename_i e
            subst e
            split at h
            · obtain ⟨l, rfl, hl⟩ := label_inv h
              exact ⟨_, .dies hl⟩
            · cases h
          · cases h
  · cases h
theorem row_is {xs : List PyData} {r : Rw} (h : RwL xs r) : isRowL xs = true := by
  cases h with
  | @comes l k n hs e hl hk hn he hh =>
    show (labelD (.str l) && (kindD (.str k) && (nameD (.int n) && namesD e))) = true
    have e4 : namesD e = true := by
      unfold namesD
      rw [he]
      exact names_of hh
    rw [e4, show labelD (.str l) = true from hl, show kindD (.str k) = true from hk, name_of hn]
    rfl
  | @weds f m hf hm =>
    show (labelD (.str f) && labelD (.str m)) = true
    rw [show labelD (.str f) = true from hf, show labelD (.str m) = true from hm]
    rfl
  | @born f m k l n hf hm hk hl hn =>
    show ((labelD (.str f) && (labelD (.str m) && labelD (.str l))) && (kindD (.str k) && nameD (.int n))) = true
    rw [show labelD (.str f) = true from hf, show labelD (.str m) = true from hm, show labelD (.str l) = true from hl, show kindD (.str k) = true from hk, name_of hn]
    rfl
  | @dies l hl => exact (show labelD (.str l) = true from hl)
/-- what a thing is as a row -/
inductive RowD : PyData → Option Rw → Prop where
  | no {d : PyData} (h : isRowD d = false) : RowD d none
  | row {d : PyData} {xs : List PyData} {r : Rw} (e : seqD d = some xs) (h : RwL xs r) : RowD d (some r)
theorem RowD.is {d : PyData} {o : Option Rw} (h : RowD d o) : isRowD d = o.isSome := by
  cases h with
  | no h => exact h
  | row e h =>
    unfold isRowD
    rw [e]
    exact row_is h
theorem rowD_any (d : PyData) : ∃ o, RowD d o := by
  cases h : isRowD d with
  | false => exact ⟨none, .no h⟩
  | true =>
    have h2 := h
    unfold isRowD at h2
    cases e : seqD d with
    | none => rw [e] at h2; cases h2
    | some xs =>
      rw [e] at h2
      obtain ⟨r, hr⟩ := row_of h2
      exact ⟨some r, .row e hr⟩
/-- none of its parts is long -/
def okD (d : PyData) : Prop := ∀ xs, seqD d = some xs → xs.length ≤ 1000 ∧ ∀ x ∈ xs, ∀ ys, seqD x = some ys → ys.length ≤ 1000
theorem row_comes (r : List PyData) : isRowL (.str "comes" :: r) = (match r with | [a, b, c, e] => labelD a && (kindD b && (nameD c && namesD e)) | _ => false) := by
  show isRowT "comes" r = _
  unfold isRowT
  rw [if_pos rfl]
theorem row_weds (r : List PyData) : isRowL (.str "weds" :: r) = (match r with | [a, b] => labelD a && labelD b | _ => false) := by
  show isRowT "weds" r = _
  unfold isRowT
  rw [if_neg (by decide), if_pos rfl]
theorem row_born (r : List PyData) : isRowL (.str "born" :: r) = (match r with | [a, b, k, l, c] => (labelD a && (labelD b && labelD l)) && (kindD k && nameD c) | _ => false) := by
  show isRowT "born" r = _
  unfold isRowT
  rw [if_neg (by decide), if_neg (by decide), if_pos rfl]
theorem row_dies (r : List PyData) : isRowL (.str "dies" :: r) = (match r with | [a] => labelD a | _ => false) := by
  show isRowT "dies" r = _
  unfold isRowT
  rw [if_neg (by decide), if_neg (by decide), if_neg (by decide), if_pos rfl]
theorem row_comes_no {r : List PyData} (h : r.length ≠ 4) : isRowL (.str "comes" :: r) = false := by
  rw [row_comes]
  split
  · exact absurd rfl h
  · rfl
theorem row_weds_no {r : List PyData} (h : r.length ≠ 2) : isRowL (.str "weds" :: r) = false := by
  rw [row_weds]
  split
  · exact absurd rfl h
  · rfl
theorem row_born_no {r : List PyData} (h : r.length ≠ 5) : isRowL (.str "born" :: r) = false := by
  rw [row_born]
  split
  · exact absurd rfl h
  · rfl
theorem row_dies_no {r : List PyData} (h : r.length ≠ 1) : isRowL (.str "dies" :: r) = false := by
  rw [row_dies]
  split
  · exact absurd rfl h
  · rfl
theorem row_other {z : Str} {r : List PyData} (h1 : z ≠ "comes") (h2 : z ≠ "weds") (h3 : z ≠ "born") (h4 : z ≠ "dies") : isRowL (.str z :: r) = false := by
  show isRowT z r = false
  unfold isRowT
  rw [if_neg h1, if_neg h2, if_neg h3, if_neg h4]
/-- the row as its record keeps it -/
def Rw.data : Rw → PyData
  | .comes l k n hs => .tuple [.str "comes", .str l, .str k, .int n, .tuple (hs.map PyData.int)]
  | .weds f m => .tuple [.str "weds", .str f, .str m]
  | .born f m k l n => .tuple [.str "born", .str f, .str m, .str k, .str l, .int n]
  | .dies l => .tuple [.str "dies", .str l]
mutual
/-- no list in it -/
def noL : PyData → Bool
  | .list _ => false
  | .dict _ => false
  | .tuple xs => noLAll xs
  | _ => true
def noLAll : List PyData → Bool
  | [] => true
  | x :: xs => noL x && noLAll xs
end
theorem noL_ints : ∀ hs : List Int, noLAll (hs.map PyData.int) = true
  | [] => rfl
  | _ :: hs => noL_ints hs
theorem Rw.noL (r : Rw) : K04.noL r.data = true := by
  cases r with
  | comes l k n hs => exact (show (K04.noLAll (hs.map PyData.int) && true) = true by rw [noL_ints]; rfl)
  | _ => rfl
section
variable {S : Addr → Prop} {H H' : Hp}
mutual
/-- tuples alone must stay -/
theorem Dt.tups {v : V} {d : PyData} (h : Dt S H v d) (n : noL d = true) (k : ∀ a xs, S a → H a = some (.tup xs) → H' a = some (.tup xs)) : Dt S H' v d := by
  cases h with
  | non => exact .non
  | bl b => exact .bl b
  | int i => exact .int i
  | str x h1 h2 => exact .str x h1 h2
  | lst s e r => cases n
  | tup s e r => exact .tup s (k _ _ s e) (r.tups n k)
theorem DtAll.tups {vs : List V} {ds : List PyData} (h : DtAll S H vs ds) (n : noLAll ds = true) (k : ∀ a xs, S a → H a = some (.tup xs) → H' a = some (.tup xs)) : DtAll S H' vs ds := by
  cases h with
  | nil => exact .nil
  | cons a b =>
    obtain ⟨n1, n2⟩ := Bool.and_eq_true_iff.mp n
    exact .cons (a.tups n1 k) (b.tups n2 k)
end
end
theorem noLAll_app : ∀ {xs ys : List PyData}, noLAll xs = true → noLAll ys = true → noLAll (xs ++ ys) = true
  | [], _, _, h => h
  | x :: xs, ys, h, g => by
    obtain ⟨n1, n2⟩ := Bool.and_eq_true_iff.mp (show (noL x && noLAll xs) = true from h)
    exact Bool.and_eq_true_iff.mpr ⟨n1, noLAll_app n2 g⟩
end K04

/-! is it a row -/
namespace K04
open PySem PySem.Spec PyProof.Rows L2
/-- an item of a list or a tuple -/
def rSq : R2 := fun x y H Q => ∃ (p : Addr) (xs : List V) (i : Int) (v : V), x = .ref p ∧ y = .int i ∧ Sq H p xs ∧ atI xs i = some v ∧ Q v H
theorem ixS {X : Cx} : IxR X rSq := fun vl sl pins s σ H x y v u Q I rx ry q hs => by
  obtain ⟨p, xs, i, z, e1, e2, hS, e3, k⟩ := q
  exact ix_seq vl sl pins s σ H x y v u Q I rx ry (hS.elim (fun h => .inl ⟨p, xs, i, z, e1, e2, SqL.of h, e3, k⟩) fun h => .inr (.inl ⟨p, xs, i, z, e1, e2, SqT.of h, e3, k⟩)) hs
theorem atI_at {xs : List V} {v : V} (j : Nat) (h : xs[j]? = some v) : atI xs (j : Int) = some v := atI_nat h
def spNames : Sp := fun vs H Q _ => ∃ (v : V) (d : PyData), vs = [v] ∧ Dt Any H v d ∧ (∀ xs, seqD d = some xs → xs.length ≤ 1000) ∧ ∀ H', Same H H' → Q (.bl (namesD d)) H'
def spRow : Sp := fun vs H Q _ => ∃ (v : V) (d : PyData), vs = [v] ∧ Dt Any H v d ∧ okD d ∧ ∀ H', Same H H' → Q (.bl (isRowD d)) H'
/-- a list walked, or a tuple -/
theorem seq_any {K : PySem.W.Frag} {σ : L2.St} {H : Hp} {R : It → Hp → Prop} {te : TE} {a : Addr} {xs : List V} (he : ∀ Q : VK, Q (.ref a) H → te σ H Q) (hS : Sq H a xs)
    (key : ∀ (it : It) (G : Hp → Prop), Walk it xs.length G (YAt xs) → (∀ H', Same H H' → G H') → R it H) :
    iList K te σ H R ∨ iTup K te σ H R := by
  rcases hS with h | h
  · exact .inl (he _ ⟨a, rfl, ⟨_, SqL.of h⟩, key _ _ walk_list fun H' s => SqL.of (s _ _ h)⟩)
  · exact .inr (he _ ⟨a, rfl, ⟨_, SqT.of h⟩, key _ _ walk_tup fun H' s => SqT.of (s _ _ h)⟩)
theorem pi_or {X : Cx} {tg it : Expr} {w1 w2 : TI} (h1 : PI X tg it w1) (h2 : PI X tg it w2) : PI X tg it (fun σ H R => w1 σ H R ∨ w2 σ H R) :=
  ⟨fun pins s σ H R I h => h.elim (h1.run pins s σ H R I) (h2.run pins s σ H R I)⟩
section
variable {P : Program} {w : World} {K : PySem.W.Frag} {mg : Str → Option Value} {base : Heap}
theorem scNames : FnScope ["thing", "name"] ["thing"] (defScope sPAreNames) := ⟨rfl, rfl, rfl, by decide +kernel, rfl, by decide +kernel, by decide +kernel⟩
theorem all_take {xs : List PyData} {i : Nat} {d : PyData} (h : xs[i]? = some d) : (xs.take (i + 1)).map nameD = (xs.take i).map nameD ++ [nameD d] := by
  rw [List.take_add_one, h, List.map_append]
  rfl
theorem ok_names {f fS fN : Addr} {fd fdS fdN : FuncData} (F : FnP K "_are_names" sPAreNames f fd) (za : mg "all" = none) (dS : Df P w K mg base "is_sequence" 1 ["thing"] spSeq fS fdS) (dN : Df P w K mg base "is_name" 2 ["thing"] spName fN fdN) :
    FnOk P w K mg base CX0 3 f fd ["thing"] spNames := by
  refine F.ok scNames (fun vs H Q E h => ?_) (fun cdv A outer s H vs Q E hr h => ?_)
  · obtain ⟨e, d, rfl, _⟩ := h
    rfl
  · obtain ⟨v, d, rfl, hd, hlen, q⟩ := h
    refine ⟨_, PSs.nox (pss_one (ps_ret (pe_and (pe_call dS.ok (hr.mono (by decide)) (by rfl) dS.gl dS.kp dS.bi .nil pass0 (pa_cons (pv 0) pa_nil))
      (pe_one (pe_callB (cr_all rfl) (by rfl) za (by decide +kernel) (pa_cons (pe_lc (own := [("name", 1)]) (g := gName 1) (tt := tYes) rfl scNames.nd (pi_or (pi_list (pv 0)) (pi_tup (pv 0))) (blkOk_by (N := ["thing", "name"]) (sc := defScope sPAreNames) (by decide +kernel))
          (fun _ _ _ _ _ => pg_name (i := 1) scNames.nd rfl (Or.inl rfl)) (fun _ _ _ _ _ => pts_nil) (fun _ _ _ _ _ => pe_call dN.ok hr (by rfl) dN.gl dN.kp dN.bi .nil pass0 (pa_cons (pv 1) pa_nil))) pa_nil)))))), ?_⟩
    refine ⟨_, rfl, _, _, rfl, hd.odd, fun p np => ?_⟩
    have sp := same_upd (o := .tup [.ty "list", .ty "tuple"]) np
    rw [seq_ty]
    cases e : seqD d with
    | none =>
      have e2 : namesD d = false := by
        unfold namesD
        rw [e]
      rw [e2] at q
      exact ⟨_, rfl, iteF (q _ sp)⟩
    | some ds =>
      obtain ⟨a, xs, rfl, _, hS, hxs⟩ := hd.seq e
      have e2 : namesD d = ds.all nameD := by
        unfold namesD
        rw [e]
      have hl := hlen ds e
      have el := hxs.len
      have hS1 := hS.same sp
      have hxs1 := hxs.same sp
      refine ⟨true, rfl, iteT ?_⟩
      refine seq_any (fun Q q => ⟨_, rfl, q⟩) hS1 fun it G wk keep D nD => lc_it wk (fun i H' => Same (upd H p (.tup [.ty "list", .ty "tuple"])) H' ∧ H' D = some (.lst (((ds.take i).map nameD).map V.bl))) ⟨same_upd nD, upd_same⟩ (fun i H' _ h => keep _ h.1) ?_ ?_
      · rintro i y H2 H3 hi ⟨s2, eD⟩ ⟨rfl, ev⟩
        obtain ⟨z, ez, hz⟩ := hxs1.get ev
        refine ⟨rfl, ?_⟩
        refine ⟨_, rfl, y, _, rfl, (hz.same s2).odd, ?_⟩
        rw [hz.name]
        refine ⟨_, eD, ?_, fun b' o' e' => ?_, ?_⟩
        · rw [List.length_map, List.length_map, List.length_take]
          exact Nat.lt_of_le_of_lt (Nat.min_le_right _ _) (Nat.lt_of_le_of_lt hl (by decide))
        · rw [upd_ne (ne_of_none e' nD)]
          exact s2 _ _ e'
        · rw [upd_same, all_take ez, List.map_append]
          rfl
      · rintro H2 ⟨s2, eD⟩
        rw [el, List.take_of_length_le (Nat.le_refl _)] at eD
        refine ⟨D, _, rfl, SqL.of eD, ?_⟩
        rw [show ((ds.map nameD).all id) = namesD d by rw [e2, List.all_map]; rfl]
        exact q H2 (sp.trans s2)
theorem scRow : FnScope ["row", "labels"] ["row"] (defScope sPIsRow) := ⟨rfl, rfl, rfl, by decide +kernel, rfl, by decide +kernel, by decide +kernel⟩
theorem ok_row {f fS fL fK fN fA : Addr} {fd fdS fdL fdK fdN fdA : FuncData} (F : FnP K "is_row" sPIsRow f fd) (z_isinstance : mg "isinstance" = none) (z_str : mg "str" = none) (z_len : mg "len" = none)
    (dS : Df P w K mg base "is_sequence" 1 ["thing"] spSeq fS fdS) (dL : Df P w K mg base "is_label" 1 ["thing"] spLabel fL fdL) (dK : Df P w K mg base "is_kind" 1 ["thing"] spKind fK fdK)
    (dN : Df P w K mg base "is_name" 2 ["thing"] spName fN fdN) (dA : Df P w K mg base "_are_names" 3 ["thing"] spNames fA fdA) : FnOk P w K mg base CX0 4 f fd ["row"] spRow := by
  refine F.ok scRow (fun vs H Q E h => ?_) (fun cdv A outer s H vs Q E hr3 h => ?_)
  · obtain ⟨v, b, rfl, _⟩ := h
    rfl
  · obtain ⟨v, d, rfl, hd, ok, q⟩ := h
    have hr1 := hr3.mono (show 1 ≤ 3 by decide)
    have hr2 := hr3.mono (show 2 ≤ 3 by decide)
    refine ⟨_, PSs.nox (pss_cons (ps_if (PW.pt (pw_or (pt_not (pt_val (pe_call dS.ok hr1 (by rfl) dS.gl dS.kp dS.bi .nil pass0 (pa_cons (pv 0) pa_nil)))) (pw_or (pt_not (pt_truth (pv 0) (fun _ => rfl))) (pw_or1 (pt_not (pt_val (pe_callB call_isi (by rfl) z_isinstance (by decide +kernel) (pa_cons (pe_ix ixS (pv 0) pe_int (fun _ _ => rfl)) (pa_cons (pe_bltn (by rfl) z_str (by decide +kernel) (v := .ty "str") rfl) pa_nil)))))))))
      (pss_one (ps_ret pe_bl))
      pss_nil)
    (pss_cons (ps_if (pt_cmpR op_eq (pe_ix ixS (pv 0) pe_int (fun _ _ => rfl)) pe_str (nomark _))
      (pss_one (ps_ret (pe_and (pe_cmpR op_eq (pe_callB call_len_seq (by rfl) z_len boot_len (pa_cons (pv 0) pa_nil)) pe_int (nomark _)) (pe_and (pe_call dL.ok hr1 (by rfl) dL.gl dL.kp dL.bi .nil pass0 (pa_cons (pe_ix ixS (pv 0) pe_int (fun _ _ => rfl)) pa_nil)) (pe_and (pe_call dK.ok hr1 (by rfl) dK.gl dK.kp dK.bi .nil pass0 (pa_cons (pe_ix ixS (pv 0) pe_int (fun _ _ => rfl)) pa_nil)) (pe_and (pe_call dN.ok hr2 (by rfl) dN.gl dN.kp dN.bi .nil pass0 (pa_cons (pe_ix ixS (pv 0) pe_int (fun _ _ => rfl)) pa_nil)) (pe_one (pe_call dA.ok hr3 (by rfl) dA.gl dA.kp dA.bi .nil pass0 (pa_cons (pe_ix ixS (pv 0) pe_int (fun _ _ => rfl)) pa_nil)))))))))
      pss_nil)
    (pss_cons (ps_if (pt_cmpR op_eq (pe_ix ixS (pv 0) pe_int (fun _ _ => rfl)) pe_str (nomark _))
      (pss_one (ps_ret (pe_and (pe_cmpR op_eq (pe_callB call_len_seq (by rfl) z_len boot_len (pa_cons (pv 0) pa_nil)) pe_int (nomark _)) (pe_and (pe_call dL.ok hr1 (by rfl) dL.gl dL.kp dL.bi .nil pass0 (pa_cons (pe_ix ixS (pv 0) pe_int (fun _ _ => rfl)) pa_nil)) (pe_one (pe_call dL.ok hr1 (by rfl) dL.gl dL.kp dL.bi .nil pass0 (pa_cons (pe_ix ixS (pv 0) pe_int (fun _ _ => rfl)) pa_nil)))))))
      pss_nil)
    (pss_cons (ps_if (pt_cmpR op_eq (pe_ix ixS (pv 0) pe_int (fun _ _ => rfl)) pe_str (nomark _))
      (pss_cons (ps_set (i := 1) scRow.nd rfl (.inl rfl) (pe_and (pe_cmpR op_eq (pe_callB call_len_seq (by rfl) z_len boot_len (pa_cons (pv 0) pa_nil)) pe_int (nomark _)) (pe_and (pe_call dL.ok hr1 (by rfl) dL.gl dL.kp dL.bi .nil pass0 (pa_cons (pe_ix ixS (pv 0) pe_int (fun _ _ => rfl)) pa_nil)) (pe_and (pe_call dL.ok hr1 (by rfl) dL.gl dL.kp dL.bi .nil pass0 (pa_cons (pe_ix ixS (pv 0) pe_int (fun _ _ => rfl)) pa_nil)) (pe_one (pe_call dL.ok hr1 (by rfl) dL.gl dL.kp dL.bi .nil pass0 (pa_cons (pe_ix ixS (pv 0) pe_int (fun _ _ => rfl)) pa_nil)))))))
      (pss_one (ps_ret (pe_and (pv 1) (pe_and (pe_call dK.ok hr1 (by rfl) dK.gl dK.kp dK.bi .nil pass0 (pa_cons (pe_ix ixS (pv 0) pe_int (fun _ _ => rfl)) pa_nil)) (pe_one (pe_call dN.ok hr2 (by rfl) dN.gl dN.kp dN.bi .nil pass0 (pa_cons (pe_ix ixS (pv 0) pe_int (fun _ _ => rfl)) pa_nil))))))))
      pss_nil)
    (pss_one (ps_ret (pe_and (pe_cmpR op_eq (pe_ix ixS (pv 0) pe_int (fun _ _ => rfl)) pe_str (nomark _)) (pe_and (pe_cmpR op_eq (pe_callB call_len_seq (by rfl) z_len boot_len (pa_cons (pv 0) pa_nil)) pe_int (nomark _)) (pe_one (pe_call dL.ok hr1 (by rfl) dL.gl dL.kp dL.bi .nil pass0 (pa_cons (pe_ix ixS (pv 0) pe_int (fun _ _ => rfl)) pa_nil))))))))))), ?_⟩
    refine ⟨_, rfl, _, _, rfl, hd.odd, fun p np => ?_⟩
    have sp := same_upd (o := .tup [.ty "list", .ty "tuple"]) np
    rw [seq_ty]
    cases e : seqD d with
    | none =>
      have e2 : isRowD d = false := by
        unfold isRowD
        rw [e]
      rw [e2] at q
      exact ⟨_, rfl, iteT (q _ sp)⟩
    | some ds =>
    obtain ⟨a, xs, rfl, _, hS0, hxs0⟩ := hd.seq e
    have e2 : isRowD d = isRowL ds := by
      unfold isRowD
      rw [e]
    rw [e2] at q
    obtain ⟨ok1, ok2⟩ := ok ds e
    have hS := hS0.same sp
    have hxs := hxs0.same sp
    replace q : ∀ H', Same (upd H p (.tup [.ty "list", .ty "tuple"])) H' → Q (.bl (isRowL ds)) H' := fun H' s' => q H' (sp.trans s')
    clear hS0 hxs0 e e2
    generalize upd H p (.tup [.ty "list", .ty "tuple"]) = H0 at hS hxs q
    clear sp hd
    refine ⟨_, rfl, iteF ?_⟩
    cases hxs with
    | nil =>
      refine ⟨_, rfl, false, hS.elim (fun h => .inl ⟨_, SqL.of h, rfl⟩) (fun h => .inr (.inl ⟨_, SqT.of h, rfl⟩)), iteT ?_⟩
      exact q _ (Same.refl _)
    | @cons v0 vs d0 ds hv hvs =>
    refine ⟨_, rfl, true, hS.elim (fun h => .inl ⟨_, SqL.of h, rfl⟩) (fun h => .inr (.inl ⟨_, SqT.of h, rfl⟩)), iteF ?_⟩
    have el := hvs.len
    have a0 : atI (v0 :: vs) 0 = some v0 := atI_nat (j := 0) rfl
    refine ⟨_, rfl, _, _, _, v0, rfl, rfl, hS, a0, ?_⟩
    have nostr : (∀ z, d0 ≠ .str z) → isRowL (d0 :: ds) = false := fun n => by
      unfold isRowL
      split
      · rename_i z rest e
        injection e with e1 e3
        exact absurd e1 (n z)
      · rfl
    cases hv with
    | non => exact ⟨_, _, _, _, false, rfl, .ty _, .base .non, kit_ty (by decide +kernel), _, rfl, iteT (by rw [nostr fun z y => by cases y] at q; exact q _ (Same.refl _))⟩
    | bl b => exact ⟨_, _, _, _, false, rfl, .ty _, .base (.bl b), kit_ty (by decide +kernel), _, rfl, iteT (by rw [nostr fun z y => by cases y] at q; exact q _ (Same.refl _))⟩
    | int i => exact ⟨_, _, _, _, false, rfl, .ty _, .base (.int i), kit_ty (by decide +kernel), _, rfl, iteT (by rw [nostr fun z y => by cases y] at q; exact q _ (Same.refl _))⟩
    | lst _ e _ => exact ⟨_, _, _, _, false, rfl, .ty _, .base (.lst e), kit_ty (by decide +kernel), _, rfl, iteT (by rw [nostr fun z y => by cases y] at q; exact q _ (Same.refl _))⟩
    | tup _ e _ => exact ⟨_, _, _, _, false, rfl, .ty _, .base (.tup e), kit_ty (by decide +kernel), _, rfl, iteT (by rw [nostr fun z y => by cases y] at q; exact q _ (Same.refl _))⟩
    | str z hz1 hz2 =>
    refine ⟨_, _, _, _, true, rfl, .ty _, .base (.str z), kit_ty (by decide +kernel), _, rfl, iteF ?_⟩
    -- comes
    refine ⟨_, rfl, _, _, _, _, rfl, rfl, hS, a0, rfl, _, rfl, ite2 (fun g => ?_) (fun g1 => ?_)⟩
    · obtain rfl : z = "comes" := V.str.inj (of_decide_eq_true g)
      refine ⟨_, rfl, _, _, rfl, hS.or, rfl, _, rfl, ite2 (fun g => ?_) (fun g => ?_)⟩
      · have g := V.int.inj (of_decide_eq_true g)
        have n4 : ds.length = 4 := by rw [List.length_cons] at g; omega
        match vs, ds, n4, hvs, ok2, q with
        | _, [a1, a2, a3, a4], _, .cons (v := v1) h1 (.cons (v := v2) h2 (.cons (v := v3) h3 (.cons (v := v4) h4 .nil))), ok2, q =>
        replace q : ∀ H', Same H0 H' → Q (.bl (labelD a1 && (kindD a2 && (nameD a3 && namesD a4)))) H' := fun H' s' => by
          have z := q H' s'
          rw [row_comes] at z
          exact z
        refine ⟨_, rfl, _, _, _, _, rfl, rfl, hS, rfl, _, _, rfl, h1.odd, fun H1 s1 => ?_⟩
        rw [h1.label]
        cases e1 : labelD a1 with
        | false =>
          rw [e1] at q
          exact ⟨false, rfl, iteF (q _ s1)⟩
        | true =>
        refine ⟨true, rfl, iteT ?_⟩
        have hS1 := hS.same s1
        refine ⟨_, rfl, _, _, _, _, rfl, rfl, hS1, rfl, _, _, rfl, (h2.same s1).odd, ?_⟩
        rw [h2.kind]
        cases e2 : kindD a2 with
        | false =>
          rw [e1, e2] at q
          exact ⟨false, rfl, iteF (q _ s1)⟩
        | true =>
        refine ⟨true, rfl, iteT ?_⟩
        refine ⟨_, rfl, _, _, _, _, rfl, rfl, hS1, rfl, _, _, rfl, (h3.same s1).odd, ?_⟩
        rw [h3.name]
        cases e3 : nameD a3 with
        | false =>
          rw [e1, e2, e3] at q
          exact ⟨false, rfl, iteF (q _ s1)⟩
        | true =>
        refine ⟨true, rfl, iteT ?_⟩
        refine ⟨_, rfl, _, _, _, _, rfl, rfl, hS1, rfl, _, _, rfl, h4.same s1, ok2 a4 (by simp), fun H2 s2 => ?_⟩
        rw [e1, e2, e3] at q
        exact q _ (s1.trans s2)
      · have n4 : ds.length ≠ 4 := fun n => g (decide_eq_true (by rw [List.length_cons, el, n]; rfl))
        rw [row_comes_no n4] at q
        exact q _ (Same.refl _)
    have g1 : z ≠ "comes" := fun y => g1 (decide_eq_true (by rw [y]))
    -- weds
    refine ⟨_, rfl, _, _, _, _, rfl, rfl, hS, a0, rfl, _, rfl, ite2 (fun g => ?_) (fun g2 => ?_)⟩
    · obtain rfl : z = "weds" := V.str.inj (of_decide_eq_true g)
      refine ⟨_, rfl, _, _, rfl, hS.or, rfl, _, rfl, ite2 (fun g => ?_) (fun g => ?_)⟩
      · have g := V.int.inj (of_decide_eq_true g)
        have n4 : ds.length = 2 := by rw [List.length_cons] at g; omega
        match vs, ds, n4, hvs, ok2, q with
        | _, [a1, a2], _, .cons (v := v1) h1 (.cons (v := v2) h2 .nil), ok2, q =>
        replace q : ∀ H', Same H0 H' → Q (.bl (labelD a1 && labelD a2)) H' := fun H' s' => by
          have z := q H' s'
          rw [row_weds] at z
          exact z
        refine ⟨_, rfl, _, _, _, _, rfl, rfl, hS, rfl, _, _, rfl, h1.odd, fun H1 s1 => ?_⟩
        rw [h1.label]
        cases e1 : labelD a1 with
        | false =>
          rw [e1] at q
          exact ⟨false, rfl, iteF (q _ s1)⟩
        | true =>
        refine ⟨true, rfl, iteT ?_⟩
        refine ⟨_, rfl, _, _, _, _, rfl, rfl, hS.same s1, rfl, _, _, rfl, (h2.same s1).odd, fun H2 s2 => ?_⟩
        rw [h2.label]
        rw [e1] at q
        exact q _ (s1.trans s2)
      · have n4 : ds.length ≠ 2 := fun n => g (decide_eq_true (by rw [List.length_cons, el, n]; rfl))
        rw [row_weds_no n4] at q
        exact q _ (Same.refl _)
    have g2 : z ≠ "weds" := fun y => g2 (decide_eq_true (by rw [y]))
    -- born
    refine ⟨_, rfl, _, _, _, _, rfl, rfl, hS, a0, rfl, _, rfl, ite2 (fun g => ?_) (fun g3 => ?_)⟩
    · obtain rfl : z = "born" := V.str.inj (of_decide_eq_true g)
      refine ⟨_, rfl, _, _, rfl, hS.or, rfl, _, rfl, ite2 (fun g => ?_) (fun g => ?_)⟩
      · have g := V.int.inj (of_decide_eq_true g)
        have n4 : ds.length = 5 := by rw [List.length_cons] at g; omega
        match vs, ds, n4, hvs, ok2, q with
        | _, [a1, a2, a3, a4, a5], _, .cons (v := v1) h1 (.cons (v := v2) h2 (.cons (v := v3) h3 (.cons (v := v4) h4 (.cons (v := v5) h5 .nil)))), ok2, q =>
        replace q : ∀ H', Same H0 H' → Q (.bl ((labelD a1 && (labelD a2 && labelD a4)) && (kindD a3 && nameD a5))) H' := fun H' s' => by
          have z := q H' s'
          rw [row_born] at z
          exact z
        refine ⟨_, rfl, _, _, _, _, rfl, rfl, hS, rfl, _, _, rfl, h1.odd, fun H1 s1 => ?_⟩
        rw [h1.label]
        cases e1 : labelD a1 with
        | false =>
          rw [e1] at q
          exact ⟨false, rfl, iteF ⟨_, rfl, _, rfl, iteF (q _ s1)⟩⟩
        | true =>
        refine ⟨true, rfl, iteT ?_⟩
        have hS1 := hS.same s1
        refine ⟨_, rfl, _, _, _, _, rfl, rfl, hS1, rfl, _, _, rfl, (h2.same s1).odd, fun H2 s2 => ?_⟩
        have s12 := s1.trans s2
        rw [h2.label]
        cases e2 : labelD a2 with
        | false =>
          rw [e1, e2] at q
          exact ⟨false, rfl, iteF ⟨_, rfl, _, rfl, iteF (q _ s12)⟩⟩
        | true =>
        refine ⟨true, rfl, iteT ?_⟩
        refine ⟨_, rfl, _, _, _, _, rfl, rfl, hS.same s12, rfl, _, _, rfl, (h4.same s12).odd, fun H3 s3 => ?_⟩
        have s13 := s12.trans s3
        rw [h4.label]
        cases e4 : labelD a4 with
        | false =>
          rw [e1, e2, e4] at q
          exact ⟨_, rfl, _, rfl, iteF (q _ s13)⟩
        | true =>
        refine ⟨_, rfl, _, rfl, iteT ?_⟩
        refine ⟨_, rfl, _, _, _, _, rfl, rfl, hS.same s13, rfl, _, _, rfl, (h3.same s13).odd, ?_⟩
        rw [h3.kind]
        cases e3 : kindD a3 with
        | false =>
          rw [e1, e2, e4, e3] at q
          exact ⟨false, rfl, iteF (q _ s13)⟩
        | true =>
        refine ⟨true, rfl, iteT ?_⟩
        refine ⟨_, rfl, _, _, _, _, rfl, rfl, hS.same s13, rfl, _, _, rfl, (h5.same s13).odd, ?_⟩
        rw [h5.name]
        rw [e1, e2, e4, e3] at q
        exact q _ s13
      · have n4 : ds.length ≠ 5 := fun n => g (decide_eq_true (by rw [List.length_cons, el, n]; rfl))
        rw [row_born_no n4] at q
        exact ⟨_, rfl, _, rfl, iteF (q _ (Same.refl _))⟩
    have g3 : z ≠ "born" := fun y => g3 (decide_eq_true (by rw [y]))
    -- dies
    refine ⟨_, rfl, _, _, _, _, rfl, rfl, hS, a0, rfl, _, rfl, ite2 (fun g => ?_) (fun g4 => ?_)⟩
    · obtain rfl : z = "dies" := V.str.inj (of_decide_eq_true g)
      refine ⟨_, rfl, _, _, rfl, hS.or, rfl, _, rfl, ite2 (fun g => ?_) (fun g => ?_)⟩
      · have g := V.int.inj (of_decide_eq_true g)
        have n4 : ds.length = 1 := by rw [List.length_cons] at g; omega
        match vs, ds, n4, hvs, ok2, q with
        | _, [a1], _, .cons (v := v1) h1 .nil, ok2, q =>
        replace q : ∀ H', Same H0 H' → Q (.bl (labelD a1)) H' := fun H' s' => by
          have z := q H' s'
          rw [row_dies] at z
          exact z
        refine ⟨_, rfl, _, _, _, _, rfl, rfl, hS, rfl, _, _, rfl, h1.odd, fun H1 s1 => ?_⟩
        rw [h1.label]
        exact q _ s1
      · have n4 : ds.length ≠ 1 := fun n => g (decide_eq_true (by rw [List.length_cons, el, n]; rfl))
        rw [row_dies_no n4] at q
        exact q _ (Same.refl _)
    · have g4 : z ≠ "dies" := fun y => g4 (decide_eq_true (by rw [y]))
      rw [row_other g1 g2 g3 g4] at q
      exact q _ (Same.refl _)
end
end K04

/-! the book as plain lists; its making -/
namespace K04
open PySem PySem.Spec PyProof.Rows L2
structure Bk where
  kinds : List (Str × Str)
  dead : List Str
  now : List (Str × Str)
  pairs : List (Str × Str)
abbrev Bk.new : Bk := ⟨[], [], [], []⟩
def look (l : List (Str × Str)) (x : Str) : Option Str := (l.find? fun p => decide (p.1 = x)).map (·.2)
def encK (l : List (Str × Str)) : List (Key × V) := l.map fun p => (Sum.inr p.1, V.str p.2)
def keyT (p : Str × Str) : List Key := [Sum.inr p.1, Sum.inr p.2]
theorem valV_enc (l : List (Str × Str)) (x : Str) : valV (encK l) (Sum.inr x) = (look l x).map V.str := by
  induction l with
  | nil => rfl
  | cons p l ih =>
    unfold valV look encK at ih ⊢
    rw [List.map_cons, List.find?_cons, List.find?_cons]
    by_cases h : p.1 = x
    · rw [decide_eq_true (show (Sum.inr p.1 : Key) = Sum.inr x by rw [h]), decide_eq_true h]
      rfl
    · rw [decide_eq_false (show ¬ (Sum.inr p.1 : Key) = Sum.inr x from fun e => h (Sum.inr.inj e)), decide_eq_false h]
      exact ih
theorem valV_keys {κ : Type} [DecidableEq κ] (kvs : List (κ × V)) (k : κ) : (valV kvs k).isSome = decide (k ∈ kvs.map (·.1)) := by
  induction kvs with
  | nil => rfl
  | cons p l ih =>
    unfold valV at ih ⊢
    rw [List.find?_cons]
    by_cases h : p.1 = k
    · rw [decide_eq_true h, decide_eq_true (show k ∈ (p :: l).map (·.1) by rw [List.map_cons, h]; exact List.mem_cons_self)]
      rfl
    · rw [decide_eq_false h]
      rw [show decide (k ∈ (p :: l).map (·.1)) = decide (k ∈ l.map (·.1)) from decide_eq_decide.mpr ⟨fun z => (List.mem_cons.mp z).elim (fun e => absurd e.symm h) id, fun z => List.mem_cons_of_mem _ z⟩]
      exact ih
theorem valV_in {κ : Type} [DecidableEq κ] {kvs : List (κ × V)} {k : κ} (h : k ∈ kvs.map (·.1)) : (valV kvs k).isSome = true := by rw [valV_keys]; exact decide_eq_true h
theorem valV_out {κ : Type} [DecidableEq κ] {kvs : List (κ × V)} {k : κ} (h : (valV kvs k).isSome = true) : k ∈ kvs.map (·.1) := by rw [valV_keys] at h; exact of_decide_eq_true h
theorem put_enc {l : List (Str × Str)} {x : Str} (k : Str) (h : look l x = none) : putK (encK l) (Sum.inr x) (.str k) = encK (l ++ [(x, k)]) := by
  rw [putK_new _ (by rw [valV_enc, h]; rfl)]
  unfold encK
  rw [List.map_append]
  rfl
theorem drop_enc (l : List (Str × Str)) (x : Str) : dropK (encK l) (Sum.inr x) = encK (l.filter fun p => decide (p.1 ≠ x)) := by
  unfold dropK encK
  rw [List.filter_map]
  congr 1
  refine List.filter_congr fun p _ => ?_
  show decide ((Sum.inr p.1 : Key) ≠ Sum.inr x) = decide (p.1 ≠ x)
  exact decide_eq_decide.mpr ⟨fun h e => h (by rw [e]), fun h e => h (Sum.inr.inj e)⟩
theorem put_keys {κ : Type} [DecidableEq κ] (kvs : List (κ × V)) (k : κ) (v : V) : (putK kvs k v).map (·.1) = if k ∈ kvs.map (·.1) then kvs.map (·.1) else kvs.map (·.1) ++ [k] := by
  by_cases h : k ∈ kvs.map (·.1)
  · rw [if_pos h]
    have e : (valV kvs k).isSome = true := by rw [valV_keys, decide_eq_true h]
    have hany : kvs.any (fun kv => decide (kv.1 = k)) = true := by
      obtain ⟨kv, hkv, ek⟩ := List.mem_map.mp h
      exact List.any_eq_true.mpr ⟨kv, hkv, decide_eq_true ek⟩
    unfold putK
    rw [if_pos hany, List.map_map]
    refine List.map_congr_left fun kv _ => ?_
    show (if kv.1 = k then (kv.1, v) else kv).1 = kv.1
    by_cases h2 : kv.1 = k
    · rw [if_pos h2]
    · rw [if_neg h2]
  · rw [if_neg h, putK_new _ (by
      cases e : valV kvs k with
      | none => rfl
      | some z =>
        have y := valV_keys kvs k
        rw [e, decide_eq_false h] at y
        cases y), List.map_append]
    rfl
theorem put_mem {κ : Type} [DecidableEq κ] {kvs : List (κ × V)} {k : κ} {v : V} {kv : κ × V} (h : kv ∈ putK kvs k v) : kv ∈ kvs ∨ kv.2 = v := by
  unfold putK at h
  split at h
  · obtain ⟨y, hy, e⟩ := List.mem_map.mp h
    by_cases h2 : y.1 = k
    · rw [if_pos h2] at e
      exact .inr (by rw [← e])
    · rw [if_neg h2] at e
      exact .inl (e ▸ hy)
  · rcases List.mem_append.mp h with h | h
    · exact .inl h
    · rw [List.mem_singleton] at h
      exact .inr (by rw [h])
theorem valV_put {κ : Type} [DecidableEq κ] (kvs : List (κ × V)) (k j : κ) (v : V) : ((valV (putK kvs k v) j).isSome = true) ↔ ((valV kvs j).isSome = true ∨ j = k) := by
  rw [valV_keys, valV_keys, put_keys]
  by_cases h : k ∈ kvs.map (·.1)
  · rw [if_pos h]
    refine ⟨fun z => .inl z, fun z => z.elim id fun e => decide_eq_true (e ▸ h)⟩
  · rw [if_neg h]
    refine ⟨fun z => ?_, fun z => decide_eq_true (List.mem_append.mpr ?_)⟩
    · rcases List.mem_append.mp (of_decide_eq_true z) with y | y
      · exact .inl (decide_eq_true y)
      · exact .inr (List.mem_singleton.mp y)
    · exact z.elim (fun y => .inl (of_decide_eq_true y)) fun e => .inr (List.mem_singleton.mpr e)
theorem valV_mem {κ : Type} [DecidableEq κ] {kvs : List (κ × V)} {k : κ} {v : V} (h : valV kvs k = some v) : ∃ kv ∈ kvs, kv.2 = v := by
  unfold valV at h
  cases e : kvs.find? fun kv => decide (kv.1 = k) with
  | none => rw [e] at h; cases h
  | some kv =>
    rw [e] at h
    exact ⟨kv, List.mem_of_find?_eq_some e, Option.some.inj h⟩
abbrev sBInit : Stmt := inClass (top 17) 0
abbrev sBCouple : Stmt := inClass (top 17) 1
abbrev sBWrite : Stmt := inClass (top 17) 2
abbrev sBBring : Stmt := inClass (top 17) 3
abbrev sBWed : Stmt := inClass (top 17) 4
abbrev sBBury : Stmt := inClass (top 17) 5
/-- the class of books -/
structure BookC (K : PySem.W.Frag) (CB : Addr) : Prop where
  cl : Cls K CB
  nKinds : NoAttr K CB "kinds"
  nParents : NoAttr K CB "parents"
  nRows : NoAttr K CB "row_numbers"
  nDead : NoAttr K CB "dead"
  nNow : NoAttr K CB "mate_now"
  nAll : NoAttr K CB "all_mates"
  nKids : NoAttr K CB "children"
/-- where its dicts stand -/
structure Ads where
  (k p r d m a c : Addr)
abbrev Ads.fs (A : Ads) : List (Str × V) := [("kinds", .ref A.k), ("parents", .ref A.p), ("row_numbers", .ref A.r), ("dead", .ref A.d), ("mate_now", .ref A.m), ("all_mates", .ref A.a), ("children", .ref A.c)]
/-- the values are lists, new ones -/
def Lsts {κ : Type} (n : Nat) (H0 H : Hp) (kvs : List (κ × V)) : Prop := ∀ kv ∈ kvs, ∃ (l : Addr) (xs : List V), kv.2 = .ref l ∧ H l = some (.lst xs) ∧ xs.length ≤ n ∧ H0 l = none
theorem Lsts.mono {κ : Type} {n m : Nat} {H0 H H' : Hp} {kvs : List (κ × V)} (h : Lsts n H0 H kvs) (hn : n ≤ m) (k : ∀ l xs, H l = some (.lst xs) → H0 l = none → ∃ ys, H' l = some (.lst ys) ∧ ys.length + n ≤ xs.length + m) : Lsts m H0 H' kvs := fun kv hkv => by
  obtain ⟨l, xs, e1, e2, e3, e4⟩ := h kv hkv
  obtain ⟨ys, y1, y2⟩ := k l xs e2 e4
  exact ⟨l, ys, e1, y1, by omega, e4⟩
/-- at b stands a book of B -/
structure BkAt (CB : Addr) (B : Bk) (n : Nat) (H0 H : Hp) (b dx : Addr) (A : Ads) : Prop where
  hb : H b = some (.ins CB dx A.fs)
  hk : H A.k = some (.dK (encK B.kinds))
  hp : ∃ ps, H A.p = some (.dK ps) ∧ ps.length ≤ n
  hr : ∃ rs, H A.r = some (.dK rs) ∧ rs.length ≤ n
  hd : ∃ ds, H A.d = some (.dK ds) ∧ ds.map (·.1) = B.dead.map Sum.inr ∧ ds.length ≤ n
  hm : H A.m = some (.dK (encK B.now))
  ha : ∃ as, H A.a = some (.dK as) ∧ (∀ x, (look B.kinds x).isSome = true → (valV as (Sum.inr x)).isSome = true) ∧ Lsts n H0 H as ∧ as.length ≤ n
  hc : ∃ cs, H A.c = some (.dT cs) ∧ cs.map (·.1) = B.pairs.map keyT ∧ Lsts n H0 H cs ∧ cs.length ≤ n
  nd : [A.k, A.p, A.r, A.d, A.m, A.a].Nodup
  n0 : ∀ x ∈ [A.k, A.p, A.r, A.d, A.m, A.a, A.c], H0 x = none
  sm : Same H0 H
  lk : B.kinds.length ≤ n
  lm : B.now.length ≤ n
theorem BkAt.same {CB : Addr} {B : Bk} {n m : Nat} {H0 H H' : Hp} {b dx : Addr} {A : Ads} (h : BkAt CB B n H0 H b dx A) (s : Same H H') (hn : n ≤ m) : BkAt CB B m H0 H' b dx A := by
  obtain ⟨hb, hk, ⟨ps, p1, p2⟩, ⟨rs, r1, r2⟩, ⟨ds, d1, d2, d3⟩, hm, ⟨as, a1, a2, a3, a4⟩, ⟨cs, c1, c2, c3, c4⟩, nd, n0, sm, lk, lm⟩ := h
  exact ⟨s _ _ hb, s _ _ hk, ⟨ps, s _ _ p1, Nat.le_trans p2 hn⟩, ⟨rs, s _ _ r1, Nat.le_trans r2 hn⟩, ⟨ds, s _ _ d1, d2, Nat.le_trans d3 hn⟩, s _ _ hm, ⟨as, s _ _ a1, a2, a3.mono hn (fun l xs e _ => ⟨xs, s _ _ e, by omega⟩), Nat.le_trans a4 hn⟩,
    ⟨cs, s _ _ c1, c2, c3.mono hn (fun l xs e _ => ⟨xs, s _ _ e, by omega⟩), Nat.le_trans c4 hn⟩, nd, n0, sm.trans s, Nat.le_trans lk hn, Nat.le_trans lm hn⟩
def Ini (H0 H : Hp) (b CB dx : Addr) (fs : List (Str × V)) (as : List Addr) : Prop :=
  H b = some (.ins CB dx fs) ∧ as.Nodup ∧ (∀ x ∈ as, H x = some (.dK []) ∧ H0 x = none) ∧ ∀ x o, H0 x = some o → x ≠ b → H x = some o
theorem Ini.put {H0 H : Hp} {b CB dx p : Addr} {fs fs' : List (Str × V)} {as : List Addr} (I : Ini H0 H b CB dx fs as) (np : H p = none) : Ini H0 (upd (upd H p (.dK [])) b (.ins CB dx fs')) b CB dx fs' (as ++ [p]) := by
  obtain ⟨h1, h2, h3, h4⟩ := I
  have npb : p ≠ b := Ne.symm (ne_of_none h1 np)
  refine ⟨upd_same, List.nodup_append.mpr ⟨h2, List.nodup_cons.mpr ⟨by simp, List.nodup_nil⟩, fun x hx y hy e => ?_⟩, fun x hx => ?_, fun x o e ne => ?_⟩
  · rw [List.mem_singleton] at hy
    subst hy
    subst e
    rw [(h3 _ hx).1] at np
    cases np
  · rcases List.mem_append.mp hx with h | h
    · obtain ⟨e, e0⟩ := h3 x h
      refine ⟨?_, e0⟩
      rw [upd_ne (ne_of e h1 (by intro z; cases z)), upd_ne (ne_of_none e np)]
      exact e
    · rw [List.mem_singleton] at h
      subst h
      refine ⟨by rw [upd_ne npb, upd_same], ?_⟩
      cases e : H0 x with
      | none => rfl
      | some o =>
        rw [h4 x o e npb] at np
        cases np
  · rw [upd_ne ne, upd_ne (ne_of_none (h4 x o e ne) np)]
    exact h4 x o e ne
theorem Ini.at_ {H0 H : Hp} {b CB dx p : Addr} {fs : List (Str × V)} {as : List Addr} {u : HO} (I : Ini H0 H b CB dx fs as) (np : H p = none) : upd H p u b = some (.ins CB dx fs) := by
  rw [upd_ne (ne_of_none I.1 np)]
  exact I.1
theorem none_of {H H' : Hp} {y : Addr} (s : Same H H') (h : H' y = none) : H y = none := by
  cases e : H y with
  | none => rfl
  | some o =>
    rw [s y o e] at h
    cases h
def spBInit (CB : Addr) : Sp := fun vs H Q _ => ∃ (b dx : Addr) (H0 : Hp), vs = [.ref b] ∧ H b = some (.ins CB dx []) ∧ H0 b = none ∧ Same H0 H ∧ ∀ (H' : Hp) (A : Ads), BkAt CB Bk.new 0 H0 H' b dx A → Q .non H'
section
variable {P : Program} {w : World} {K : PySem.W.Frag} {mg : Str → Option Value} {base : Heap}
theorem scBInit : FnScope ["self"] ["self"] (defScope sBInit) := ⟨rfl, rfl, rfl, by decide +kernel, rfl, by decide +kernel, by decide +kernel⟩
theorem ok_binit {f CB : Addr} {fd : FuncData} (F : FunD K "__init__" "Book.__init__" (defArgs sBInit) (defBody sBInit) (defScope sBInit) [] [] f fd) (T : BookC K CB) : FnOk P w K mg base CX0 1 f fd ["self"] (spBInit CB) := by
  refine F.ok scBInit (fun vs H Q E h => ?_) (fun cdv A outer s H vs Q E hr h => ?_)
  · obtain ⟨b, dx, H0, rfl, _⟩ := h
    rfl
  · obtain ⟨b, dx, H0, rfl, hb, nb0, s0, q⟩ := h
    refine ⟨_, PSs.nox (pss_cons (ps_fld (pv 0) pe_dnewK rfl) (pss_cons (ps_fld (pv 0) pe_dnewK rfl) (pss_cons (ps_fld (pv 0) pe_dnewK rfl) (pss_cons (ps_fld (pv 0) pe_dnewK rfl) (pss_cons (ps_fld (pv 0) pe_dnewK rfl) (pss_cons (ps_fld (pv 0) pe_dnewK rfl) (pss_one (ps_fld (pv 0) pe_dnewT rfl)))))))), ?_⟩
    have I0 : Ini H H b CB dx [] [] := ⟨hb, List.nodup_nil, (fun _ h => by cases h), fun _ _ e _ => e⟩
    intro k nk
    have I1 := I0.put (fs' := putF "kinds" (.ref k) []) nk
    refine ⟨_, rfl, b, CB, dx, _, rfl, I0.at_ nk, T.cl, T.nKinds, by decide, ?_⟩
    intro p np
    have I2 := I1.put (fs' := putF "parents" (.ref p) (putF "kinds" (.ref k) [])) np
    refine ⟨_, rfl, b, CB, dx, _, rfl, I1.at_ np, T.cl, T.nParents, (show 1 < 1000 by decide), ?_⟩
    intro r nr
    have I3 := I2.put (fs' := putF "row_numbers" (.ref r) (putF "parents" (.ref p) (putF "kinds" (.ref k) []))) nr
    refine ⟨_, rfl, b, CB, dx, _, rfl, I2.at_ nr, T.cl, T.nRows, (show 2 < 1000 by decide), ?_⟩
    intro d nd
    have I4 := I3.put (fs' := putF "dead" (.ref d) (putF "row_numbers" (.ref r) (putF "parents" (.ref p) (putF "kinds" (.ref k) [])))) nd
    refine ⟨_, rfl, b, CB, dx, _, rfl, I3.at_ nd, T.cl, T.nDead, (show 3 < 1000 by decide), ?_⟩
    intro m nm
    have I5 := I4.put (fs' := putF "mate_now" (.ref m) (putF "dead" (.ref d) (putF "row_numbers" (.ref r) (putF "parents" (.ref p) (putF "kinds" (.ref k) []))))) nm
    refine ⟨_, rfl, b, CB, dx, _, rfl, I4.at_ nm, T.cl, T.nNow, (show 4 < 1000 by decide), ?_⟩
    intro a na
    have I6 := I5.put (fs' := putF "all_mates" (.ref a) (putF "mate_now" (.ref m) (putF "dead" (.ref d) (putF "row_numbers" (.ref r) (putF "parents" (.ref p) (putF "kinds" (.ref k) [])))))) na
    refine ⟨_, rfl, b, CB, dx, _, rfl, I5.at_ na, T.cl, T.nAll, (show 5 < 1000 by decide), ?_⟩
    intro c nc
    refine ⟨_, rfl, b, CB, dx, _, rfl, I6.at_ nc, T.cl, T.nKids, (show 6 < 1000 by decide), ?_⟩
    obtain ⟨h1, h2, h3, h4⟩ := I6
    have ncb : c ≠ b := Ne.symm (ne_of_none h1 nc)
    generalize upd (upd _ a (.dK [])) b (.ins CB dx (putF "all_mates" (.ref a) (putF "mate_now" (.ref m) (putF "dead" (.ref d) (putF "row_numbers" (.ref r) (putF "parents" (.ref p) (putF "kinds" (.ref k) []))))))) = H6 at h1 h3 h4 nc
    have st : ∀ {z : Addr} {o : HO}, z ≠ b → H6 z = some o → upd (upd H6 c (.dT [])) b (.ins CB dx (Ads.fs ⟨k, p, r, d, m, a, c⟩)) z = some o := fun {z o} n e => by
      rw [upd_ne n, upd_ne (ne_of_none e nc)]
      exact e
    have hn : ∀ x ∈ ([] : List Addr) ++ [k] ++ [p] ++ [r] ++ [d] ++ [m] ++ [a], H0 x = none := fun x hx => none_of s0 (h3 x hx).2
    have ne6 : ∀ x ∈ ([] : List Addr) ++ [k] ++ [p] ++ [r] ++ [d] ++ [m] ++ [a], x ≠ b := fun x hx e => by
      have z := (h3 x hx).1
      rw [e, h1] at z
      cases z
    have g : ∀ x ∈ ([] : List Addr) ++ [k] ++ [p] ++ [r] ++ [d] ++ [m] ++ [a], upd (upd H6 c (.dT [])) b (.ins CB dx (Ads.fs ⟨k, p, r, d, m, a, c⟩)) x = some (.dK []) := fun x hx => st (ne6 x hx) (h3 x hx).1
    have c0 : H0 c = none := by
      cases e : H0 c with
      | none => rfl
      | some o =>
        rw [h4 c o (s0 _ _ e) ncb] at nc
        cases nc
    refine q _ ⟨k, p, r, d, m, a, c⟩ ⟨upd_same, g k (by simp), ⟨[], g p (by simp), Nat.le_refl _⟩, ⟨[], g r (by simp), Nat.le_refl _⟩, ⟨[], g d (by simp), rfl, Nat.le_refl _⟩, g m (by simp), ⟨[], g a (by simp), (fun x hx => by cases hx), (fun kv h => by cases h), Nat.le_refl _⟩,
      ⟨[], (upd_ne ncb).trans upd_same, rfl, (fun kv h => by cases h), Nat.le_refl _⟩, h2, fun x hx => ?_, fun x o e => st (fun y => by rw [y, nb0] at e; cases e) (h4 _ _ (s0 _ _ e) (fun y => by rw [y, nb0] at e; cases e)), Nat.le_refl _, Nat.le_refl _⟩
    simp only [List.mem_cons, List.not_mem_nil, or_false] at hx
    rcases hx with rfl | rfl | rfl | rfl | rfl | rfl | rfl
    · exact hn _ (by simp)
    · exact hn _ (by simp)
    · exact hn _ (by simp)
    · exact hn _ (by simp)
    · exact hn _ (by simp)
    · exact hn _ (by simp)
    · exact c0
end
end K04

/-! a row judged by a book, and written; what a change leaves of a book -/
namespace K04
open PySem PySem.Spec PyProof.Rows L2
def coupleB (B : Bk) (f m : Str) : Bool := decide ((f, m) ∈ B.pairs) && decide (look B.now f = some m)
def lacks (B : Bk) (x : Str) : Bool := (look B.kinds x).isNone
abbrev sonK : Str := "s"
abbrev dauK : Str := "d"
def jPc (B : Bk) (wd : Int) (l : Str) (hs : List Int) : Option Str := if lacks B l = true then (if (hs.length : Int) = wd then none else some ("width" : Str)) else some ("label" : Str)
def jPw (B : Bk) (f m : Str) : Option Str := if (lacks B f || lacks B m) = true then some ("person" : Str) else if look B.kinds f ≠ some sonK ∨ look B.kinds m ≠ some dauK then some ("kind" : Str) else if f ∈ B.dead ∨ m ∈ B.dead then some ("dead" : Str) else if ((look B.now f).isSome || (look B.now m).isSome) = true then some ("wed" : Str) else none
def jPb (B : Bk) (f m l : Str) : Option Str := if (lacks B f || lacks B m) = true then some ("person" : Str) else if coupleB B f m = true then (if lacks B l = true then none else some ("label" : Str)) else some ("couple" : Str)
def jPd (B : Bk) (l : Str) : Option Str := if lacks B l = true then some ("person" : Str) else if l ∈ B.dead then some ("dead" : Str) else none
def jP (B : Bk) (wd : Int) : Rw → Option Str
  | .comes l _ _ hs => jPc B wd l hs
  | .weds f m => jPw B f m
  | .born f m _ l _ => jPb B f m l
  | .dies l => jPd B l
def without (l : List (Str × Str)) (x : Str) : List (Str × Str) := l.filter fun p => decide (p.1 ≠ x)
def wP (B : Bk) : Rw → Bk
  | .comes l k _ _ => { B with kinds := B.kinds ++ [(l, k)] }
  | .weds f m => { B with pairs := if (f, m) ∈ B.pairs then B.pairs else B.pairs ++ [(f, m)], now := B.now ++ [(f, m)] ++ [(m, f)] }
  | .born _ _ k l _ => { B with kinds := B.kinds ++ [(l, k)] }
  | .dies l => { B with dead := B.dead ++ [l], now := match look B.now l with
    | none => B.now
    | some y => without (without B.now y) l }
/-- mates are mates of one another -/
structure BkOk (B : Bk) : Prop where
  sym : ∀ x y, look B.now x = some y → look B.now y = some x
  ne : ∀ x y, look B.now x = some y → x ≠ y
theorem look_app {l : List (Str × Str)} {x k y : Str} : look (l ++ [(x, k)]) y = match look l y with | some z => some z | none => if x = y then some k else none := by
  unfold look
  rw [List.find?_append]
  cases e : l.find? fun p => decide (p.1 = y) with
  | some p => rfl
  | none =>
    show ((none : Option (Str × Str)).or ([(x, k)].find? fun p => decide (p.1 = y))).map (·.2) = _
    rw [Option.none_or, List.find?_cons]
    by_cases h : x = y
    · rw [decide_eq_true (show ((x, k) : Str × Str).1 = y from h), if_pos h]
      rfl
    · rw [decide_eq_false (show ¬ ((x, k) : Str × Str).1 = y from h), if_neg h]
      rfl
theorem look_without {l : List (Str × Str)} {x y : Str} : look (without l x) y = if y = x then none else look l y := by
  induction l with
  | nil => by_cases h : y = x <;> simp [look, without, h]
  | cons p l ih =>
    unfold look without at ih ⊢
    rw [List.filter_cons]
    by_cases h : p.1 = x
    · rw [if_neg (by simp [h]), ih]
      by_cases h2 : y = x
      · rw [if_pos h2, if_pos h2]
      · rw [if_neg h2, if_neg h2, List.find?_cons, decide_eq_false (fun e => h2 (e.symm.trans h))]
    · rw [if_pos (by simp [h]), List.find?_cons, List.find?_cons]
      by_cases h3 : p.1 = y
      · rw [decide_eq_true h3, if_neg (fun e => h (h3.trans e))]
      · rw [decide_eq_false h3]
        exact ih
theorem BkOk.new : BkOk Bk.new := ⟨(fun x y h => by cases h), (fun x y h => by cases h)⟩
theorem jP_weds {B : Bk} {wd : Int} {f m : Str} (h : jP B wd (.weds f m) = none) : (∃ a, look B.kinds f = some a) ∧ (∃ a, look B.kinds m = some a) ∧ look B.kinds f = some sonK ∧ look B.kinds m = some dauK ∧ ¬ f ∈ B.dead ∧ ¬ m ∈ B.dead ∧ look B.now f = none ∧ look B.now m = none ∧ f ≠ m := by
  replace h : jPw B f m = none := h
  unfold jPw at h
  split at h
  · cases h
  · split at h
    · cases h
    · split at h
      · cases h
      · split at h
        · cases h
        · rename_i h2 h3 h4
          have h2a : look B.kinds f = some sonK := Decidable.byContradiction fun z => h2 (.inl z)
          have h2b : look B.kinds m = some dauK := Decidable.byContradiction fun z => h2 (.inr z)
          refine ⟨⟨_, h2a⟩, ⟨_, h2b⟩, h2a, h2b, fun z => h3 (.inl z), fun z => h3 (.inr z), ?_, ?_, fun e => ?_⟩
          · cases e : look B.now f with
            | none => rfl
            | some z => rw [e] at h4; exact absurd rfl h4
          · cases e : look B.now m with
            | none => rfl
            | some z => rw [e, Bool.or_comm] at h4; exact absurd rfl h4
          · rw [e, h2b] at h2a
            exact absurd h2a (by decide)
theorem jP_born {B : Bk} {wd : Int} {f m k l : Str} {n : Int} (h : jP B wd (.born f m k l n) = none) : (f, m) ∈ B.pairs ∧ look B.now f = some m ∧ look B.kinds l = none := by
  replace h : jPb B f m l = none := h
  unfold jPb at h
  split at h
  · cases h
  · split at h
    · split at h
      · rename_i h1 h2 h3
        obtain ⟨a, b⟩ := Bool.and_eq_true_iff.mp (show (decide ((f, m) ∈ B.pairs) && decide (look B.now f = some m)) = true from h2)
        exact ⟨of_decide_eq_true a, of_decide_eq_true b, Option.isNone_iff_eq_none.mp h3⟩
      · cases h
    · cases h
theorem jP_comes {B : Bk} {wd : Int} {k l : Str} {n : Int} {hs : List Int} (h : jP B wd (.comes l k n hs) = none) : look B.kinds l = none ∧ (hs.length : Int) = wd := by
  replace h : jPc B wd l hs = none := h
  unfold jPc at h
  split at h
  · split at h
    · rename_i h1 h2
      exact ⟨Option.isNone_iff_eq_none.mp h1, h2⟩
    · cases h
  · cases h
theorem jP_dies {B : Bk} {wd : Int} {l : Str} (h : jP B wd (.dies l) = none) : (∃ a, look B.kinds l = some a) ∧ ¬ l ∈ B.dead := by
  replace h : jPd B l = none := h
  unfold jPd at h
  split at h
  · cases h
  · split at h
    · cases h
    · rename_i h1 h2
      refine ⟨?_, h2⟩
      cases e : look B.kinds l with
      | none =>
        unfold lacks at h1
        rw [e] at h1
        exact absurd rfl h1
      | some a => exact ⟨a, rfl⟩
theorem BkOk.step {B : Bk} {wd : Int} {r : Rw} (o : BkOk B) (h : jP B wd r = none) : BkOk (wP B r) := by
  cases r with
  | comes l k n hs => exact ⟨o.sym, o.ne⟩
  | born f m k l n => exact ⟨o.sym, o.ne⟩
  | weds f m =>
    obtain ⟨_, _, _, _, _, _, nf, nm, fm⟩ := jP_weds h
    have key : ∀ x, look (B.now ++ [(f, m)] ++ [(m, f)]) x = if x = f then some m else if x = m then some f else look B.now x := fun x => by
      rw [look_app, look_app]
      by_cases h1 : x = f
      · rw [h1, nf, if_pos rfl, if_pos rfl]
      · rw [if_neg h1]
        by_cases h2 : x = m
        · rw [h2, nm, if_neg (fun e => fm e), if_pos rfl]
        · rw [if_neg h2]
          cases e : look B.now x with
          | some z => rfl
          | none => rw [if_neg (Ne.symm h1), if_neg (Ne.symm h2)]
    refine ⟨fun x y hx => ?_, fun x y hx => ?_⟩
    · have hx : look (B.now ++ [(f, m)] ++ [(m, f)]) x = some y := hx
      show look (B.now ++ [(f, m)] ++ [(m, f)]) y = some x
      rw [key] at hx ⊢
      by_cases h1 : x = f
      · rw [if_pos h1] at hx
        cases hx
        rw [if_neg (Ne.symm fm), if_pos rfl, h1]
      · rw [if_neg h1] at hx
        by_cases h2 : x = m
        · rw [if_pos h2] at hx
          cases hx
          rw [if_pos rfl, h2]
        · rw [if_neg h2] at hx
          have hy := o.sym x y hx
          rw [if_neg (fun e => by rw [e, nf] at hy; cases hy), if_neg (fun e => by rw [e, nm] at hy; cases hy)]
          exact hy
    · have hx : look (B.now ++ [(f, m)] ++ [(m, f)]) x = some y := hx
      rw [key] at hx
      by_cases h1 : x = f
      · rw [if_pos h1] at hx
        cases hx
        rw [h1]
        exact fm
      · rw [if_neg h1] at hx
        by_cases h2 : x = m
        · rw [if_pos h2] at hx
          cases hx
          exact h1
        · rw [if_neg h2] at hx
          exact o.ne x y hx
  | dies l =>
    cases e : look B.now l with
    | none =>
      have e2 : (wP B (.dies l)).now = B.now := by
        show (match look B.now l with | none => B.now | some y => without (without B.now y) l) = B.now
        rw [e]
      exact ⟨fun x y hx => by rw [e2] at hx ⊢; exact o.sym x y hx, fun x y hx => by rw [e2] at hx; exact o.ne x y hx⟩
    | some z =>
      have e2 : (wP B (.dies l)).now = without (without B.now z) l := by
        show (match look B.now l with | none => B.now | some y => without (without B.now y) l) = _
        rw [e]
      have back := o.sym l z e
      refine ⟨fun x y hx => ?_, fun x y hx => ?_⟩
      · rw [e2, look_without, look_without] at hx ⊢
        by_cases h1 : x = l
        · rw [if_pos h1] at hx; cases hx
        · rw [if_neg h1] at hx
          by_cases h2 : x = z
          · rw [if_pos h2] at hx; cases hx
          · rw [if_neg h2] at hx
            have hy := o.sym x y hx
            rw [if_neg (fun q => by rw [q, e] at hy; exact h2 (Option.some.inj hy).symm), if_neg (fun q => by rw [q, back] at hy; exact h1 (Option.some.inj hy).symm)]
            exact hy
      · rw [e2, look_without, look_without] at hx
        by_cases h1 : x = l
        · rw [if_pos h1] at hx; cases hx
        · rw [if_neg h1] at hx
          by_cases h2 : x = z
          · rw [if_pos h2] at hx; cases hx
          · rw [if_neg h2] at hx
            exact o.ne x y hx
section
variable {CB : Addr} {B : Bk} {n : Nat} {H0 H : Hp} {b dx : Addr} {A : Ads}
theorem upd_same0 {z : Addr} {u : HO} (s : Same H0 H) (z0 : H0 z = none) : Same H0 (upd H z u) := fun y o e => by
  rw [upd_ne (fun q => by rw [q, z0] at e; cases e)]
  exact s _ _ e
/-- a list of its own grows by one -/
theorem BkAt.app (h : BkAt CB B n H0 H b dx A) {l : Addr} {xs : List V} (v : V) (e : H l = some (.lst xs)) (l0 : H0 l = none) : BkAt CB B (n + 1) H0 (upd H l (.lst (xs ++ [v]))) b dx A := by
  obtain ⟨hb, hk, ⟨ps, p1, p2⟩, ⟨rs, r1, r2⟩, ⟨ds, d1, d2, d3⟩, hm, ⟨as, a1, a2, a3, a4⟩, ⟨cs, c1, c2, c3, c4⟩, nd, n0, sm, lk, lm⟩ := h
  have st : ∀ {y : Addr} {o : HO}, H y = some o → (∀ zs, o ≠ .lst zs) → upd H l (.lst (xs ++ [v])) y = some o := fun {y o} ey ne => (upd_ne (ne_of ey e (ne xs))).trans ey
  have ls : ∀ (l' : Addr) (ys : List V), H l' = some (.lst ys) → H0 l' = none → ∃ zs, upd H l (.lst (xs ++ [v])) l' = some (.lst zs) ∧ zs.length + n ≤ ys.length + (n + 1) := fun l' ys el _ => by
    by_cases q : l' = l
    · rw [q] at el ⊢
      cases el.symm.trans e
      exact ⟨_, upd_same, by rw [List.length_append]; simp; omega⟩
    · exact ⟨ys, (upd_ne q).trans el, by omega⟩
  have no : ∀ {o : HO}, (∀ zs, o ≠ .lst zs) → (∀ zs, o ≠ .lst zs) := fun h => h
  exact ⟨st hb (fun _ z => by cases z), st hk (fun _ z => by cases z), ⟨ps, st p1 (fun _ z => by cases z), by omega⟩, ⟨rs, st r1 (fun _ z => by cases z), by omega⟩, ⟨ds, st d1 (fun _ z => by cases z), d2, by omega⟩, st hm (fun _ z => by cases z),
    ⟨as, st a1 (fun _ z => by cases z), a2, a3.mono (Nat.le_succ n) ls, by omega⟩, ⟨cs, st c1 (fun _ z => by cases z), c2, c3.mono (Nat.le_succ n) ls, by omega⟩, nd, n0, upd_same0 sm l0, by omega, by omega⟩
theorem Lsts.upd_dic {κ : Type} {m : Nat} {kvs : List (κ × V)} {z : Addr} {u w : HO} (h : Lsts n H0 H kvs) (hn : n ≤ m) (e : H z = some u) (nu : ∀ zs, u ≠ .lst zs) : Lsts m H0 (upd H z w) kvs :=
  h.mono hn fun l xs el _ => ⟨xs, (upd_ne (ne_of el e (fun q => nu xs q.symm))).trans el, by omega⟩
theorem BkAt.nds (h : BkAt CB B n H0 H b dx A) : (A.k ≠ A.p ∧ A.k ≠ A.r ∧ A.k ≠ A.d ∧ A.k ≠ A.m ∧ A.k ≠ A.a) ∧ (A.p ≠ A.r ∧ A.p ≠ A.d ∧ A.p ≠ A.m ∧ A.p ≠ A.a) ∧ (A.r ≠ A.d ∧ A.r ≠ A.m ∧ A.r ≠ A.a) ∧ (A.d ≠ A.m ∧ A.d ≠ A.a) ∧ A.m ≠ A.a := by
  have nd := h.nd
  simp only [List.nodup_cons, List.mem_cons, List.not_mem_nil, not_or, or_false] at nd
  obtain ⟨h1, h2, h3, h4, h5, _⟩ := nd
  exact ⟨h1, h2, h3, h4, h5⟩
theorem BkAt.cne (h : BkAt CB B n H0 H b dx A) : A.k ≠ A.c ∧ A.p ≠ A.c ∧ A.r ≠ A.c ∧ A.d ≠ A.c ∧ A.m ≠ A.c ∧ A.a ≠ A.c ∧ b ≠ A.c ∧ b ≠ A.k ∧ b ≠ A.p ∧ b ≠ A.r ∧ b ≠ A.d ∧ b ≠ A.m ∧ b ≠ A.a := by
  obtain ⟨hb, hk, ⟨ps, p1, p2⟩, ⟨rs, r1, r2⟩, ⟨ds, d1, d2, d3⟩, hm, ⟨as, a1, a2, a3, a4⟩, ⟨cs, c1, c2, c3, c4⟩, nd, n0, sm, lk, lm⟩ := h
  refine ⟨ne_of hk c1 ?_, ne_of p1 c1 ?_, ne_of r1 c1 ?_, ne_of d1 c1 ?_, ne_of hm c1 ?_, ne_of a1 c1 ?_, ne_of hb c1 ?_, ne_of hb hk ?_, ne_of hb p1 ?_, ne_of hb r1 ?_, ne_of hb d1 ?_, ne_of hb hm ?_, ne_of hb a1 ?_⟩ <;> intro z <;> cases z
/-- parents -/
theorem BkAt.put_p (h : BkAt CB B n H0 H b dx A) {ps : List (Key × V)} (e : H A.p = some (.dK ps)) (k : Key) (v : V) : BkAt CB B (n + 1) H0 (upd H A.p (.dK (putK ps k v))) b dx A := by
  obtain ⟨⟨n1, n2, n3, n4, n5⟩, ⟨n6, n7, n8, n9⟩, _⟩ := h.nds
  obtain ⟨_, m2, _, _, _, _, _, _, m9, _⟩ := h.cne
  obtain ⟨hb, hk, ⟨ps', p1, p2⟩, ⟨rs, r1, r2⟩, ⟨ds, d1, d2, d3⟩, hm, ⟨as, a1, a2, a3, a4⟩, ⟨cs, c1, c2, c3, c4⟩, nd, n0, sm, lk, lm⟩ := h
  cases e.symm.trans p1
  refine ⟨(upd_ne m9).trans hb, (upd_ne n1).trans hk, ⟨_, upd_same, ?_⟩, ⟨rs, (upd_ne (Ne.symm n6)).trans r1, by omega⟩, ⟨ds, (upd_ne (Ne.symm n7)).trans d1, d2, by omega⟩, (upd_ne (Ne.symm n8)).trans hm, ⟨as, (upd_ne (Ne.symm n9)).trans a1, a2, a3.upd_dic (Nat.le_succ n) e (fun _ z => by cases z), by omega⟩,
    ⟨cs, (upd_ne (Ne.symm m2)).trans c1, c2, c3.upd_dic (Nat.le_succ n) e (fun _ z => by cases z), by omega⟩, nd, n0, upd_same0 sm (n0 _ (by simp)), Nat.le_succ_of_le lk, Nat.le_succ_of_le lm⟩
  exact Nat.le_trans (DSub.putK_len ps k v) (by omega)
/-- the dead -/
theorem BkAt.put_d (h : BkAt CB B n H0 H b dx A) {ds : List (Key × V)} {l : Str} (e : H A.d = some (.dK ds)) (v : V) (nl : ¬ l ∈ B.dead) : BkAt CB { B with dead := B.dead ++ [l] } (n + 1) H0 (upd H A.d (.dK (putK ds (Sum.inr l) v))) b dx A := by
  obtain ⟨⟨n1, n2, n3, n4, n5⟩, ⟨n6, n7, n8, n9⟩, ⟨n10, n11, n12⟩, ⟨n13, n14⟩, _⟩ := h.nds
  obtain ⟨_, _, _, m4, _, _, _, _, _, _, m11, _⟩ := h.cne
  obtain ⟨hb, hk, ⟨ps, p1, p2⟩, ⟨rs, r1, r2⟩, ⟨ds', d1, d2, d3⟩, hm, ⟨as, a1, a2, a3, a4⟩, ⟨cs, c1, c2, c3, c4⟩, nd, n0, sm, lk, lm⟩ := h
  cases e.symm.trans d1
  refine ⟨(upd_ne m11).trans hb, (upd_ne n3).trans hk, ⟨ps, (upd_ne n7).trans p1, by omega⟩, ⟨rs, (upd_ne n10).trans r1, by omega⟩, ⟨_, upd_same, ?_, ?_⟩, (upd_ne (Ne.symm n13)).trans hm, ⟨as, (upd_ne (Ne.symm n14)).trans a1, a2, a3.upd_dic (Nat.le_succ n) e (fun _ z => by cases z), by omega⟩,
    ⟨cs, (upd_ne (Ne.symm m4)).trans c1, c2, c3.upd_dic (Nat.le_succ n) e (fun _ z => by cases z), by omega⟩, nd, n0, upd_same0 sm (n0 _ (by simp)), Nat.le_succ_of_le lk, Nat.le_succ_of_le lm⟩
  · rw [put_keys, d2, if_neg (fun z => by
      obtain ⟨y, hy, ey⟩ := List.mem_map.mp z
      exact nl ((Sum.inr.inj ey) ▸ hy)), List.map_append]
    rfl
  · exact Nat.le_trans (DSub.putK_len ds _ v) (by omega)
/-- mates now -/
theorem BkAt.set_m (h : BkAt CB B n H0 H b dx A) {now' : List (Str × Str)} (ll : now'.length ≤ n + 1) : BkAt CB { B with now := now' } (n + 1) H0 (upd H A.m (.dK (encK now'))) b dx A := by
  obtain ⟨⟨n1, n2, n3, n4, n5⟩, ⟨n6, n7, n8, n9⟩, ⟨n10, n11, n12⟩, ⟨n13, n14⟩, n15⟩ := h.nds
  obtain ⟨_, _, _, _, m5, _, _, _, _, _, _, m12, _⟩ := h.cne
  obtain ⟨hb, hk, ⟨ps, p1, p2⟩, ⟨rs, r1, r2⟩, ⟨ds, d1, d2, d3⟩, hm, ⟨as, a1, a2, a3, a4⟩, ⟨cs, c1, c2, c3, c4⟩, nd, n0, sm, lk, lm⟩ := h
  exact ⟨(upd_ne m12).trans hb, (upd_ne n4).trans hk, ⟨ps, (upd_ne n8).trans p1, by omega⟩, ⟨rs, (upd_ne n11).trans r1, by omega⟩, ⟨ds, (upd_ne n13).trans d1, d2, by omega⟩, upd_same, ⟨as, (upd_ne (Ne.symm n15)).trans a1, a2, a3.upd_dic (Nat.le_succ n) hm (fun _ z => by cases z), by omega⟩,
    ⟨cs, (upd_ne (Ne.symm m5)).trans c1, c2, c3.upd_dic (Nat.le_succ n) hm (fun _ z => by cases z), by omega⟩, nd, n0, upd_same0 sm (n0 _ (by simp)), Nat.le_succ_of_le lk, ll⟩
/-- a couple's children: a new list -/
theorem BkAt.put_c (h : BkAt CB B n H0 H b dx A) {cs : List (List Key × V)} {f m : Str} {l : Addr} (e : H A.c = some (.dT cs)) (el : H l = some (.lst [])) (l0 : H0 l = none) :
    BkAt CB { B with pairs := if (f, m) ∈ B.pairs then B.pairs else B.pairs ++ [(f, m)] } (n + 1) H0 (upd H A.c (.dT (putK cs [Sum.inr f, Sum.inr m] (.ref l)))) b dx A := by
  obtain ⟨m1, m2, m3, m4, m5, m6, m7, _⟩ := h.cne
  obtain ⟨hb, hk, ⟨ps, p1, p2⟩, ⟨rs, r1, r2⟩, ⟨ds, d1, d2, d3⟩, hm, ⟨as, a1, a2, a3, a4⟩, ⟨cs', c1, c2, c3, c4⟩, nd, n0, sm, lk, lm⟩ := h
  cases e.symm.trans c1
  have nlc : l ≠ A.c := ne_of el e (by intro z; cases z)
  refine ⟨(upd_ne m7).trans hb, (upd_ne m1).trans hk, ⟨ps, (upd_ne m2).trans p1, by omega⟩, ⟨rs, (upd_ne m3).trans r1, by omega⟩, ⟨ds, (upd_ne m4).trans d1, d2, by omega⟩, (upd_ne m5).trans hm, ⟨as, (upd_ne m6).trans a1, a2, a3.upd_dic (Nat.le_succ n) e (fun _ z => by cases z), by omega⟩,
    ⟨_, upd_same, ?_, fun kv hkv => ?_, ?_⟩, nd, n0, upd_same0 sm (n0 _ (by simp)), Nat.le_succ_of_le lk, Nat.le_succ_of_le lm⟩
  · have iff_ : ([Sum.inr f, Sum.inr m] : List Key) ∈ B.pairs.map keyT ↔ (f, m) ∈ B.pairs := ⟨fun z => by
      obtain ⟨⟨f', m'⟩, hy, ey⟩ := List.mem_map.mp z
      have ey : ([Sum.inr f', Sum.inr m'] : List Key) = [Sum.inr f, Sum.inr m] := ey
      injection ey with e1 e2
      injection e2 with e2 _
      rw [Sum.inr.inj e1, Sum.inr.inj e2] at hy
      exact hy, fun z => List.mem_map.mpr ⟨_, z, rfl⟩⟩
    rw [put_keys, c2]
    by_cases z : (f, m) ∈ B.pairs
    · rw [if_pos (iff_.mpr z)]
      show _ = (if (f, m) ∈ B.pairs then B.pairs else B.pairs ++ [(f, m)]).map keyT
      rw [if_pos z]
    · rw [if_neg (fun y => z (iff_.mp y))]
      show _ = (if (f, m) ∈ B.pairs then B.pairs else B.pairs ++ [(f, m)]).map keyT
      rw [if_neg z, List.map_append]
      rfl
  · rcases put_mem hkv with hkv | hkv
    · exact (c3.upd_dic (Nat.le_succ n) e (fun _ z => by cases z)) kv hkv
    · exact ⟨l, [], hkv, (upd_ne nlc).trans el, Nat.zero_le _, l0⟩
  · exact Nat.le_trans (DSub.putK_len cs _ _) (by omega)
/-- a person is brought -/
theorem BkAt.put3 (h : BkAt CB B n H0 H b dx A) {rs as : List (Key × V)} {l k : Str} {i : Int} {z : Addr} (er : H A.r = some (.dK rs)) (ea : H A.a = some (.dK as)) (nl : look B.kinds l = none)
    (nz : upd (upd H A.k (.dK (encK (B.kinds ++ [(l, k)])))) A.r (.dK (putK rs (Sum.inr l) (.int i))) z = none) :
    BkAt CB { B with kinds := B.kinds ++ [(l, k)] } (n + 1) H0 (upd (upd (upd (upd H A.k (.dK (encK (B.kinds ++ [(l, k)])))) A.r (.dK (putK rs (Sum.inr l) (.int i)))) z (.lst [])) A.a (.dK (putK as (Sum.inr l) (.ref z)))) b dx A := by
  obtain ⟨⟨n1, n2, n3, n4, n5⟩, ⟨n6, n7, n8, n9⟩, ⟨n10, n11, n12⟩, ⟨n13, n14⟩, n15⟩ := h.nds
  obtain ⟨m1, m2, m3, m4, m5, m6, m7, m8, m9, m10, m11, m12, m13⟩ := h.cne
  obtain ⟨hb, hk, ⟨ps, p1, p2⟩, ⟨rs', r1, r2⟩, ⟨ds, d1, d2, d3⟩, hm, ⟨as', a1, a2, a3, a4⟩, ⟨cs, c1, c2, c3, c4⟩, nd, n0, sm, lk, lm⟩ := h
  cases er.symm.trans r1
  cases ea.symm.trans a1
  have st : ∀ {y : Addr} {o : HO}, y ≠ A.k → y ≠ A.r → y ≠ A.a → H y = some o → upd (upd (upd (upd H A.k (.dK (encK (B.kinds ++ [(l, k)])))) A.r (.dK (putK rs (Sum.inr l) (.int i)))) z (.lst [])) A.a (.dK (putK as (Sum.inr l) (.ref z))) y = some o := fun {y o} y1 y2 y3 e => by
    have e2 : upd (upd H A.k (.dK (encK (B.kinds ++ [(l, k)])))) A.r (.dK (putK rs (Sum.inr l) (.int i))) y = some o := by rw [upd_ne y2, upd_ne y1]; exact e
    rw [upd_ne y3, upd_ne (ne_of_none e2 nz)]
    exact e2
  have zH : H z = none := by
    by_cases q1 : z = A.r
    · rw [q1, upd_same] at nz; cases nz
    · rw [upd_ne q1] at nz
      by_cases q2 : z = A.k
      · rw [q2, upd_same] at nz; cases nz
      · rw [upd_ne q2] at nz; exact nz
  have zk : A.k ≠ z := ne_of_none hk zH
  have zr : A.r ≠ z := ne_of_none er zH
  have za : A.a ≠ z := ne_of_none ea zH
  have z0 : H0 z = none := none_of sm zH
  have ls : ∀ {κ : Type} {kvs : List (κ × V)}, Lsts n H0 H kvs → Lsts (n + 1) H0 (upd (upd (upd (upd H A.k (.dK (encK (B.kinds ++ [(l, k)])))) A.r (.dK (putK rs (Sum.inr l) (.int i)))) z (.lst [])) A.a (.dK (putK as (Sum.inr l) (.ref z)))) kvs := fun {κ kvs} h => h.mono (Nat.le_succ n) fun l' xs el _ =>
    ⟨xs, st (ne_of el hk (by intro z; cases z)) (ne_of el er (by intro z; cases z)) (ne_of el ea (by intro z; cases z)) el, by omega⟩
  refine ⟨st m8 m10 m13 hb, ?_, ⟨ps, st (Ne.symm n1) n6 n9 p1, by omega⟩, ⟨putK rs (Sum.inr l) (.int i), ?_, Nat.le_trans (DSub.putK_len rs _ _) (by omega)⟩, ⟨ds, st (Ne.symm n3) (Ne.symm n10) n14 d1, d2, by omega⟩, st (Ne.symm n4) (Ne.symm n11) n15 hm, ⟨_, upd_same, fun x hx => ?_, fun kv hkv => ?_, Nat.le_trans (DSub.putK_len as _ _) (by omega)⟩,
    ⟨cs, st (Ne.symm m1) (Ne.symm m3) (Ne.symm m6) c1, c2, ls c3, by omega⟩, nd, n0, ?_, (by show (B.kinds ++ [(l, k)]).length ≤ n + 1; rw [List.length_append]; exact Nat.succ_le_succ lk), Nat.le_succ_of_le lm⟩
  · rw [upd_ne n5, upd_ne zk, upd_ne n2, upd_same]
  · rw [upd_ne n12, upd_ne zr, upd_same]
  · refine (valV_put as _ _ _).mpr ?_
    by_cases q : x = l
    · exact .inr (by rw [q])
    · refine .inl (a2 x ?_)
      have hx : (look (B.kinds ++ [(l, k)]) x).isSome = true := hx
      rw [look_app] at hx
      cases e : look B.kinds x with
      | some y => rfl
      | none =>
        rw [e] at hx
        have hx : (if l = x then some k else none).isSome = true := hx
        rw [if_neg (Ne.symm q)] at hx
        cases hx
  · rcases put_mem hkv with hkv | hkv
    · exact ls a3 kv hkv
    · exact ⟨z, [], hkv, by rw [upd_ne (Ne.symm za), upd_same], Nat.zero_le _, z0⟩
  · exact upd_same0 (upd_same0 (upd_same0 (upd_same0 sm (n0 _ (by simp))) (n0 _ (by simp))) z0) (n0 _ (by simp))
end
end K04

/-! the book's methods -/
namespace K04
open PySem PySem.Spec PyProof.Rows L2
def spCouple (CB : Addr) : Sp := fun vs H Q _ => ∃ (b dx : Addr) (B : Bk) (n : Nat) (H0 : Hp) (A : Ads) (f m : Str), vs = [.ref b, .str f, .str m] ∧ BkAt CB B n H0 H b dx A ∧ ∀ H', Same H H' → Q (.bl (coupleB B f m)) H'
def spBring (CB : Addr) : Sp := fun vs H Q _ => ∃ (b dx : Addr) (B : Bk) (n : Nat) (H0 : Hp) (A : Ads) (i : Int) (l k : Str), vs = [.ref b, .int i, .str l, .str k] ∧ BkAt CB B n H0 H b dx A ∧ n < 100000 ∧ look B.kinds l = none ∧
  ∀ H', BkAt CB { B with kinds := B.kinds ++ [(l, k)] } (n + 1) H0 H' b dx A → Q .non H'
def spWed (CB : Addr) : Sp := fun vs H Q _ => ∃ (b dx : Addr) (B : Bk) (n : Nat) (H0 : Hp) (A : Ads) (f m : Str), vs = [.ref b, .str f, .str m] ∧ BkAt CB B n H0 H b dx A ∧ n < 100000 ∧ jP B 0 (.weds f m) = none ∧
  ∀ H', BkAt CB (wP B (.weds f m)) (n + 5) H0 H' b dx A → Q .non H'
def spBury (CB : Addr) : Sp := fun vs H Q _ => ∃ (b dx : Addr) (B : Bk) (n : Nat) (H0 : Hp) (A : Ads) (l : Str), vs = [.ref b, .str l] ∧ BkAt CB B n H0 H b dx A ∧ n < 100000 ∧ jP B 0 (.dies l) = none ∧ BkOk B ∧
  ∀ H', BkAt CB (wP B (.dies l)) (n + 3) H0 H' b dx A → Q .non H'
def spWrite (CB : Addr) : Sp := fun vs H Q _ => ∃ (b dx : Addr) (B : Bk) (n : Nat) (H0 : Hp) (A : Ads) (i : Int) (v : V) (d : PyData) (xs : List PyData) (r : Rw) (wd : Int), vs = [.ref b, .int i, v] ∧ BkAt CB B n H0 H b dx A ∧ n < 90000 ∧ BkOk B ∧ Dt Any H0 v d ∧ seqD d = some xs ∧ RwL xs r ∧ jP B wd r = none ∧
  ∀ H', BkAt CB (wP B r) (n + 5) H0 H' b dx A → Q .non H'
theorem lt_line {n m : Nat} (h : n ≤ m) (hm : m < 200000) : n < sizeLine := Nat.lt_of_le_of_lt h (Nat.lt_of_lt_of_le hm (by decide))
section
variable {P : Program} {w : World} {K : PySem.W.Frag} {mg : Str → Option Value} {base : Heap}
theorem ok_couple {f CB : Addr} {fd : FuncData} (F : FunD K "is_couple" "Book.is_couple" (defArgs sBCouple) (defBody sBCouple) (defScope sBCouple) [] [] f fd) (T : BookC K CB) : FnOk P w K mg base CX0 1 f fd ["self", "father", "mother"] (spCouple CB) := by
  have sc : FnScope ["self", "father", "mother"] ["self", "father", "mother"] (defScope sBCouple) := ⟨rfl, rfl, rfl, by decide +kernel, rfl, by decide +kernel, by decide +kernel⟩
  refine F.ok sc (fun vs H Q E h => ?_) (fun cdv A outer s H vs Q E hr h => ?_)
  · obtain ⟨b, dx, B, n, H0, A, f, m, rfl, _⟩ := h
    rfl
  · obtain ⟨b, dx, B, n, H0, A, f, m, rfl, hB, q⟩ := h
    have hu := hu_of hr
    refine ⟨_, PSs.nox (pss_one (ps_ret (pe_and (pe_cmp (pc_din hu (pe_tup (pa_cons (pv 1) (pa_cons (pv 2) pa_nil))) (pe_fld (pv 0) rfl)) rfl) (pe_one (pe_cmpR op_eq (pe_dget1 hu (pe_fld (pv 0) rfl) (pv 1) ⟨rfl, rfl, rfl, rfl⟩) (pv 2) (nomark _)))))), ?_⟩
    refine ⟨_, rfl, _, rfl, (by show 2 ≤ sizeLine; decide), fun t nt => ?_⟩
    have s1 := same_upd (o := .tup [V.str f, V.str m]) nt
    have et : upd H t (.tup [V.str f, V.str m]) t = some (.tup [V.str f, V.str m]) := upd_same
    have h1 := hB.same s1 (Nat.le_refl _)
    generalize upd H t (.tup [V.str f, V.str m]) = H1 at s1 et h1
    obtain ⟨cs, c1, c2, _⟩ := h1.hc
    refine ⟨_, rfl, b, CB, dx, _, _, rfl, h1.hb, T.cl, T.nKids, rfl, A.c, _, rfl, DGet.t (k := [Sum.inr f, Sum.inr m]) c1 et, ?_⟩
    have e1 : (valV cs [Sum.inr f, Sum.inr m]).isSome = decide ((f, m) ∈ B.pairs) := by
      rw [valV_keys, c2]
      refine decide_eq_decide.mpr ⟨fun z => ?_, fun z => List.mem_map.mpr ⟨_, z, rfl⟩⟩
      obtain ⟨⟨f', m'⟩, hy, ey⟩ := List.mem_map.mp z
      have ey : ([Sum.inr f', Sum.inr m'] : List Key) = [Sum.inr f, Sum.inr m] := ey
      injection ey with e1 e2
      injection e2 with e2 _
      rw [Sum.inr.inj e1, Sum.inr.inj e2] at hy
      exact hy
    refine ⟨_, rfl, ?_⟩
    rw [e1]
    have eq : coupleB B f m = (decide ((f, m) ∈ B.pairs) && decide (look B.now f = some m)) := rfl
    rw [eq] at q
    refine ite2 (fun g => ?_) (fun g => ?_)
    · rw [g, Bool.true_and] at q
      refine ⟨_, rfl, b, CB, dx, _, _, rfl, h1.hb, T.cl, T.nNow, rfl, A.m, rfl, .inl ⟨_, .inl h1.hm⟩, _, rfl, _, DGet.k (k := Sum.inr f) h1.hm, ?_⟩
      rw [valV_enc]
      cases e : look B.now f with
      | none =>
        refine ⟨_, rfl, rfl, ?_⟩
        rw [e] at q
        rw [decide_eq_false (show ¬ (none : Option Str) = some m from fun z => by cases z)] at q
        exact q _ s1
      | some z =>
        refine ⟨_, rfl, rfl, ?_⟩
        rw [e] at q
        rw [show decide (some z = some m) = decide (V.str z = V.str m) from decide_eq_decide.mpr ⟨fun y => by rw [Option.some.inj y], fun y => by rw [V.str.inj y]⟩] at q
        exact q _ s1
    · rw [Bool.eq_false_iff.mpr g, Bool.false_and] at q
      exact q _ s1
theorem ok_bring {f CB : Addr} {fd : FuncData} (F : FunD K "bring" "Book.bring" (defArgs sBBring) (defBody sBBring) (defScope sBBring) [] [] f fd) (T : BookC K CB) : FnOk P w K mg base CX0 1 f fd ["self", "index", "label", "kind"] (spBring CB) := by
  have sc : FnScope ["self", "index", "label", "kind"] ["self", "index", "label", "kind"] (defScope sBBring) := ⟨rfl, rfl, rfl, by decide +kernel, rfl, by decide +kernel, by decide +kernel⟩
  refine F.ok sc (fun vs H Q E h => ?_) (fun cdv A outer s H vs Q E hr h => ?_)
  · obtain ⟨b, dx, B, n, H0, A, i, l, k, rfl, _⟩ := h
    rfl
  · obtain ⟨b, dx, B, n, H0, A, i, l, k, rfl, hB, hn, nl, q⟩ := h
    have hu := hu_of hr
    refine ⟨_, PSs.nox (pss_cons (ps_dput hu (pe_fld (pv 0) rfl) (pv 2) (pv 3) rfl) (pss_cons (ps_dput hu (pe_fld (pv 0) rfl) (pv 2) (pv 1) rfl) (pss_one (ps_dput hu (pe_fld (pv 0) rfl) (pv 2) (pe_lst pa_nil) rfl)))), ?_⟩
    obtain ⟨⟨n1, n2, n3, n4, n5⟩, _, ⟨n10, n11, n12⟩, _⟩ := hB.nds
    obtain ⟨m1, m2, m3, m4, m5, m6, m7, m8, m9, m10, m11, m12, m13⟩ := hB.cne
    obtain ⟨rs, r1, r2⟩ := hB.hr
    obtain ⟨as, a1, a2, a3, a4⟩ := hB.ha
    have pk := put_enc (l := B.kinds) k nl
    have lk : (encK B.kinds).length = B.kinds.length := List.length_map ..
    refine ⟨_, rfl, _, rfl, b, CB, dx, _, _, rfl, hB.hb, T.cl, T.nKinds, rfl, _, rfl, A.k, _, rfl, DPut.k (k := Sum.inr l) hB.hk (by rw [lk]; exact lt_line hB.lk (by omega)), ?_⟩
    rw [pk]
    refine ⟨_, rfl, _, rfl, b, CB, dx, _, _, rfl, (upd_ne m8).trans hB.hb, T.cl, T.nRows, rfl, _, rfl, A.r, _, rfl, DPut.k (k := Sum.inr l) ((upd_ne (Ne.symm n2)).trans r1) (lt_line r2 (by omega)), ?_⟩
    refine ⟨(by decide), fun z nz => ?_⟩
    have st : ∀ {y : Addr} {o : HO}, y ≠ A.k → y ≠ A.r → H y = some o → upd (upd (upd H A.k (.dK (encK (B.kinds ++ [(l, k)])))) A.r (.dK (putK rs (Sum.inr l) (.int i)))) z (.lst []) y = some o := fun {y o} y1 y2 e => by
      have e2 : upd (upd H A.k (.dK (encK (B.kinds ++ [(l, k)])))) A.r (.dK (putK rs (Sum.inr l) (.int i))) y = some o := by rw [upd_ne y2, upd_ne y1]; exact e
      rw [upd_ne (ne_of_none e2 nz)]
      exact e2
    refine ⟨_, rfl, b, CB, dx, _, _, rfl, st m8 m10 hB.hb, T.cl, T.nAll, rfl, _, rfl, A.a, _, rfl, DPut.k (k := Sum.inr l) (st (Ne.symm n5) (Ne.symm n12) a1) (lt_line a4 (by omega)), ?_⟩
    exact q _ (hB.put3 r1 a1 nl nz)
theorem ok_wed {f CB : Addr} {fd : FuncData} (F : FunD K "wed" "Book.wed" (defArgs sBWed) (defBody sBWed) (defScope sBWed) [] [] f fd) (T : BookC K CB) : FnOk P w K mg base CX0 1 f fd ["self", "father", "mother"] (spWed CB) := by
  have sc : FnScope ["self", "father", "mother"] ["self", "father", "mother"] (defScope sBWed) := ⟨rfl, rfl, rfl, by decide +kernel, rfl, by decide +kernel, by decide +kernel⟩
  refine F.ok sc (fun vs H Q E h => ?_) (fun cdv A outer s H vs Q E hr h => ?_)
  · obtain ⟨b, dx, B, n, H0, A, f, m, rfl, _⟩ := h
    rfl
  · obtain ⟨b, dx, B, n, H0, A, f, m, rfl, hB, hn, hj, q⟩ := h
    have hu := hu_of hr
    obtain ⟨⟨kf, ef⟩, ⟨km, em⟩, _, _, _, _, nf, nm, fm⟩ := jP_weds hj
    refine ⟨_, PSs.nox (pss_cons (ps_dput hu (pe_fld (pv 0) rfl) (pe_tup (pa_cons (pv 1) (pa_cons (pv 2) pa_nil))) (pe_lst pa_nil) rfl) (pss_cons (ps_dput hu (pe_fld (pv 0) rfl) (pv 1) (pv 2) rfl) (pss_cons (ps_dput hu (pe_fld (pv 0) rfl) (pv 2) (pv 1) rfl)
      (pss_cons (ps_expr (pe_bm PySem.F.plainAttrs_list PySem.F.slot_list_append PySem.F.type_list_append mt_append (pe_dget hu (pe_fld (pv 0) rfl) (pv 1) (fun _ _ => rfl)) (pa_cons (pv 2) pa_nil)))
      (pss_one (ps_expr (pe_bm PySem.F.plainAttrs_list PySem.F.slot_list_append PySem.F.type_list_append mt_append (pe_dget hu (pe_fld (pv 0) rfl) (pv 2) (fun _ _ => rfl)) (pa_cons (pv 1) pa_nil)))))))), ?_⟩
    -- children[father, mother] = []
    refine ⟨(by decide), fun l nl => ?_⟩
    have hB1 := hB.same (same_upd (o := .lst []) nl) (Nat.le_refl _)
    have el : upd H l (.lst []) l = some (.lst []) := upd_same
    have l0 : H0 l = none := none_of hB.sm nl
    generalize upd H l (.lst []) = H1 at hB1 el
    refine ⟨_, rfl, b, CB, dx, _, _, rfl, hB1.hb, T.cl, T.nKids, rfl, _, rfl, _, rfl, (by show 2 ≤ sizeLine; decide), fun t nt => ?_⟩
    have s2 := same_upd (o := .tup [V.str f, V.str m]) nt
    have hB2 := hB1.same s2 (Nat.le_refl _)
    have et : upd H1 t (.tup [V.str f, V.str m]) t = some (.tup [V.str f, V.str m]) := upd_same
    replace el := s2 _ _ el
    generalize upd H1 t (.tup [V.str f, V.str m]) = H2 at hB2 el et
    obtain ⟨cs, c1, c2, c3, c4⟩ := hB2.hc
    refine ⟨A.c, _, rfl, DPut.t (k := [Sum.inr f, Sum.inr m]) c1 et (lt_line c4 (by omega)), ?_⟩
    have hB3 := hB2.put_c (f := f) (m := m) c1 el l0
    generalize upd H2 A.c (.dT (putK cs [Sum.inr f, Sum.inr m] (.ref l))) = H3 at hB3
    -- mate_now[father] = mother
    have ln : ∀ {l : List (Str × Str)}, (encK l).length = l.length := fun {l} => List.length_map ..
    refine ⟨_, rfl, _, rfl, b, CB, dx, _, _, rfl, hB3.hb, T.cl, T.nNow, rfl, _, rfl, A.m, _, rfl, DPut.k (k := Sum.inr f) hB3.hm (by rw [ln]; exact lt_line hB3.lm (by omega)), ?_⟩
    rw [put_enc m nf]
    have hB4 := hB3.set_m (now' := B.now ++ [(f, m)]) (by rw [List.length_append]; exact Nat.succ_le_succ hB3.lm)
    generalize upd H3 A.m (.dK (encK (B.now ++ [(f, m)]))) = H4 at hB4
    refine ⟨_, rfl, _, rfl, b, CB, dx, _, _, rfl, hB4.hb, T.cl, T.nNow, rfl, _, rfl, A.m, _, rfl, DPut.k (k := Sum.inr m) hB4.hm (by rw [ln]; exact lt_line hB4.lm (by omega)), ?_⟩
    rw [put_enc f (l := B.now ++ [(f, m)]) (by rw [look_app, nm]; exact if_neg fm)]
    have hB5 := hB4.set_m (now' := B.now ++ [(f, m)] ++ [(m, f)]) (by rw [List.length_append]; exact Nat.succ_le_succ hB4.lm)
    generalize upd H4 A.m (.dK (encK (B.now ++ [(f, m)] ++ [(m, f)]))) = H5 at hB5
    -- all_mates[father].append(mother)
    have get : ∀ {n : Nat} {H : Hp} {x : Str} {a : Str} {B' : Bk}, BkAt CB B' n H0 H b dx A → look B'.kinds x = some a → ∃ (as : List (Key × V)) (lx : Addr) (xs : List V), H A.a = some (.dK as) ∧ valV as (Sum.inr x) = some (.ref lx) ∧ H lx = some (.lst xs) ∧ xs.length ≤ n ∧ H0 lx = none := fun {n H x a B'} hX ex => by
      obtain ⟨as, a1, a2, a3, a4⟩ := hX.ha
      have z := a2 x (by rw [ex]; rfl)
      cases ev : valV as (Sum.inr x) with
      | none => rw [ev] at z; cases z
      | some v =>
        obtain ⟨kv, hkv, e2⟩ := valV_mem ev
        obtain ⟨lx, xs, e3, e4, e5, e6⟩ := a3 kv hkv
        rw [e2] at e3
        subst e3
        exact ⟨as, lx, xs, a1, ev, e4, e5, e6⟩
    obtain ⟨as, lx, xs, a1, ev, e4, e5, e6⟩ := get hB5 (x := f) ef
    have dg := DGet.k (k := Sum.inr f) a1
    rw [ev] at dg
    refine ⟨_, rfl, b, CB, dx, _, _, rfl, hB5.hb, T.cl, T.nAll, rfl, _, rfl, A.a, _, rfl, dg, .inl ⟨rfl, _, SqL.of e4⟩, _, rfl, lx, xs, _, rfl, rfl, e4, lt_line e5 (by omega), ?_⟩
    have hB6 := hB5.app (.str m) e4 e6
    generalize upd H5 lx (.lst (xs ++ [V.str m])) = H6 at hB6
    obtain ⟨as, lx, xs, a1, ev, e4, e5, e6⟩ := get hB6 (x := m) em
    have dg := DGet.k (k := Sum.inr m) a1
    rw [ev] at dg
    refine ⟨_, rfl, b, CB, dx, _, _, rfl, hB6.hb, T.cl, T.nAll, rfl, _, rfl, A.a, _, rfl, dg, .inl ⟨rfl, _, SqL.of e4⟩, _, rfl, lx, xs, _, rfl, rfl, e4, lt_line e5 (by omega), ?_⟩
    exact q _ (hB6.app (.str f) e4 e6)
theorem ok_bury {f CB : Addr} {fd : FuncData} (F : FunD K "bury" "Book.bury" (defArgs sBBury) (defBody sBBury) (defScope sBBury) [] [] f fd) (T : BookC K CB) : FnOk P w K mg base CX0 1 f fd ["self", "label"] (spBury CB) := by
  have sc : FnScope ["self", "label"] ["self", "label"] (defScope sBBury) := ⟨rfl, rfl, rfl, by decide +kernel, rfl, by decide +kernel, by decide +kernel⟩
  refine F.ok sc (fun vs H Q E h => ?_) (fun cdv A outer s H vs Q E hr h => ?_)
  · obtain ⟨b, dx, B, n, H0, A, l, rfl, _⟩ := h
    rfl
  · obtain ⟨b, dx, B, n, H0, A, l, rfl, hB, hn, hj, ok, q⟩ := h
    have hu := hu_of hr
    obtain ⟨_, nl⟩ := jP_dies hj
    refine ⟨_, PSs.nox (pss_cons (ps_dput hu (pe_fld (pv 0) rfl) (pv 1) pe_bl rfl) (pss_one (ps_if (pt_cmp (pc_din hu (pv 1) (pe_fld (pv 0) rfl)))
      (pss_cons (ps_ddel (pe_fld (pv 0) rfl) (pe_dget hu (pe_fld (pv 0) rfl) (pv 1) (fun _ _ => rfl))) (pss_one (ps_ddel (pe_fld (pv 0) rfl) (pv 1)))) pss_nil))), ?_⟩
    obtain ⟨ds, d1, d2, d3⟩ := hB.hd
    refine ⟨_, rfl, b, CB, dx, _, _, rfl, hB.hb, T.cl, T.nDead, rfl, _, rfl, A.d, _, rfl, DPut.k (k := Sum.inr l) d1 (lt_line d3 (by omega)), ?_⟩
    have hB1 := hB.put_d d1 (.bl true) nl
    generalize upd H A.d (.dK (putK ds (Sum.inr l) (V.bl true))) = H1 at hB1
    have g := DGet.k (k := Sum.inr l) hB1.hm
    rw [valV_enc] at g
    refine ⟨_, rfl, _, rfl, b, CB, dx, _, _, rfl, hB1.hb, T.cl, T.nNow, rfl, A.m, _, rfl, g, _, rfl, ?_⟩
    have ew : wP B (.dies l) = { B with dead := B.dead ++ [l], now := match look B.now l with | none => B.now | some y => without (without B.now y) l } := rfl
    cases e : look B.now l with
    | none =>
      rw [ew, e] at q
      exact iteF (q _ (hB1.same (Same.refl _) (by omega)))
    | some y =>
      rw [ew, e] at q
      have back := ok.sym l y e
      have ne := ok.ne l y e
      refine iteT ?_
      have g2 := DGet.k (k := Sum.inr l) hB1.hm
      rw [valV_enc, show look (Bk.mk B.kinds (B.dead ++ [l]) B.now B.pairs).now l = some y from e] at g2
      refine ⟨_, rfl, b, CB, dx, _, _, rfl, hB1.hb, T.cl, T.nNow, rfl, ?_⟩
      refine ⟨_, rfl, b, CB, dx, _, _, rfl, hB1.hb, T.cl, T.nNow, rfl, _, rfl, A.m, _, rfl, g2, A.m, _, Sum.inr y, rfl, hB1.hm, rfl, by rw [valV_enc, show look (Bk.mk B.kinds (B.dead ++ [l]) B.now B.pairs).now y = some l from back]; rfl, ?_⟩
      rw [drop_enc]
      have hB2 := hB1.set_m (now' := without B.now y) (Nat.le_trans (List.length_filter_le _ _) (Nat.le_succ_of_le hB1.lm))
      show _
      have e2 : (encK (B.now.filter fun p => decide (p.1 ≠ y))) = encK (without B.now y) := rfl
      rw [e2]
      generalize upd H1 A.m (.dK (encK (without B.now y))) = H2 at hB2
      have e3 : look (without B.now y) l = some y := by rw [look_without, if_neg ne, e]
      refine ⟨_, rfl, b, CB, dx, _, _, rfl, hB2.hb, T.cl, T.nNow, rfl, _, rfl, A.m, _, Sum.inr l, rfl, hB2.hm, rfl, by rw [valV_enc, show look (Bk.mk B.kinds (B.dead ++ [l]) (without B.now y) B.pairs).now l = some y from e3]; rfl, ?_⟩
      rw [drop_enc]
      exact q _ (hB2.set_m (now' := without (without B.now y) l) (Nat.le_trans (List.length_filter_le _ _) (Nat.le_succ_of_le hB2.lm)))
end
end K04

/-! a row is written; what is wrong with a row -/
namespace K04
open PySem PySem.Spec PyProof.Rows L2
structure Mt (P : Program) (w : World) (K : PySem.W.Frag) (mg : Str → Option Value) (base : Heap) (CB : Addr) (x : Str) (k : Nat) (ps : List Str) (sp : Sp) (g : Addr) (gd : FuncData) : Prop where
  m : Meth K CB x g
  ok : FnOk P w K mg base CX0 k g gd ps sp
  bi : Binds K gd ps []
/-- the items of a row, where they stand -/
theorem RwL.comes_at {S : Addr → Prop} {H : Hp} {vs : List V} {xs : List PyData} {l k : Str} {n : Int} {hs : List Int} (h : RwL xs (.comes l k n hs)) (D : DtAll S H vs xs) : ∃ (e : PyData) (v : V), vs = [.str "comes", .str l, .str k, .int n, v] ∧ Dt S H v e ∧ seqD e = some (hs.map PyData.int) := by
  cases h with
  | comes hl hk hn he hh =>
    cases D with | cons a D => cases D with | cons b D => cases D with | cons c D => cases D with | cons d D => cases D with | cons e D =>
    cases D; cases a.str_inv.1; cases b.str_inv.1; cases c.str_inv.1; cases d.int_inv
    exact ⟨_, _, rfl, e, he⟩
theorem RwL.weds_at {S : Addr → Prop} {H : Hp} {vs : List V} {xs : List PyData} {f m : Str} (h : RwL xs (.weds f m)) (D : DtAll S H vs xs) : vs = [.str "weds", .str f, .str m] := by
  cases h with
  | weds hf hm =>
    cases D with | cons a D => cases D with | cons b D => cases D with | cons c D =>
    cases D; cases a.str_inv.1; cases b.str_inv.1; cases c.str_inv.1
    rfl
theorem RwL.born_at {S : Addr → Prop} {H : Hp} {vs : List V} {xs : List PyData} {f m k l : Str} {n : Int} (h : RwL xs (.born f m k l n)) (D : DtAll S H vs xs) : vs = [.str "born", .str f, .str m, .str k, .str l, .int n] := by
  cases h with
  | born hf hm hk hl hn =>
    cases D with | cons a D => cases D with | cons b D => cases D with | cons c D => cases D with | cons d D => cases D with | cons e D => cases D with | cons g D =>
    cases D; cases a.str_inv.1; cases b.str_inv.1; cases c.str_inv.1; cases d.str_inv.1; cases e.str_inv.1; cases g.int_inv
    rfl
theorem RwL.dies_at {S : Addr → Prop} {H : Hp} {vs : List V} {xs : List PyData} {l : Str} (h : RwL xs (.dies l)) (D : DtAll S H vs xs) : vs = [.str "dies", .str l] := by
  cases h with
  | dies hl =>
    cases D with | cons a D => cases D with | cons b D =>
    cases D; cases a.str_inv.1; cases b.str_inv.1
    rfl
section
variable {P : Program} {w : World} {K : PySem.W.Frag} {mg : Str → Option Value} {base : Heap}
theorem ok_write {f gB gW gD CB : Addr} {fd dB dW dD : FuncData} (F : FunD K "write" "Book.write" (defArgs sBWrite) (defBody sBWrite) (defScope sBWrite) [] [] f fd) (T : BookC K CB)
    (MB : Mt P w K mg base CB "bring" 1 ["self", "index", "label", "kind"] (spBring CB) gB dB) (MW : Mt P w K mg base CB "wed" 1 ["self", "father", "mother"] (spWed CB) gW dW) (MD : Mt P w K mg base CB "bury" 1 ["self", "label"] (spBury CB) gD dD) :
    FnOk P w K mg base CX0 2 f fd ["self", "index", "row"] (spWrite CB) := by
  have sc : FnScope ["self", "index", "row"] ["self", "index", "row"] (defScope sBWrite) := ⟨rfl, rfl, rfl, by decide +kernel, rfl, by decide +kernel, by decide +kernel⟩
  refine F.ok sc (fun vs H Q E h => ?_) (fun cdv A outer s H vs Q E hr1 h => ?_)
  · obtain ⟨b, dx, B, n, H0, A, i, v, d, xs, r, wd, rfl, _⟩ := h
    rfl
  · obtain ⟨b, dx, B, n, H0, A, i, v, d, xs, r, wd, rfl, hB, hn, ok, hd, e, hw, hj, q⟩ := h
    have hu := hu_of hr1
    refine ⟨_, PSs.nox (pss_one (ps_if (pt_cmpR op_eq (pe_ix ixS (pv 2) pe_int (fun _ _ => rfl)) pe_str (nomark _))
      (pss_one (ps_expr (pe_meth (pv 0) T.cl MB.m MB.ok hr1 MB.bi .nil pass0 (pa_cons (pv 1) (pa_cons (pe_ix ixS (pv 2) pe_int (fun _ _ => rfl)) (pa_cons (pe_ix ixS (pv 2) pe_int (fun _ _ => rfl)) pa_nil))))))
      (pss_one (ps_if (pt_cmpR op_eq (pe_ix ixS (pv 2) pe_int (fun _ _ => rfl)) pe_str (nomark _))
        (pss_one (ps_expr (pe_meth (pv 0) T.cl MW.m MW.ok hr1 MW.bi .nil pass0 (pa_cons (pe_ix ixS (pv 2) pe_int (fun _ _ => rfl)) (pa_cons (pe_ix ixS (pv 2) pe_int (fun _ _ => rfl)) pa_nil)))))
        (pss_one (ps_if (pt_cmpR op_eq (pe_ix ixS (pv 2) pe_int (fun _ _ => rfl)) pe_str (nomark _))
          (pss_cons (ps_expr (pe_meth (pv 0) T.cl MB.m MB.ok hr1 MB.bi .nil pass0 (pa_cons (pv 1) (pa_cons (pe_ix ixS (pv 2) pe_int (fun _ _ => rfl)) (pa_cons (pe_ix ixS (pv 2) pe_int (fun _ _ => rfl)) pa_nil)))))
          (pss_cons (ps_dput hu (pe_fld (pv 0) rfl) (pe_ix ixS (pv 2) pe_int (fun _ _ => rfl)) (pe_tup (pa_cons (pe_ix ixS (pv 2) pe_int (fun _ _ => rfl)) (pa_cons (pe_ix ixS (pv 2) pe_int (fun _ _ => rfl)) pa_nil))) rfl)
          (pss_one (ps_expr (pe_bm PySem.F.plainAttrs_list PySem.F.slot_list_append PySem.F.type_list_append mt_append (pe_dget hu (pe_fld (pv 0) rfl) (pe_tup (pa_cons (pe_ix ixS (pv 2) pe_int (fun _ _ => rfl)) (pa_cons (pe_ix ixS (pv 2) pe_int (fun _ _ => rfl)) pa_nil))) (fun _ _ => rfl)) (pa_cons (pe_ix ixS (pv 2) pe_int (fun _ _ => rfl)) pa_nil))))))
          (pss_one (ps_expr (pe_meth (pv 0) T.cl MD.m MD.ok hr1 MD.bi .nil pass0 (pa_cons (pe_ix ixS (pv 2) pe_int (fun _ _ => rfl)) pa_nil)))))))))), ?_⟩
    obtain ⟨a, vs, rfl, _, hS0, hvs⟩ := hd.seq e
    have hS := hS0.same hB.sm
    cases r with
    | comes l k m hs =>
      obtain ⟨e5, v5, rfl, _, _⟩ := hw.comes_at hvs
      refine ⟨_, rfl, _, _, _, _, rfl, rfl, hS, rfl, rfl, _, rfl, iteT ?_⟩
      refine ⟨_, rfl, b, dx, _, rfl, hB.hb, rfl, _, rfl, _, rfl, _, _, _, _, rfl, rfl, hS, rfl, _, rfl, _, _, _, _, rfl, rfl, hS, rfl, ?_⟩
      exact ⟨b, dx, B, n, H0, A, i, l, k, rfl, hB, by omega, (jP_comes hj).1, fun H' h' => q _ (h'.same (Same.refl _) (by omega))⟩
    | weds f m =>
      obtain rfl := hw.weds_at hvs
      refine ⟨_, rfl, _, _, _, _, rfl, rfl, hS, rfl, rfl, _, rfl, iteF ?_⟩
      refine ⟨_, rfl, _, _, _, _, rfl, rfl, hS, rfl, rfl, _, rfl, iteT ?_⟩
      refine ⟨_, rfl, b, dx, _, rfl, hB.hb, rfl, _, rfl, _, _, _, _, rfl, rfl, hS, rfl, _, rfl, _, _, _, _, rfl, rfl, hS, rfl, ?_⟩
      exact ⟨b, dx, B, n, H0, A, f, m, rfl, hB, by omega, hj, fun H' h' => q _ h'⟩
    | born f m k l j =>
      obtain rfl := hw.born_at hvs
      obtain ⟨j1, j2, j3⟩ := jP_born hj
      refine ⟨_, rfl, _, _, _, _, rfl, rfl, hS, rfl, rfl, _, rfl, iteF ?_⟩
      refine ⟨_, rfl, _, _, _, _, rfl, rfl, hS, rfl, rfl, _, rfl, iteF ?_⟩
      refine ⟨_, rfl, _, _, _, _, rfl, rfl, hS, rfl, rfl, _, rfl, iteT ?_⟩
      refine ⟨_, rfl, b, dx, _, rfl, hB.hb, rfl, _, rfl, _, rfl, _, _, _, _, rfl, rfl, hS, rfl, _, rfl, _, _, _, _, rfl, rfl, hS, rfl, ?_⟩
      refine ⟨b, dx, B, n, H0, A, i, l, k, rfl, hB, by omega, j3, fun H1 h1 => ?_⟩
      have hS1 := hS0.same h1.sm
      refine ⟨_, rfl, _, _, _, _, rfl, rfl, hS1, rfl, _, rfl, _, _, _, _, rfl, rfl, hS1, rfl, (by show 2 ≤ sizeLine; decide), fun t nt => ?_⟩
      have h2 := h1.same (same_upd (o := .tup [V.str f, V.str m]) nt) (Nat.le_refl _)
      have hS2 := hS1.same (same_upd (o := .tup [V.str f, V.str m]) nt)
      generalize upd H1 t (.tup [V.str f, V.str m]) = H2 at h2 hS2
      obtain ⟨ps, p1, p2⟩ := h2.hp
      refine ⟨_, rfl, b, CB, dx, _, _, rfl, h2.hb, T.cl, T.nParents, rfl, _, rfl, _, _, _, _, rfl, rfl, hS2, rfl, A.p, _, rfl, DPut.k (k := Sum.inr l) p1 (lt_line p2 (by omega)), ?_⟩
      have h3 := h2.put_p p1 (Sum.inr l) (.ref t)
      have hS3 := hS0.same h3.sm
      generalize upd H2 A.p (.dK (putK ps (Sum.inr l) (.ref t))) = H3 at h3 hS3
      refine ⟨_, rfl, b, CB, dx, _, _, rfl, h3.hb, T.cl, T.nKids, rfl, _, rfl, _, _, _, _, rfl, rfl, hS3, rfl, _, rfl, _, _, _, _, rfl, rfl, hS3, rfl, (by show 2 ≤ sizeLine; decide), fun t2 nt2 => ?_⟩
      have h4 := h3.same (same_upd (o := .tup [V.str f, V.str m]) nt2) (Nat.le_refl _)
      have et : upd H3 t2 (.tup [V.str f, V.str m]) t2 = some (.tup [V.str f, V.str m]) := upd_same
      generalize upd H3 t2 (.tup [V.str f, V.str m]) = H4 at h4 et
      have hS4 := hS0.same h4.sm
      obtain ⟨cs, c1, c2, c3, c4⟩ := h4.hc
      have hv : (valV cs [Sum.inr f, Sum.inr m]).isSome = true := by
        refine valV_in ?_
        rw [c2]
        exact List.mem_map.mpr ⟨(f, m), j1, rfl⟩
      cases ev : valV cs [Sum.inr f, Sum.inr m] with
      | none => rw [ev] at hv; cases hv
      | some v =>
      obtain ⟨kv, hkv, e2⟩ := valV_mem ev
      obtain ⟨lx, ys, e3, e4, e5, e6⟩ := c3 kv hkv
      rw [e2] at e3
      subst e3
      have dg := DGet.t (k := [Sum.inr f, Sum.inr m]) c1 et
      rw [ev] at dg
      refine ⟨A.c, _, rfl, dg, .inl ⟨rfl, _, SqL.of e4⟩, _, rfl, _, _, _, _, rfl, rfl, hS4, rfl, lx, ys, _, rfl, rfl, e4, lt_line e5 (by omega), ?_⟩
      exact q _ ((h4.app (.str l) e4 e6).same (Same.refl _) (by omega))
    | dies l =>
      obtain rfl := hw.dies_at hvs
      refine ⟨_, rfl, _, _, _, _, rfl, rfl, hS, rfl, rfl, _, rfl, iteF ?_⟩
      refine ⟨_, rfl, _, _, _, _, rfl, rfl, hS, rfl, rfl, _, rfl, iteF ?_⟩
      refine ⟨_, rfl, _, _, _, _, rfl, rfl, hS, rfl, rfl, _, rfl, iteF ?_⟩
      refine ⟨_, rfl, b, dx, _, rfl, hB.hb, rfl, _, rfl, _, _, _, _, rfl, rfl, hS, rfl, ?_⟩
      exact ⟨b, dx, B, n, H0, A, l, rfl, hB, by omega, hj, ok, fun H' h' => q _ (h'.same (Same.refl _) (by omega))⟩
end
end K04

/-! what is wrong with a row -/
namespace K04
open PySem PySem.Spec PyProof.Rows L2
def optV : Option Str → V
  | none => .non
  | some z => .str z
def spComing (CB : Addr) : Sp := fun vs H Q _ => ∃ (b dx : Addr) (B : Bk) (n : Nat) (H0 : Hp) (A : Ads) (wd : Int) (v : V) (d : PyData) (xs : List PyData) (l k : Str) (j : Int) (hs : List Int), vs = [.ref b, .int wd, v] ∧ BkAt CB B n H0 H b dx A ∧ Dt Any H0 v d ∧ seqD d = some xs ∧ RwL xs (.comes l k j hs) ∧ Q (optV (jPc B wd l hs)) H
def spWedding (CB : Addr) : Sp := fun vs H Q _ => ∃ (b dx : Addr) (B : Bk) (n : Nat) (H0 : Hp) (A : Ads) (f m : Str), vs = [.ref b, .str f, .str m] ∧ BkAt CB B n H0 H b dx A ∧ Q (optV (jPw B f m)) H
def spBirth (CB : Addr) : Sp := fun vs H Q _ => ∃ (b dx : Addr) (B : Bk) (n : Nat) (H0 : Hp) (A : Ads) (f m l : Str), vs = [.ref b, .str f, .str m, .str l] ∧ BkAt CB B n H0 H b dx A ∧ ∀ H', Same H H' → Q (optV (jPb B f m l)) H'
def jD (B : Bk) (wd : Int) : Option Rw → Option Str
  | none => some "row"
  | some r => jP B wd r
def spFault (CB : Addr) : Sp := fun vs H Q _ => ∃ (b dx : Addr) (B : Bk) (n : Nat) (H0 : Hp) (A : Ads) (wd : Int) (v : V) (d : PyData) (o : Option Rw), vs = [.ref b, .int wd, v] ∧ BkAt CB B n H0 H b dx A ∧ Dt Any H0 v d ∧ okD d ∧ RowD d o ∧ ∀ H', Same H H' → Q (optV (jD B wd o)) H'
theorem dead_is {ds : List (Key × V)} {D : List Str} (h : ds.map (·.1) = D.map Sum.inr) (x : Str) : (valV ds (Sum.inr x)).isSome = decide (x ∈ D) := by
  rw [valV_keys, h]
  refine decide_eq_decide.mpr ⟨fun z => ?_, fun z => List.mem_map.mpr ⟨_, z, rfl⟩⟩
  obtain ⟨y, hy, ey⟩ := List.mem_map.mp z
  exact (Sum.inr.inj ey) ▸ hy
section
variable {P : Program} {w : World} {K : PySem.W.Frag} {mg : Str → Option Value} {base : Heap}
theorem ok_coming {f CB : Addr} {fd : FuncData} (F : FnP K "_coming_fault" sPComingFault f fd) (T : BookC K CB) (z_len : mg "len" = none) : FnOk P w K mg base CX0 1 f fd ["book", "width", "row"] (spComing CB) := by
  have sc : FnScope ["book", "width", "row"] ["book", "width", "row"] (defScope sPComingFault) := ⟨rfl, rfl, rfl, by decide +kernel, rfl, by decide +kernel, by decide +kernel⟩
  refine F.ok sc (fun vs H Q E h => ?_) (fun cdv A outer s H vs Q E hr h => ?_)
  · obtain ⟨b, dx, B, n, H0, A, wd, v, d, xs, l, k, j, hs, rfl, _⟩ := h
    rfl
  · obtain ⟨b, dx, B, n, H0, A, wd, v, d, xs, l, k, j, hs, rfl, hB, hd, e, hw, q⟩ := h
    have hu := hu_of hr
    refine ⟨_, PSs.nox (pss_cons (ps_if (pt_cmp (pc_din hu (pe_ix ixS (pv 2) pe_int (fun _ _ => rfl)) (pe_fld (pv 0) rfl)))
      (pss_one (ps_ret pe_str))
      pss_nil)
    (pss_one (ps_ret (pe_ifExp (pt_cmpR op_eq (pe_callB call_len_seq (by rfl) z_len boot_len (pa_cons (pe_ix ixS (pv 2) pe_int (fun _ _ => rfl)) pa_nil)) (pv 1) (nomark _)) pe_non pe_str)))), ?_⟩
    obtain ⟨a, vs, rfl, _, hS0, hvs⟩ := hd.seq e
    have hS := hS0.same hB.sm
    obtain ⟨e5, v5, rfl, h5, eh⟩ := hw.comes_at hvs
    obtain ⟨a5, vs5, rfl, _, hS5, hvs5⟩ := h5.seq eh
    have hS5' := hS5.same hB.sm
    have g := DGet.k (k := Sum.inr l) hB.hk
    rw [valV_enc] at g
    refine ⟨_, rfl, _, _, _, _, rfl, rfl, hS, rfl, _, rfl, b, CB, dx, _, _, rfl, hB.hb, T.cl, T.nKinds, rfl, A.k, _, rfl, g, _, rfl, ?_⟩
    unfold jPc lacks at q
    cases el : look B.kinds l with
    | some z =>
      rw [el] at q
      exact iteT q
    | none =>
      rw [el] at q
      refine iteF ?_
      refine ⟨_, rfl, _, _, _, _, rfl, rfl, hS, rfl, _, _, rfl, hS5'.or, _, rfl, rfl, _, rfl, ?_⟩
      have ln : vs5.length = hs.length := by rw [hvs5.len, List.length_map]
      rw [ln]
      have q : Q (optV (if (hs.length : Int) = wd then none else some "width")) H := q
      refine ite2 (fun g => ?_) (fun g => ?_)
      · rw [if_pos (V.int.inj (of_decide_eq_true g))] at q
        exact q
      · rw [if_neg (fun y => g (decide_eq_true (by rw [y])))] at q
        exact q
theorem ok_wedding {f CB : Addr} {fd : FuncData} (F : FnP K "_wedding_fault" sPWeddingFault f fd) (T : BookC K CB) : FnOk P w K mg base CX0 1 f fd ["book", "father", "mother"] (spWedding CB) := by
  have sc : FnScope ["book", "father", "mother"] ["book", "father", "mother"] (defScope sPWeddingFault) := ⟨rfl, rfl, rfl, by decide +kernel, rfl, by decide +kernel, by decide +kernel⟩
  refine F.ok sc (fun vs H Q E h => ?_) (fun cdv A outer s H vs Q E hr h => ?_)
  · obtain ⟨b, dx, B, n, H0, A, f, m, rfl, _⟩ := h
    rfl
  · obtain ⟨b, dx, B, n, H0, A, f, m, rfl, hB, q⟩ := h
    have hu := hu_of hr
    refine ⟨_, PSs.nox (pss_cons (ps_if (PW.pt (pw_or (pt_cmp (pc_dnotin hu (pv 1) (pe_fld (pv 0) rfl))) (pw_or1 (pt_cmp (pc_dnotin hu (pv 2) (pe_fld (pv 0) rfl))))))
      (pss_one (ps_ret pe_str))
      pss_nil)
    (pss_cons (ps_if (PW.pt (pw_or (pt_cmpR op_ne (pe_dget hu (pe_fld (pv 0) rfl) (pv 1) (fun _ _ => rfl)) pe_str (nomark _)) (pw_or1 (pt_cmpR op_ne (pe_dget hu (pe_fld (pv 0) rfl) (pv 2) (fun _ _ => rfl)) pe_str (nomark _)))))
      (pss_one (ps_ret pe_str))
      pss_nil)
    (pss_cons (ps_if (PW.pt (pw_or (pt_cmp (pc_din hu (pv 1) (pe_fld (pv 0) rfl))) (pw_or1 (pt_cmp (pc_din hu (pv 2) (pe_fld (pv 0) rfl))))))
      (pss_one (ps_ret pe_str))
      pss_nil)
    (pss_one (ps_ret (pe_ifExp (PW.pt (pw_or (pt_cmp (pc_din hu (pv 1) (pe_fld (pv 0) rfl))) (pw_or1 (pt_cmp (pc_din hu (pv 2) (pe_fld (pv 0) rfl)))))) pe_str pe_non)))))), ?_⟩
    have gk : ∀ x, DGet H A.k (.str x) ((look B.kinds x).map V.str) := fun x => by
      have g := DGet.k (k := Sum.inr x) hB.hk
      rw [valV_enc] at g
      exact g
    have gn : ∀ x, DGet H A.m (.str x) ((look B.now x).map V.str) := fun x => by
      have g := DGet.k (k := Sum.inr x) hB.hm
      rw [valV_enc] at g
      exact g
    obtain ⟨ds, d1, d2, d3⟩ := hB.hd
    unfold jPw lacks at q
    refine ⟨_, rfl, _, rfl, b, CB, dx, _, _, rfl, hB.hb, T.cl, T.nKinds, rfl, A.k, _, rfl, gk f, _, rfl, ?_⟩
    cases ef : look B.kinds f with
    | none =>
      rw [ef] at q
      exact iteT (iteT q)
    | some kf =>
    rw [ef] at q
    refine iteF ?_
    refine ⟨_, rfl, _, rfl, b, CB, dx, _, _, rfl, hB.hb, T.cl, T.nKinds, rfl, A.k, _, rfl, gk m, _, rfl, ?_⟩
    cases em : look B.kinds m with
    | none =>
      rw [em] at q
      exact iteT q
    | some km =>
    rw [em] at q
    refine iteF ?_
    have q : Q (optV (if some kf ≠ some sonK ∨ some km ≠ some dauK then some "kind" else if f ∈ B.dead ∨ m ∈ B.dead then some "dead" else if ((look B.now f).isSome || (look B.now m).isSome) = true then some "wed" else none)) H := q
    -- kinds
    have gf := gk f
    rw [ef] at gf
    have gm := gk m
    rw [em] at gm
    refine ⟨_, rfl, b, CB, dx, _, _, rfl, hB.hb, T.cl, T.nKinds, rfl, _, rfl, A.k, _, rfl, gf, rfl, _, rfl, ite2 (fun g => ?_) (fun g => ?_)⟩
    · have n1 : some kf ≠ some sonK := fun y => by
        rw [Option.some.inj y] at g
        exact absurd g (by decide)
      rw [if_pos (.inl n1)] at q
      exact iteT q
    have k1 : kf = sonK := Decidable.byContradiction fun y => g (by
      show (!decide (V.str kf = V.str "s")) = true
      rw [decide_eq_false (fun z => y (V.str.inj z))]
      rfl)
    refine ⟨_, rfl, b, CB, dx, _, _, rfl, hB.hb, T.cl, T.nKinds, rfl, _, rfl, A.k, _, rfl, gm, rfl, _, rfl, ite2 (fun g => ?_) (fun g => ?_)⟩
    · have n1 : some km ≠ some dauK := fun y => by
        rw [Option.some.inj y] at g
        exact absurd g (by decide)
      rw [if_pos (.inr n1)] at q
      exact q
    have k2 : km = dauK := Decidable.byContradiction fun y => g (by
      show (!decide (V.str km = V.str "d")) = true
      rw [decide_eq_false (fun z => y (V.str.inj z))]
      rfl)
    subst k1
    subst k2
    rw [if_neg (fun z => z.elim (fun y => y rfl) fun y => y rfl)] at q
    -- the dead
    refine ⟨_, rfl, _, rfl, b, CB, dx, _, _, rfl, hB.hb, T.cl, T.nDead, rfl, A.d, _, rfl, DGet.k (k := Sum.inr f) d1, _, rfl, ?_⟩
    rw [dead_is d2]
    refine ite2 (fun g => ?_) (fun g => ?_)
    · rw [if_pos (.inl (of_decide_eq_true g))] at q
      exact iteT q
    have nf : ¬ f ∈ B.dead := fun y => g (decide_eq_true y)
    refine ⟨_, rfl, _, rfl, b, CB, dx, _, _, rfl, hB.hb, T.cl, T.nDead, rfl, A.d, _, rfl, DGet.k (k := Sum.inr m) d1, _, rfl, ?_⟩
    rw [dead_is d2]
    refine ite2 (fun g => ?_) (fun g => ?_)
    · rw [if_pos (.inr (of_decide_eq_true g))] at q
      exact q
    have nm : ¬ m ∈ B.dead := fun y => g (decide_eq_true y)
    rw [if_neg (fun z => z.elim nf nm)] at q
    -- wed
    refine ⟨_, rfl, _, rfl, b, CB, dx, _, _, rfl, hB.hb, T.cl, T.nNow, rfl, A.m, _, rfl, gn f, _, rfl, ?_⟩
    cases e1 : look B.now f with
    | some z =>
      rw [e1] at q
      exact iteT (iteT q)
    | none =>
    rw [e1] at q
    refine iteF ?_
    refine ⟨_, rfl, _, rfl, b, CB, dx, _, _, rfl, hB.hb, T.cl, T.nNow, rfl, A.m, _, rfl, gn m, _, rfl, ?_⟩
    cases e2 : look B.now m with
    | some z =>
      rw [e2] at q
      exact iteT q
    | none =>
      rw [e2] at q
      exact iteF q
theorem ok_birth {f gC CB : Addr} {fd dC : FuncData} (F : FnP K "_birth_fault" sPBirthFault f fd) (T : BookC K CB) (MC : Mt P w K mg base CB "is_couple" 1 ["self", "father", "mother"] (spCouple CB) gC dC) : FnOk P w K mg base CX0 2 f fd ["book", "father", "mother", "label"] (spBirth CB) := by
  have sc : FnScope ["book", "father", "mother", "label"] ["book", "father", "mother", "label"] (defScope sPBirthFault) := ⟨rfl, rfl, rfl, by decide +kernel, rfl, by decide +kernel, by decide +kernel⟩
  refine F.ok sc (fun vs H Q E h => ?_) (fun cdv A outer s H vs Q E hr1 h => ?_)
  · obtain ⟨b, dx, B, n, H0, A, f, m, l, rfl, _⟩ := h
    rfl
  · obtain ⟨b, dx, B, n, H0, A, f, m, l, rfl, hB, q⟩ := h
    have hu := hu_of hr1
    refine ⟨_, PSs.nox (pss_cons (ps_if (PW.pt (pw_or (pt_cmp (pc_dnotin hu (pv 1) (pe_fld (pv 0) rfl))) (pw_or1 (pt_cmp (pc_dnotin hu (pv 2) (pe_fld (pv 0) rfl))))))
      (pss_one (ps_ret pe_str))
      pss_nil)
    (pss_cons (ps_if (pt_not (pt_val (pe_meth (pv 0) T.cl MC.m MC.ok hr1 MC.bi .nil pass0 (pa_cons (pv 1) (pa_cons (pv 2) pa_nil)))))
      (pss_one (ps_ret pe_str))
      pss_nil)
    (pss_one (ps_ret (pe_ifExp (pt_cmp (pc_din hu (pv 3) (pe_fld (pv 0) rfl))) pe_str pe_non))))), ?_⟩
    have gk : ∀ {H' : Hp}, BkAt CB B n H0 H' b dx A → ∀ x, DGet H' A.k (.str x) ((look B.kinds x).map V.str) := fun hB x => by
      have g := DGet.k (k := Sum.inr x) hB.hk
      rw [valV_enc] at g
      exact g
    unfold jPb lacks at q
    refine ⟨_, rfl, _, rfl, b, CB, dx, _, _, rfl, hB.hb, T.cl, T.nKinds, rfl, A.k, _, rfl, gk hB f, _, rfl, ?_⟩
    cases ef : look B.kinds f with
    | none =>
      rw [ef] at q
      exact iteT (iteT (q _ (Same.refl _)))
    | some kf =>
    rw [ef] at q
    refine iteF ?_
    refine ⟨_, rfl, _, rfl, b, CB, dx, _, _, rfl, hB.hb, T.cl, T.nKinds, rfl, A.k, _, rfl, gk hB m, _, rfl, ?_⟩
    cases em : look B.kinds m with
    | none =>
      rw [em] at q
      exact iteT (q _ (Same.refl _))
    | some km =>
    rw [em] at q
    refine iteF ?_
    refine ⟨_, rfl, b, dx, _, rfl, hB.hb, rfl, _, rfl, _, rfl, b, dx, B, n, H0, A, f, m, rfl, hB, fun H1 s1 => ?_⟩
    have h1 := hB.same s1 (Nat.le_refl _)
    have q : ∀ H', Same H H' → Q (optV (if coupleB B f m = true then (if (look B.kinds l).isNone = true then none else some "label") else some "couple")) H' := q
    cases ec : coupleB B f m with
    | false =>
      rw [ec] at q
      exact ⟨_, rfl, iteT (q _ s1)⟩
    | true =>
    rw [ec] at q
    refine ⟨_, rfl, iteF ?_⟩
    refine ⟨_, rfl, _, rfl, b, CB, dx, _, _, rfl, h1.hb, T.cl, T.nKinds, rfl, A.k, _, rfl, gk h1 l, _, rfl, ?_⟩
    cases el : look B.kinds l with
    | some z =>
      rw [el] at q
      exact iteT (q _ s1)
    | none =>
      rw [el] at q
      exact iteF (q _ s1)
theorem ok_fault {f fR fC fW fB CB : Addr} {fd fdR fdC fdW fdB : FuncData} (F : FnP K "row_fault" sPRowFault f fd) (T : BookC K CB) (dR : Df P w K mg base "is_row" 4 ["row"] spRow fR fdR) (dC : Df P w K mg base "_coming_fault" 1 ["book", "width", "row"] (spComing CB) fC fdC)
    (dW : Df P w K mg base "_wedding_fault" 1 ["book", "father", "mother"] (spWedding CB) fW fdW) (dB : Df P w K mg base "_birth_fault" 2 ["book", "father", "mother", "label"] (spBirth CB) fB fdB) :
    FnOk P w K mg base CX0 5 f fd ["book", "width", "row"] (spFault CB) := by
  have sc : FnScope ["book", "width", "row"] ["book", "width", "row"] (defScope sPRowFault) := ⟨rfl, rfl, rfl, by decide +kernel, rfl, by decide +kernel, by decide +kernel⟩
  refine F.ok sc (fun vs H Q E h => ?_) (fun cdv A outer s H vs Q E hr4 h => ?_)
  · obtain ⟨b, dx, B, n, H0, A, wd, v, d, o, rfl, _⟩ := h
    rfl
  · obtain ⟨b, dx, B, n, H0, A, wd, v, d, o, rfl, hB, hd, okd, ho, q⟩ := h
    have hr1 := hr4.mono (show 1 ≤ 4 by decide)
    have hr2 := hr4.mono (show 2 ≤ 4 by decide)
    have hu := hu_of hr4
    refine ⟨_, PSs.nox (pss_cons (ps_if (pt_not (pt_val (pe_call dR.ok hr4 (by rfl) dR.gl dR.kp dR.bi .nil pass0 (pa_cons (pv 2) pa_nil))))
      (pss_one (ps_ret pe_str))
      pss_nil)
    (pss_cons (ps_if (pt_cmpR op_eq (pe_ix ixS (pv 2) pe_int (fun _ _ => rfl)) pe_str (nomark _))
      (pss_one (ps_ret (pe_call dC.ok hr1 (by rfl) dC.gl dC.kp dC.bi .nil pass0 (pa_cons (pv 0) (pa_cons (pv 1) (pa_cons (pv 2) pa_nil))))))
      pss_nil)
    (pss_cons (ps_if (pt_cmpR op_eq (pe_ix ixS (pv 2) pe_int (fun _ _ => rfl)) pe_str (nomark _))
      (pss_one (ps_ret (pe_call dW.ok hr1 (by rfl) dW.gl dW.kp dW.bi .nil pass0 (pa_cons (pv 0) (pa_cons (pe_ix ixS (pv 2) pe_int (fun _ _ => rfl)) (pa_cons (pe_ix ixS (pv 2) pe_int (fun _ _ => rfl)) pa_nil))))))
      pss_nil)
    (pss_cons (ps_if (pt_cmpR op_eq (pe_ix ixS (pv 2) pe_int (fun _ _ => rfl)) pe_str (nomark _))
      (pss_one (ps_ret (pe_call dB.ok hr2 (by rfl) dB.gl dB.kp dB.bi .nil pass0 (pa_cons (pv 0) (pa_cons (pe_ix ixS (pv 2) pe_int (fun _ _ => rfl)) (pa_cons (pe_ix ixS (pv 2) pe_int (fun _ _ => rfl)) (pa_cons (pe_ix ixS (pv 2) pe_int (fun _ _ => rfl)) pa_nil)))))))
      pss_nil)
    (pss_cons (ps_if (pt_cmp (pc_dnotin hu (pe_ix ixS (pv 2) pe_int (fun _ _ => rfl)) (pe_fld (pv 0) rfl)))
      (pss_one (ps_ret pe_str))
      pss_nil)
    (pss_one (ps_ret (pe_ifExp (pt_cmp (pc_din hu (pe_ix ixS (pv 2) pe_int (fun _ _ => rfl)) (pe_fld (pv 0) rfl))) pe_str pe_non)))))))), ?_⟩
    refine ⟨_, rfl, v, d, rfl, hd.same hB.sm, okd, fun H1 s1 => ?_⟩
    have h1 := hB.same s1 (Nat.le_refl _)
    replace q : ∀ H', Same H1 H' → Q (optV (jD B wd o)) H' := fun H' s' => q H' (s1.trans s')
    rw [ho.is]
    cases ho with
    | no h => exact ⟨_, rfl, iteT (q _ (Same.refl _))⟩
    | @row xs r e hw =>
    refine ⟨_, rfl, iteF ?_⟩
    obtain ⟨a, vs, rfl, _, hS0, hvs⟩ := id (hd.seq e)
    have hS := hS0.same h1.sm
    cases r with
    | comes l k m hs =>
      obtain ⟨e5, v5, rfl, _, _⟩ := hw.comes_at hvs
      refine ⟨_, rfl, _, _, _, _, rfl, rfl, hS, rfl, rfl, _, rfl, iteT ?_⟩
      exact ⟨_, rfl, _, rfl, _, rfl, b, dx, B, n, H0, A, wd, _, d, xs, l, k, m, hs, rfl, h1, hd, e, hw, q _ (Same.refl _)⟩
    | weds f m =>
      obtain rfl := hw.weds_at hvs
      refine ⟨_, rfl, _, _, _, _, rfl, rfl, hS, rfl, rfl, _, rfl, iteF ?_⟩
      refine ⟨_, rfl, _, _, _, _, rfl, rfl, hS, rfl, rfl, _, rfl, iteT ?_⟩
      exact ⟨_, rfl, _, rfl, _, _, _, _, rfl, rfl, hS, rfl, _, rfl, _, _, _, _, rfl, rfl, hS, rfl, b, dx, B, n, H0, A, f, m, rfl, h1, q _ (Same.refl _)⟩
    | born f m k l j =>
      obtain rfl := hw.born_at hvs
      refine ⟨_, rfl, _, _, _, _, rfl, rfl, hS, rfl, rfl, _, rfl, iteF ?_⟩
      refine ⟨_, rfl, _, _, _, _, rfl, rfl, hS, rfl, rfl, _, rfl, iteF ?_⟩
      refine ⟨_, rfl, _, _, _, _, rfl, rfl, hS, rfl, rfl, _, rfl, iteT ?_⟩
      exact ⟨_, rfl, _, rfl, _, _, _, _, rfl, rfl, hS, rfl, _, rfl, _, _, _, _, rfl, rfl, hS, rfl, _, rfl, _, _, _, _, rfl, rfl, hS, rfl, b, dx, B, n, H0, A, f, m, l, rfl, h1, fun H2 s2 => q _ s2⟩
    | dies l =>
      obtain rfl := hw.dies_at hvs
      refine ⟨_, rfl, _, _, _, _, rfl, rfl, hS, rfl, rfl, _, rfl, iteF ?_⟩
      refine ⟨_, rfl, _, _, _, _, rfl, rfl, hS, rfl, rfl, _, rfl, iteF ?_⟩
      refine ⟨_, rfl, _, _, _, _, rfl, rfl, hS, rfl, rfl, _, rfl, iteF ?_⟩
      have g := DGet.k (k := Sum.inr l) h1.hk
      rw [valV_enc] at g
      obtain ⟨ds, d1, d2, d3⟩ := h1.hd
      replace q : Q (optV (jPd B l)) H1 := q _ (Same.refl _)
      unfold jPd lacks at q
      refine ⟨_, rfl, _, _, _, _, rfl, rfl, hS, rfl, _, rfl, b, CB, dx, _, _, rfl, h1.hb, T.cl, T.nKinds, rfl, A.k, _, rfl, g, _, rfl, ?_⟩
      cases el : look B.kinds l with
      | none =>
        rw [el] at q
        exact iteT q
      | some z =>
      rw [el] at q
      refine iteF ?_
      have q : Q (optV (if l ∈ B.dead then some "dead" else none)) H1 := q
      refine ⟨_, rfl, _, _, _, _, rfl, rfl, hS, rfl, _, rfl, b, CB, dx, _, _, rfl, h1.hb, T.cl, T.nDead, rfl, A.d, _, rfl, DGet.k (k := Sum.inr l) d1, _, rfl, ?_⟩
      rw [dead_is d2]
      refine ite2 (fun g => ?_) (fun g => ?_)
      · rw [if_pos (of_decide_eq_true g)] at q
        exact q
      · rw [if_neg (fun y => g (decide_eq_true y))] at q
        exact q
end
end K04

/-! enumerate over a tuple -/
namespace K04
open PySem PySem.Spec PyProof.Rows
open AutoSeq1 (wpAny_loadPart')
theorem enum_new_tuple (l : Addr) (items : Array Value) (n : Nat) (dct : Option Addr) (sl : Array (Option Value)) :
    Meets (Builtin.«enumerate.__new__» ⟨[.type "enumerate", .ref l], []⟩) (fun _ R s => s.heap.get? l = some { cls := .type "tuple", dict := dct, data := .seq items n, slots := sl } ∧
      R (.ok (.ret (.ref (s.heap.push { cls := .type "tuple_iterator", data := .fields #[.ref l, .int 0 0] }).objs.size)))
        { s with heap := (s.heap.push { cls := .type "tuple_iterator", data := .fields #[.ref l, .int 0 0] }).push { cls := .type "enumerate", data := .fields #[.none, .bool false, .ref s.heap.objs.size, rawInt 0, .none, .none] } }) :=
  .of_wp fun prog w A R s h => by
    obtain ⟨hp, g, d, tk, os⟩ := s
    obtain ⟨hl, h⟩ := h
    have subE := sub_enumerate
    have isT : Heap.IsTuple (Shared.heap ⟨hp, g, d, tk, os⟩) l items := ⟨_, hl, rfl, n, rfl⟩
    wp_walk using wpAny_loadPart' hl
    refine wpAny_stack_any fun st => wpAny_pure ?_
    split
    · rename_i c _ _ _ _ _
      cases (c == Value.type "enumerate")
      · wp_walk using wpAny_loadPart' hl, wpAny_pyIter_tuple isT
        exact ⟨_, rfl, h⟩
      · wp_walk using wpAny_loadPart' hl, wpAny_pyIter_tuple isT
        exact ⟨_, rfl, h⟩
    · wp_walk using wpAny_loadPart' hl, wpAny_pyIter_tuple isT
      exact ⟨_, rfl, h⟩
section
variable {prog : Program} {w : World} {A : Around} {E : Value → Shared → Prop} {s : Shared}
theorem call_enum_tuple {l : Addr} {items : Array Value} {Q : Value → Shared → Prop} (hL : IsTup s.heap l items)
    (h : ∀ h', IsEnum h' (s.heap.objs.size + 1) s.heap.objs.size 0 .none → h'.IsTupleIter s.heap.objs.size l 0 → h'.objs.size = s.heap.objs.size + 2 →
      (∀ b o, s.heap.get? b = some o → h'.get? b = some o) → Q (.ref (s.heap.objs.size + 1)) { s with heap := h' }) :
    wpAny (model prog w) A (call (.type "enumerate") [.ref l]) Q E s := by
  obtain ⟨⟨c, dct, dt, sl⟩, hl, hc, n, hd⟩ := hL
  replace hc : c = .type "tuple" := hc
  replace hd : dt = .seq items n := hd
  subst hc hd
  refine callType_new F.called_enumerate (by decide) (F.typeCall_enumerate_1 _) (F.newCall_enumerate_1 _) (fun obj => F.args_object_init_2 obj _) F.entry_enumerate_new (enum_new_tuple l items n dct sl) ⟨hl, ?_⟩
  have hz : (s.heap.push { cls := .type "tuple_iterator", data := .fields #[.ref l, .int 0 0] }).objs.size = s.heap.objs.size + 1 := Heap.size_push ..
  show _ ∧ _
  rw [hz]
  have he : IsEnum ((s.heap.push { cls := .type "tuple_iterator", data := .fields #[.ref l, .int 0 0] }).push
      { cls := .type "enumerate", data := .fields #[.none, .bool false, .ref s.heap.objs.size, rawInt 0, .none, .none] }) (s.heap.objs.size + 1) s.heap.objs.size 0 .none := by
    have e0 := Heap.get?_push_size (s.heap.push { cls := .type "tuple_iterator", data := .fields #[.ref l, .int 0 0] })
      (o := { cls := .type "enumerate", data := .fields #[.none, .bool false, .ref s.heap.objs.size, rawInt 0, .none, .none] }) rfl
    rw [hz] at e0
    exact e0
  exact ⟨⟨_, he, rfl⟩, h _ he ⟨_, Heap.get?_push_of_some _ (Heap.get?_push_size _ rfl), rfl, rfl⟩ (by rw [Heap.size_push, hz]) fun b o x => Heap.get?_push_of_some _ (Heap.get?_push_of_some _ x)⟩
end
open L2
/-- the tuple at a, its items in new pairs with their numbers -/
def IteT (K : PySem.W.Frag) (a : Addr) : It :=
  ⟨fun i H => ∃ (xs : List V) (x : V), SqT K H a xs ∧ xs[i]? = some x, fun i H v H' => ∃ T x, v = .ref T ∧ H T = none ∧ H' = upd H T (.tup [.int (i : Nat), x]) ∧ ∀ xs, SqT K H a xs → xs[i]? = some x, fun i H => ∃ xs : List V, SqT K H a xs ∧ xs.length = i⟩
theorem turn_enumT {P : Program} {w : World} {K : PySem.W.Frag} {elts : List Expr} {kk : Nat} {tpos : Pos} (a e it : Addr) :
    Turn P w K (.Tuple elts kk tpos) (IteT K a) [e, it] e (fun i h => (∃ old, IsEnum h e it ((i : Nat) : Int) old) ∧ h.IsTupleIter it a i ∧ e ≠ it) where
  mem := by simp
  obj := fun i h st b hb => by
    obtain ⟨⟨old, he⟩, ⟨o, ho, hc, hd⟩, _⟩ := st
    have e' : b = e ∨ b = it := by simpa using hb
    rcases e' with z | z
    · rw [z]; exact ⟨_, he, fun v q => nomatch q⟩
    · rw [z]; exact ⟨o, ho, fun v q => by rw [hd] at q; cases q⟩
  keep := fun i h h' st k => let ⟨⟨old, he⟩, hi, hne⟩ := st; ⟨⟨old, k e (by simp) _ he⟩, hi.at fun o q => k it (by simp) o q, hne⟩
  item := by
    intro X hP hw hK hc i pins s σ H E I hf st hg
    subst hP hw hK
    obtain ⟨⟨old, he⟩, hit, hne⟩ := st
    obtain ⟨xs, x, hq, hx⟩ := hg
    obtain ⟨its, rv, p, hz⟩ := I.tuple hq
    obtain ⟨u, hu, ru⟩ := rv.get hx
    have hel : e < s.heap.objs.size := Heap.lt_size he
    have hil : it < s.heap.objs.size := by obtain ⟨_, q, _⟩ := hit; exact Heap.lt_size q
    have nae : e ≠ a := fun z => by
      obtain ⟨o, ho, hcl, _⟩ := p
      rw [← z, he] at ho
      have z2 := Option.some.inj ho
      subst z2
      exact absurd (Value.type.inj hcl) (by decide)
    have nai : a ≠ it := fun z => by
      obtain ⟨o, ho, hcl, _⟩ := p
      obtain ⟨o2, ho2, hc2, _⟩ := hit
      rw [z, ho2] at ho
      have z2 := Option.some.inj ho
      subst z2
      rw [hcl] at hc2
      exact absurd (Value.type.inj hc2) (by decide)
    have hi : i < its.toArray.size := by
      have z := (List.getElem?_eq_some_iff.mp hu).1
      simpa using z
    refine wpAny_pyNext_enum_itemD (Draws.tuple (A := X.A.in1) (I.ok.hd hc) it a nai its.toArray) he ⟨hit, show s.heap.IsTuple a its.toArray from p⟩ hi hne (by simp only [List.mem_cons, List.not_mem_nil, or_false, not_or]; exact ⟨hne, nae⟩) fun y h' tk hP ho hst' hT hsz hk => ?_
    have ey : y = u := by
      have z : its.toArray[i]? = some u := by simpa using hu
      exact Option.some.inj (hP.symm.trans z)
    subst ey
    refine ⟨_, rfl, wpAny_letOwnedTupleGo_enum (s := { s with heap := h', toks := tk + 1 }) ho fun h'' he' sb => ?_⟩
    have hT2 : h''.get? s.heap.objs.size = some { cls := .type "tuple", data := .seq #[.int i tk, y] } := (sb.2 _ (Nat.ne_of_gt hel)).trans hT
    have new : ObjOk X.prog X.w (upd H s.heap.objs.size (.tup [.int (i : Nat), x])) h'' s.heap.objs.size (.tup [.int (i : Nat), x]) :=
      ⟨by show 2 ≤ sizeLine; decide, [.int i tk, y], .cons ⟨_, rfl⟩ (.cons ru .nil), ⟨_, hT2, rfl, _, rfl⟩⟩
    have I1 : Inv X pins σ (upd H s.heap.objs.size (.tup [.int (i : Nat), x])) { s with heap := h'', toks := tk + 1 } :=
      I.turnedNew (ch := [e, it]) (fun b ob hb q => (sb.2 b (fun z => hb (by simp [z]))).trans (hk b ob (fun z => hb (by simp [z])) (fun z => hb (by simp [z])) q)) hf (Nat.le_refl _) new
    refine ⟨.ref s.heap.objs.size, _, I1, rfl, ⟨_, x, rfl, I.hok.fresh (Nat.le_refl _), rfl, fun ys hy => by rw [I.tuple_inj hy hq]; exact hx⟩, ⟨⟨y, ?_⟩, hst'.1.at fun o q => (sb.2 it (Ne.symm hne)).trans q, hne⟩, fun b hb => ?_⟩
    · have e1 : ((i + 1 : Nat) : Int) = (i : Int) + 1 := by omega
      rw [e1]; exact he'
    · have hb' : b < s.heap.objs.size := by
        have e' : b = e ∨ b = it := by simpa using hb
        rcases e' with z | z
        · rw [z]; exact hel
        · rw [z]; exact hil
      rw [upd_ne (Nat.ne_of_lt hb')]
      exact (hf b hb).1
  done := by
    intro X hP hw hK hc i pins s σ H E I hf st hg
    subst hP hw hK
    obtain ⟨⟨old, he⟩, hit, hne⟩ := st
    obtain ⟨xs, hq, hx⟩ := hg
    obtain ⟨its, rv, p, hz⟩ := I.tuple hq
    obtain ⟨f0, f1, f2, f3, f4, f5⟩ := hf it (by simp)
    have nai : a ≠ it := fun z => by
      obtain ⟨o, ho, hcl, _⟩ := p
      obtain ⟨o2, ho2, hc2, _⟩ := hit
      rw [z, ho2] at ho
      have z2 := Option.some.inj ho
      subst z2
      rw [hcl] at hc2
      exact absurd (Value.type.inj hc2) (by decide)
    have hn : its.toArray.size = i := by
      have hl := rv.length
      simp only [List.size_toArray]
      omega
    have D := Draws.tuple (prog := X.prog) (w := X.w) (A := X.A.in1) (I.ok.hd hc) it a nai its.toArray
    rw [hn] at D
    exact wpAny_pyNext_enum_endD D he ⟨hit, show s.heap.IsTuple a its.toArray from p⟩ fun h' eb => ⟨rfl, I.turned (t' := s.toks) (fun b o hb q => eb b o hb q) f0 f1 f3 f4 f5⟩
  self := fun A i s Q E st h => let ⟨⟨_, he⟩, _⟩ := st; wpAny_pyIter_enum he h
def iEnumT (K : PySem.W.Frag) (ta : TA) : TI := fun σ H R => ta σ H fun vs H1 => ∃ a xs, vs = [.ref a] ∧ SqT K H1 a xs ∧ R (IteT K a) H1
theorem pi_enumT {X : Cx} {e : Expr} {ta : TA} {p pos tpos : Pos} {elts : List Expr} {kk : Nat} (hg : Gl X "enumerate") (hm : X.mg "enumerate" = none) (ha : PA X [e] ta) (hs : starEach [e] X.env = [(false, eval e X.env)]) :
    PI X (.Tuple elts kk tpos) (.Call (.Name "enumerate" p) [e] [] pos) (iEnumT X.K ta) := by
  refine ⟨fun pins s σ H R I h => ?_⟩
  refine Call_ (ld_blt I hg hm boot_enumerate (PyProof.Rows.callWith_type1 (thn (ha.run pos pins s σ H _ I h) fun us s1 ⟨vs, H1, I1, r1, q1⟩ => ?_) hs rfl))
  obtain ⟨a, xs, rfl, hq, q⟩ := q1
  obtain ⟨u, rfl, rx⟩ := vals1 r1
  cases (show u = Value.ref a from rx)
  obtain ⟨its, rv, tp, hz⟩ := I1.tuple hq
  refine call_enum_tuple tp fun h' he hit hsz hk => wpAny_pyIter_enum he ?_
  have I2 : Inv X pins σ H1 { s1 with heap := h' } := I1.kept (t' := s1.toks) hk
  refine ⟨s1.heap.objs.size + 1, [s1.heap.objs.size + 1, s1.heap.objs.size], _, _, H1, rfl, I2, turn_enumT a (s1.heap.objs.size + 1) s1.heap.objs.size, ⟨⟨.none, he⟩, hit, Nat.succ_ne_self _⟩, fun b hb => ?_, q⟩
  have hle : s1.heap.objs.size ≤ b := by
    have e' : b = s1.heap.objs.size + 1 ∨ b = s1.heap.objs.size := by simpa using hb
    rcases e' with z | z
    · rw [z]
      exact Nat.le_succ _
    · rw [z]
      exact Nat.le_refl _
  exact I1.fpOk hle (I1.hok.fresh hle)
theorem walk_enumT {K : PySem.W.Frag} {a : Addr} {xs : List V} : Walk (IteT K a) xs.length (fun H => SqT K H a xs) (YPair (fun i => some (.int (i : Nat))) (fun i => xs[i]?)) := by
  refine ⟨fun i _ hi q => ⟨xs, xs[i], q, by simp [hi]⟩, fun _ q => ⟨xs, q, rfl⟩, fun i H v H' _ q y => ?_⟩
  obtain ⟨T, x, h1, h2, h3, h4⟩ := y
  exact ⟨T, .int (i : Nat), x, h1, h2, h3, rfl, h4 xs q⟩
end K04

/-! all rows are written, or the first fault is told -/
namespace K04
open PySem PySem.Spec PyProof.Rows L2
def stepO (B : Bk) : Option Rw → Bk
  | none => B
  | some r => wP B r
def faultO (wd : Int) : Bk → Nat → List (Option Rw) → Option (Nat × Str)
  | _, _, [] => none
  | B, i, o :: os => match jD B wd o with
    | some z => some (i, z)
    | none => faultO wd (stepO B o) (i + 1) os
/-- the rows, as they are -/
inductive RowsD : List PyData → List (Option Rw) → Prop where
  | nil : RowsD [] []
  | cons {d : PyData} {o : Option Rw} {ds : List PyData} {os : List (Option Rw)} (h : RowD d o) (k : okD d) (r : RowsD ds os) : RowsD (d :: ds) (o :: os)
theorem RowsD.len {ds : List PyData} {os : List (Option Rw)} (h : RowsD ds os) : ds.length = os.length := by
  induction h with
  | nil => rfl
  | cons _ _ _ ih => exact congrArg Nat.succ ih
theorem RowsD.get {ds : List PyData} {os : List (Option Rw)} (h : RowsD ds os) {i : Nat} {d : PyData} (e : ds[i]? = some d) : ∃ o, os[i]? = some o ∧ RowD d o ∧ okD d := by
  induction h generalizing i with
  | nil => cases e
  | cons a k r ih =>
    cases i with
    | zero => cases e; exact ⟨_, rfl, a, k⟩
    | succ i => exact ih e
theorem RowsD.app {ds es : List PyData} {os ps : List (Option Rw)} (h : RowsD ds os) (g : RowsD es ps) : RowsD (ds ++ es) (os ++ ps) := by
  induction h with
  | nil => exact g
  | cons a k r ih => exact .cons a k ih
theorem RowsD.take {ds : List PyData} {os : List (Option Rw)} (h : RowsD ds os) (n : Nat) : RowsD (ds.take n) (os.take n) := by
  induction h generalizing n with
  | nil => cases n <;> exact .nil
  | cons a k r ih =>
    cases n with
    | zero => exact .nil
    | succ n => exact .cons a k (ih n)
theorem drop_cons {α : Type} {xs : List α} {i : Nat} {v : α} (h : xs[i]? = some v) : xs.drop i = v :: xs.drop (i + 1) := by
  obtain ⟨hi, e⟩ := List.getElem?_eq_some_iff.mp h
  rw [List.drop_eq_getElem_cons hi, e]
theorem take_snoc {α : Type} {xs : List α} {i : Nat} {v : α} (h : xs[i]? = some v) : xs.take (i + 1) = xs.take i ++ [v] := by
  rw [List.take_add_one, h]
  rfl
/-- a width, rows -/
structure Plan (H : Hp) (wd : Int) (v : V) (os : List (Option Rw)) (d : PyData) (ds : List PyData) : Prop where
  w0 : 0 ≤ wd
  w2 : wd ≤ 2
  hd : Dt Any H v d
  es : seqD d = some ds
  few : ds.length ≤ 5000
  rows : RowsD ds os
theorem Plan.same {H H' : Hp} {wd : Int} {v : V} {os : List (Option Rw)} {d : PyData} {ds : List PyData} (p : Plan H wd v os d ds) (s : Same H H') : Plan H' wd v os d ds := ⟨p.w0, p.w2, p.hd.same s, p.es, p.few, p.rows⟩
abbrev bookO (os : List (Option Rw)) : Bk := os.foldl stepO Bk.new
def spWR (CB : Addr) : Sp := fun vs H Q _ => ∃ (b dx : Addr) (H0 : Hp) (A : Ads) (wd : Int) (v : V) (os : List (Option Rw)) (d : PyData) (ds : List PyData), vs = [.ref b, .int wd, v] ∧ BkAt CB Bk.new 0 H0 H b dx A ∧ Plan H0 wd v os d ds ∧
  (faultO wd Bk.new 0 os = none → ∀ H', BkAt CB (bookO os) 25000 H0 H' b dx A → Q .non H') ∧
  ∀ i z, faultO wd Bk.new 0 os = some (i, z) → ∀ (H' : Hp) (t : Addr), Same H0 H' → H' t = some (.tup [.int (i : Int), .str z]) → Q (.ref t) H'
def Kp (a : Addr) (H H' : Hp) : Prop := ∀ o, H a = some o → H' a = some o
/-- enumerate, of a list or a tuple -/
theorem enum_any {K : PySem.W.Frag} {σ : L2.St} {H : Hp} {R : It → Hp → Prop} {te : TE} {a : Addr} {xs : List V} (he : ∀ Q : VK, Q (.ref a) H → te σ H Q) (hS : Sq H a xs)
    (key : ∀ (it : It) (G : Hp → Prop), Walk it xs.length G (YPair (fun i => some (.int (i : Nat))) (fun i => xs[i]?)) → (∀ H', Kp a H H' → G H') → R it H) :
    iEnum K (tCons te tNil) σ H R ∨ iEnumT K (tCons te tNil) σ H R := by
  rcases hS with h | h
  · exact .inl (he _ ⟨a, xs, rfl, SqL.of h, key _ _ walk_enum fun H' k => SqL.of (k _ h)⟩)
  · exact .inr (he _ ⟨a, xs, rfl, SqT.of h, key _ _ walk_enumT fun H' k => SqT.of (k _ h)⟩)
theorem Sq.kp {H0 H H' : Hp} {a : Addr} {xs : List V} (h : Sq H0 a xs) (s : Same H0 H) (s' : Same H0 H') : Kp a H H' := fun o e => by
  rcases h with h | h
  · rw [s _ _ h] at e
    cases e
    exact s' _ _ h
  · rw [s _ _ h] at e
    cases e
    exact s' _ _ h
theorem whole_wd {wd : Int} (h0 : 0 ≤ wd) (h2 : wd ≤ 2) : wholeV (.int wd) 0 2 = true := by
  show (decide (0 ≤ wd) && decide (wd ≤ 2)) = true
  rw [decide_eq_true h0, decide_eq_true h2]
  rfl
/-- Book() -/
structure BookMk (P : Program) (w : World) (K : PySem.W.Frag) (mg : Str → Option Value) (base : Heap) (CB fI : Addr) (fdI : FuncData) : Prop where
  mks : Mk K CB fI
  gl : mg "Book" = some (.ref CB)
  ok : FnOk P w K mg base CX0 1 fI fdI ["self"] (spBInit CB)
  bi : Binds K fdI ["self"] []
def spRF : Sp := fun vs H Q _ => ∃ (wd : Int) (v : V) (os : List (Option Rw)) (d : PyData) (ds : List PyData), vs = [.int wd, v] ∧ Plan H wd v os d ds ∧
  (faultO wd Bk.new 0 os = none → ∀ H', Same H H' → Q .non H') ∧ ∀ i z, faultO wd Bk.new 0 os = some (i, z) → ∀ (H' : Hp) (t : Addr), Same H H' → H' t = some (.tup [.int (i : Int), .str z]) → Q (.ref t) H'
theorem same_ins {H : Hp} {x dx C : Addr} (nx : H x = none) (nd : H dx = none) (ne : dx ≠ x) : Same H (upd (upd H dx (.own x)) x (.ins C dx [])) := fun y o e => by
  rw [upd_ne (ne_of_none e nx), upd_ne (ne_of_none e nd)]
  exact e
section
variable {P : Program} {w : World} {K : PySem.W.Frag} {mg : Str → Option Value} {base : Heap}
theorem ok_wr {f fW fS fF fM CB : Addr} {fd fdW fdS fdF fdM : FuncData} (F : FnP K "_write_rows" sPWriteRows f fd) (T : BookC K CB) (z_len : mg "len" = none) (z_enumerate : mg "enumerate" = none) (g_MOST_ROWS : ∃ t, mg "MOST_ROWS" = some (.int 5000 t)) (g_MOST_WIDTH : ∃ t, mg "MOST_WIDTH" = some (.int 2 t))
    (dW : Df P w K mg base "is_whole" 1 ["thing", "low", "high"] spWhole fW fdW) (dS : Df P w K mg base "is_sequence" 1 ["thing"] spSeq fS fdS)
    (dF : Df P w K mg base "row_fault" 5 ["book", "width", "row"] (spFault CB) fF fdF) (MM : Mt P w K mg base CB "write" 2 ["self", "index", "row"] (spWrite CB) fM fdM) :
    FnOk P w K mg base CX0 6 f fd ["book", "width", "rows"] (spWR CB) := by
  obtain ⟨tr, g_MOST_ROWS⟩ := g_MOST_ROWS
  obtain ⟨tw, g_MOST_WIDTH⟩ := g_MOST_WIDTH
  have sc : FnScope ["book", "width", "rows", "index", "row", "what"] ["book", "width", "rows"] (defScope sPWriteRows) := ⟨rfl, rfl, rfl, by decide +kernel, rfl, by decide +kernel, by decide +kernel⟩
  refine F.ok sc (fun vs H Q E h => ?_) (fun cdv A outer s H vs Q E hr5 h => ?_)
  · obtain ⟨b, dx, H0, A, wd, v, os, d, ds, rfl, _⟩ := h
    rfl
  · obtain ⟨b, dx, H0, AA, wd, v, os, d, ds, rfl, hB, pl, q1, q2⟩ := h
    have hr1 := hr5.mono (show 1 ≤ 5 by decide)
    refine ⟨_, PSs.nox (pss_cons (ps_if (pt_not (pt_val (pe_call dW.ok hr1 (by rfl) dW.gl dW.kp dW.bi .nil pass0 (pa_cons (pv 1) (pa_cons pe_int (pa_cons (pe_glob (by rfl) g_MOST_WIDTH (v := .int 2) ⟨_, rfl⟩) pa_nil))))))
      (pss_one (ps_ret (pe_tup (pa_cons pe_int (pa_cons pe_str pa_nil)))))
      pss_nil)
    (pss_cons (ps_if (pt_not (pt_val (pe_call dS.ok hr1 (by rfl) dS.gl dS.kp dS.bi .nil pass0 (pa_cons (pv 2) pa_nil))))
      (pss_one (ps_ret (pe_tup (pa_cons pe_int (pa_cons pe_str pa_nil)))))
      pss_nil)
    (pss_cons (ps_if (pt_cmpR op_gt (pe_callB call_len_seq (by rfl) z_len boot_len (pa_cons (pv 2) pa_nil)) (pe_glob (by rfl) g_MOST_ROWS (v := .int 5000) ⟨_, rfl⟩) (nomark _))
      (pss_one (ps_ret (pe_tup (pa_cons (pe_glob (by rfl) g_MOST_ROWS (v := .int 5000) ⟨_, rfl⟩) (pa_cons pe_str pa_nil)))))
      pss_nil)
    (pss_cons (ps_for PassesOwn.never rfl (pi_or (pi_enum (by rfl) z_enumerate (pa_cons (pv 2) pa_nil)) (pi_enumT (by rfl) z_enumerate (pa_cons (pv 2) pa_nil) rfl)) (pg_tup (by rfl) (pgs_cons (pg_name (i := 3) sc.nd rfl (.inl rfl)) (pgs_cons (pg_name (i := 4) sc.nd rfl (.inl rfl)) pgs_nil)))
      (pss_cons (ps_set (i := 5) sc.nd rfl (.inl rfl) (pe_call dF.ok hr5 (by rfl) dF.gl dF.kp dF.bi .nil pass0 (pa_cons (pv 0) (pa_cons (pv 1) (pa_cons (pv 4) pa_nil)))))
      (pss_cons (ps_if (pt_cmpR op_notN (pv 5) pe_non (nomark _))
        (pss_one (ps_ret (pe_tup (pa_cons (pv 3) (pa_cons (pv 5) pa_nil)))))
        pss_nil)
      (pss_one (ps_expr (pe_meth (pv 0) T.cl MM.m MM.ok (hr5.mono (by decide)) MM.bi .nil pass0 (pa_cons (pv 3) (pa_cons (pv 4) pa_nil))))))))
    (pss_one (ps_ret pe_non)))))), ?_⟩
    obtain ⟨a, xs, rfl, _, hS0, hxs⟩ := id (pl.hd.seq pl.es)
    have el := hxs.len
    have ed := seq_ty d
    rw [pl.es] at ed
    refine ⟨_, rfl, _, _, _, _, rfl, .int _, ?_⟩
    rw [whole_wd pl.w0 pl.w2]
    refine ⟨_, rfl, iteF ⟨_, rfl, _, _, rfl, (pl.hd.same hB.sm).odd, fun u nu => ?_⟩⟩
    rw [ed]
    refine ⟨_, rfl, iteF ?_⟩
    have su := same_upd (o := .tup [.ty "list", .ty "tuple"]) nu
    have hB1 := hB.same su (Nat.le_refl _)
    generalize upd H u (.tup [.ty "list", .ty "tuple"]) = H1 at su hB1
    have hS1 := hS0.same hB1.sm
    refine ⟨_, rfl, _, _, rfl, hS1.or, _, _, rfl, rfl, _, rfl, ite2 (fun z => absurd (of_decide_eq_true z) (by rw [el]; have := pl.few; omega)) (fun _ => ?_)⟩
    refine enum_any (fun Q q => ⟨_, rfl, q⟩) hS1 fun it G wk keep => for_it wk (fun i σ H' => ∃ (x3 x4 x5 : Option V) (B : Bk), σ = [some (.ref b), some (.int wd), some (.ref a), x3, x4, x5] ∧ BkAt CB B (5 * i) H0 H' b dx AA ∧ BkOk B ∧ faultO wd B i (os.drop i) = faultO wd Bk.new 0 os ∧ B = bookO (os.take i))
      ⟨none, none, none, Bk.new, rfl, hB1, BkOk.new, rfl, rfl⟩ (fun i σ H' _ ⟨_, _, _, _, _, h, _⟩ => keep _ (hS0.kp hB1.sm h.sm)) ?_ ?_
    · rintro i x σ H2 H3 hi ⟨x3, x4, x5, B, rfl, hb, bo, hf, hbook⟩ ⟨T', u', v, rfl, nT, rfl, eu, ev⟩
      obtain rfl : u' = .int (i : Int) := (Option.some.inj eu).symm
      obtain ⟨d', ed', hd'⟩ := hxs.get ev
      obtain ⟨o, eo, ho, okd⟩ := pl.rows.get ed'
      rw [drop_cons eo] at hf
      have hi' : i < 5000 := by have := pl.few; omega
      have hb1 := hb.same (same_upd (o := .tup [.int (i : Int), v]) nT) (Nat.le_refl _)
      refine ⟨T', _, rfl, .inl (.inl upd_same), rfl, _, _, rfl, _, _, rfl, rfl, ?_⟩
      generalize upd H2 T' (.tup [.int (i : Int), v]) = H4 at hb1
      refine ⟨_, rfl, _, rfl, _, rfl, b, dx, B, 5 * i, H0, AA, wd, v, d', o, rfl, hb1, hd', okd, ho, fun H5 s5 => ?_⟩
      have hb2 := hb1.same s5 (Nat.le_refl _)
      cases ej : jD B wd o with
      | some z =>
        have hf : (match jD B wd o with | some z => some (i, z) | none => faultO wd (stepO B o) (i + 1) (os.drop (i + 1))) = faultO wd Bk.new 0 os := hf
        rw [ej] at hf
        refine ⟨_, rfl, rfl, _, rfl, iteT ⟨_, rfl, _, rfl, (by show 2 ≤ sizeLine; decide), fun t nt => ?_⟩⟩
        exact q2 i z hf.symm _ t (hb2.sm.trans (same_upd nt)) upd_same
      | none =>
        have hf : (match jD B wd o with | some z => some (i, z) | none => faultO wd (stepO B o) (i + 1) (os.drop (i + 1))) = faultO wd Bk.new 0 os := hf
        rw [ej] at hf
        refine ⟨_, rfl, rfl, _, rfl, iteF ?_⟩
        cases ho with
        | no h => cases ej
        | @row ys r ed2 hw =>
        refine ⟨_, rfl, b, dx, _, rfl, hb2.hb, rfl, _, rfl, _, rfl, b, dx, B, 5 * i, H0, AA, i, v, d', ys, r, wd, rfl, hb2, by omega, bo, hd', ed2, hw, ej, fun H6 h6 => ?_⟩
        refine ⟨_, _, _, wP B r, rfl, h6.same (Same.refl _) (by omega), bo.step ej, hf, ?_⟩
        rw [take_snoc eo, hbook]
        show _ = (os.take i ++ [some r]).foldl stepO Bk.new
        rw [List.foldl_append]
        rfl
    · rintro σ H2 ⟨x3, x4, x5, B, rfl, hb, bo, hf, hbook⟩
      have hn : xs.length = os.length := by rw [el, pl.rows.len]
      rw [hn, List.drop_of_length_le (Nat.le_refl _)] at hf
      rw [hn, List.take_of_length_le (Nat.le_refl _)] at hbook
      subst hbook
      exact q1 hf.symm H2 (hb.same (Same.refl _) (by have := pl.few; omega))
end
end K04

/-! tuple(d) of a dict: its keys in order -/
namespace K04
open PySem PySem.Spec PyProof.Rows
section
variable {prog : Program} {w : World} {A : Around} {E : Value → Shared → Prop} {s : Shared} {d : Addr} {n : Nat} {P : Nat → Value → Prop} {OK : Heap → Prop}
theorem collect_dict {Q : List Value → Shared → Prop} (K : PySem.W.KdlSrc prog w "dict" d d n P OK) (hh : A.handled = none) (hok : OK s.heap) (hn : n ≤ sizeLine)
    (hQ : ∀ (h' : Heap) (tk : Nat) (acc : Array Value), (∀ b o, s.heap.get? b = some o → h'.get? b = some o) → ItemsOf P acc n → Q acc.toList { s with heap := h', toks := tk }) :
    wpAny (model prog w) A (collect (.ref d)) Q E s := by
  have hlt := K.there _ hok
  unfold collect
  refine wpAny_bind (wpAny_runValue (codeAny_builtin F.entry_proto_collect ?_))
  rw [Around.under_plainId F.plain_proto_collect _]
  show wpAny _ A.in1 (newList [] >>= fun l => again (.builtin "list.__iadd__" ⟨[l, .ref d], []⟩)) _ _ s
  refine wpAny_bind (wpAny_newObj_type ?_)
  refine wpAny_pure ⟨plainId_quiet F.plain_list_iadd _, codeAny_builtin F.entry_list_iadd ?_⟩
  rw [Around.under_plainId F.plain_list_iadd _]
  show wpAny _ A.in1 (Builtin.List.listExtendWith (.ref s.heap.objs.size) (.ref d) (.ref s.heap.objs.size)) _ _ _
  have hS : (s.heap.push { cls := .type "list", data := .seq ([] : List Value).toArray }).get? s.heap.objs.size = some { cls := .type "list", data := .seq #[] 0 } := Heap.get?_push_size _ rfl
  have step := PySem.W.kdl_extend (A := A) (s := { s with heap := s.heap.push { cls := .type "list", data := .seq ([] : List Value).toArray } })
    (R := fun r s' => ∃ h' tk acc c, r = .ok (.ret (.ref s.heap.objs.size)) ∧ s' = { s with heap := h', toks := tk } ∧ (∀ b o, s.heap.get? b = some o → h'.get? b = some o) ∧ h'.get? s.heap.objs.size = some { cls := .type "list", dict := none, data := .seq acc c, slots := #[] } ∧ ItemsOf P acc n)
    K hh (K.keep _ _ hok fun b _ o e => Heap.get?_push_of_some _ e) s.heap.objs.size (Nat.ne_of_gt hlt.1) (Nat.ne_of_gt hlt.2) (.ref s.heap.objs.size) 0 hS
    (fun h' tk acc' c' hk hS' hacc => ⟨h', tk, acc', c', rfl, rfl, fun b o e => hk b o (Nat.ne_of_lt (Heap.lt_size e)) (Heap.get?_push_of_some _ e), hS', hacc⟩) hn
  have last : ∀ s', (∃ h' tk acc c, (Except.ok (Flow.ret (.ref s.heap.objs.size)) : Result) = .ok (.ret (.ref s.heap.objs.size)) ∧ s' = { s with heap := h', toks := tk } ∧ (∀ b o, s.heap.get? b = some o → h'.get? b = some o) ∧ h'.get? s.heap.objs.size = some { cls := .type "list", dict := none, data := .seq acc c, slots := #[] } ∧ ItemsOf P acc n) →
      wpAny (model prog w) A (match Value.ref s.heap.objs.size with
      | Value.ref a => do
        match (← load a).data with
          | Data.seq xs _ => pure xs.toList
          | _ => unsupported "internal:collect"
      | _ => unsupported "internal:collect") Q E s' := by
    rintro s' ⟨h', tk, acc, c, _, rfl, hk, hl, hacc⟩
    show wpAny (model prog w) A (load s.heap.objs.size >>= _) _ _ _
    refine wpAny_bind (wpAny_load hl ?_)
    exact wpAny_pure (hQ h' tk acc hk hacc)
  refine wpAny_mono step (fun fin s' h => ?_) (fun e s' h => ?_)
  · cases fin with
    | done f =>
      obtain ⟨h', tk, acc, c, e, r⟩ := h
      cases e
      exact last s' ⟨h', tk, acc, c, rfl, r⟩
    | again c' =>
      refine ⟨h.1, codeAny_mono h.2 fun r s'' hr => ?_⟩
      obtain ⟨h', tk, acc, c, e, r⟩ := hr
      subst e
      exact last s'' ⟨h', tk, acc, c, rfl, r⟩
  · obtain ⟨_, _, _, _, e, _⟩ := h
    cases e
theorem code_tuple_dict {Q₁ : Value → Shared → Prop} (K : PySem.W.KdlSrc prog w "dict" d d n P OK) (hh : A.handled = none) (hok : OK s.heap) (hn : n ≤ sizeLine)
    (h : ∀ (h' : Heap) (tk : Nat) (acc : Array Value), (∀ b o, s.heap.get? b = some o → h'.get? b = some o) → ItemsOf P acc n → Q₁ (.ref h'.objs.size) { s with heap := h'.push { cls := .type "tuple", data := .seq acc }, toks := tk }) :
    codeAny (model prog w) A (.call (.builtin "tuple.__new__") ⟨[.type "tuple", .ref d], []⟩) (wants Q₁ E) s := by
  refine codeAny_of_tree ?_
  show wpAny _ A.in1 (do checkBuiltinCall "tuple.__new__" ⟨[.type "tuple", .ref d], []⟩; again (.builtin "tuple.__new__" ⟨[.type "tuple", .ref d], []⟩)) _ _ s
  refine wpAny_bind (wpAny_of_eq (F.newCall_tuple_1 _) (wpAny_pure ⟨plainId_quiet F.plain_tuple_new _, codeAny_builtin F.entry_tuple_new ?_⟩))
  rw [Around.under_plainId F.plain_tuple_new _]
  have subT := sub_tuple_self
  have iniT := init_tuple_lookup
  have madeT := madeHere_tuple
  have typD := K.type s hok
  wp_walk using wpAny_typeOf typD, collect_dict (A := A.in1) K (show A.in1.handled = none from hh) hok hn
  intro h' tk acc hk hacc
  show wpAny _ _ (Builtin.Tuple.tupleExact acc.toList.toArray >>= fun v => ret v) _ _ _
  unfold Builtin.Tuple.tupleExact
  refine wpAny_bind (wpAny_newObj_type ?_ (by show acc.toList.toArray.size ≤ sizeLine; simp only [Array.toArray_toList]; rw [hacc.1]; exact hn))
  refine wpAny_pure ?_
  have e : acc.toList.toArray = acc := by simp
  rw [e]
  exact h h' tk acc hk hacc
theorem call_tuple_dict {Q : Value → Shared → Prop} (K : PySem.W.KdlSrc prog w "dict" d d n P OK) (hh : A.handled = none) (hok : OK s.heap) (hn : n ≤ sizeLine)
    (hQ : ∀ (h' : Heap) (tk : Nat) (acc : Array Value), (∀ b o, s.heap.get? b = some o → h'.get? b = some o) → ItemsOf P acc n → Q (.ref h'.objs.size) { s with heap := h'.push { cls := .type "tuple", data := .seq acc }, toks := tk }) :
    wpAny (model prog w) A (call (.type "tuple") [.ref d]) Q E s := by
  refine callType_codes (Q₁ := fun obj s₁ => s₁.TypeIs obj "tuple" ∧ Q obj s₁) F.called_tuple (F.typeCall_tuple_1 _) F.entry_object_init
    (code_tuple_dict (A := A.in1) K hh hok hn fun h' tk acc hk hacc => ⟨⟨_, Heap.get?_push_size _ rfl, rfl⟩, hQ h' tk acc hk hacc⟩) fun obj s₁ h₁ => ?_
  exact ⟨h₁.1, F.args_object_init_2 obj _, object_init_meets F.called_tuple.init.lookup F.called_tuple.made (by decide) prog w A.in1 _ s₁ ⟨h₁.1, rfl, h₁.2⟩⟩
end
open L2
/-- tuple(d): its keys -/
theorem call_tupleD {X : Cx} (hcalm : X.calm = true) : CallR X (.type "tuple") (fun xs H Q => ∃ (a : Addr) (kvs : List (Key × V)), xs = [.ref a] ∧ Rd H a (.dK kvs) ∧ ∀ p, H p = none → Q (.ref p) (upd H p (.tup (kvs.map fun kv => kV kv.1)))) := by
  intro pins s σ H xs us Q I r q
  obtain ⟨a, kvs, rfl, hd, q⟩ := q
  obtain ⟨u, rfl, rx⟩ := vals1 r
  cases rx
  obtain ⟨z, lo, vs, rel, dd⟩ := dk_rd I.hok hd
  obtain ⟨ep, hat⟩ := dd.dictAt
  have ek : (kvs.map fun kv => kV kv.1) = vs.map fun p => kV p.1 := by
    have e := congrArg (List.map kV) rel.keys
    rw [List.map_map, List.map_map] at e
    exact e
  refine call_tuple_dict (PySem.W.kdl_dict (knd := mixKind X.prog X.w) (kvs := vs) (ep := ep) lo) (I.ok.hd hcalm) hat (by rw [← rel.length]; exact z) fun h' tk acc hk hacc => ?_
  have hv : Vals (vs.map fun p => kV p.1) acc.toList := keys_at (by rw [Array.length_toList]; exact hacc.1) fun j v e => hacc.2 j v (by rw [← Array.getElem?_toList]; exact e)
  have J : Inv X pins σ H { s with heap := h', toks := tk } := I.kept hk
  have hn : H h'.objs.size = none := J.hok.fresh (Nat.le_refl _)
  refine ⟨.ref h'.objs.size, upd H h'.objs.size (.tup (kvs.map fun kv => kV kv.1)), J.laid (t' := tk) (fun b o e => Heap.get?_push_of_some _ e) (Nat.le_refl _) ?_, rfl, q _ hn⟩
  show _ ∧ ∃ its : List Value, Vals _ its ∧ IsTup _ _ its.toArray
  refine ⟨by rw [List.length_map]; exact z, acc.toList, by rw [ek]; exact hv, ?_⟩
  rw [Array.toArray_toList]
  exact IsTup.new _ _
/-- values told place by place -/
theorem refs_told {β : Type} {g : β → Addr} : ∀ (ks : List β) (us : List Value), us.length = ks.length → (∀ (j : Nat) (u : Value), us[j]? = some u → ∃ y, ks[j]? = some y ∧ u = Value.ref (g y)) → L2.Vals (ks.map fun y => V.ref (g y)) us
  | [], [], _, _ => .nil
  | [], _ :: _, h, _ => by cases h
  | _ :: _, [], h, _ => by cases h
  | y :: ys, u :: us, h, k => by
    obtain ⟨y', e1, e2⟩ := k 0 u rfl
    cases e1
    exact .cons e2 (refs_told ys us (Nat.succ.inj h) fun j v e => k (j + 1) v e)
/-- tuple(d), the keys are tuples -/
theorem call_tupleDT {X : Cx} (hcalm : X.calm = true) : CallR X (.type "tuple") (fun xs H Q => ∃ (a : Addr) (kvs : List (List Key × V)), xs = [.ref a] ∧ Rd H a (.dT kvs) ∧ ∀ p bs, H p = none → IsKeys H kvs bs → Q (.ref p) (upd H p (.tup (bs.map V.ref)))) := by
  intro pins s σ H xs us Q I r q
  obtain ⟨a, kvs, rfl, rd, q⟩ := q
  obtain ⟨u, rfl, rx⟩ := vals1 r
  cases rx
  obtain ⟨z, notm, ks, kt, ob, es, ep, at_, exd, dat, ent, _⟩ := (show ObjOk X.prog X.w H s.heap a (.dT kvs) from rd_of I.hok rd)
  have n1 := size_of_entries ent
  have n2 : kvs.length = ks.length := Paired.length kt
  refine call_tuple_dict (kdl_raw notm exd dat) (I.ok.hd hcalm) at_ (by rw [n1, ← n2]; exact z) fun h' tk acc hk hacc => ?_
  have hv : L2.Vals (ks.map fun y => V.ref y.2.1) acc.toList := refs_told ks acc.toList (by rw [Array.length_toList, hacc.1]; exact n1) fun j v e => by
    obtain ⟨en, ee, ev⟩ := hacc.2 j v (by rw [← Array.getElem?_toList]; exact e)
    have own := entry_at ent j
    rw [ee] at own
    cases eb : ks[j]? with
    | none => rw [eb] at own; cases own
    | some y =>
      rw [eb] at own
      refine ⟨y, rfl, ?_⟩
      rw [ev, show en = entryOfKey (tupleKind (mixKind X.prog X.w)) y from Option.some.inj own]
      rfl
  have J : Inv X pins σ H { s with heap := h', toks := tk } := I.kept hk
  have hn : H h'.objs.size = none := J.hok.fresh (Nat.le_refl _)
  have eb : (ks.map fun y => V.ref y.2.1) = (ks.map fun y => y.2.1).map V.ref := by rw [List.map_map]; rfl
  refine ⟨.ref h'.objs.size, upd H h'.objs.size (.tup ((ks.map fun y => y.2.1).map V.ref)), J.laid (t' := tk) (fun b o e => Heap.get?_push_of_some _ e) (Nat.le_refl _) ?_, rfl, q _ _ hn (isKeys_of kt)⟩
  refine ⟨by rw [List.length_map, List.length_map, ← n2]; exact z, acc.toList, by rw [← eb]; exact hv, ?_⟩
  rw [Array.toArray_toList]
  exact IsTup.new _ _
end K04

/-! a record is made, or refused -/
namespace K04
open PySem PySem.Spec PyProof.Rows L2
abbrev sBadInit : Stmt := inClass (top 3) 0
abbrev sRInit : Stmt := inClass (top 24) 0
abbrev badF (i : Int) (x : Str) : List (Str × V) := [("what", .str x), ("index", .int i)]
abbrev NoF (K : PySem.W.Frag) (C : Addr) (f : Str) : Prop := PySem.W.findIn K (.ref C) f = some none
theorem keep_new {H : Hp} {a d : Addr} {o u : HO} (nd : H d = none) : ∀ b x, b ≠ a → H b = some x → (upd (upd H d u) a o) b = some x := fun b x n e => by
  rw [upd_ne n, upd_ne (ne_of_none e nd)]
  exact e
theorem keep_dict {H H1 : Hp} {a d : Addr} {o : HO} (nd : H d = none) (k : ∀ b x, b ≠ a → H b = some x → H1 b = some x) : ∀ b x, b ≠ a → H b = some x → (upd H1 d o) b = some x := fun b x n e => by
  rw [upd_ne (ne_of_none e nd)]
  exact k b x n e
def spBad (C : Addr) : Sp := fun vs H Q _ => ∃ (a : Addr) (i : Int) (x : Str), vs = [.ref a, .int i, .str x] ∧ H a = some (exo a C none) ∧
  ∀ (H' : Hp) (d : Addr), H d = none → H' a = some (exo a C (some d)) → H' d = some (exd d (badF i x)) → (∀ b o, b ≠ a → H b = some o → H' b = some o) → Q .non H'
def rTupS : List V → Hp → VK → Prop := fun vs H Q => ∃ (a : Addr) (xs : List V), vs = [.ref a] ∧ Sq H a xs ∧ ∀ (H2 : Hp) (t : Addr), Same H H2 → H2 t = some (.tup xs) → Q (.ref t) H2
theorem call_tupS {X : Cx} : CallR X (.type "tuple") rTupS := fun pins s σ H vs us Q I r h => by
  obtain ⟨a, xs, rfl, hS, k⟩ := h
  refine call_tuple_of pins s σ H _ us Q I r ⟨a, xs, rfl, ?_⟩
  exact hS.elim (fun h => .inl ⟨SqL.of h, fun l nl => k _ l (same_upd nl) upd_same⟩) fun h => .inr ⟨SqT.of h, k H a (Same.refl _) h⟩
def spTuples : Sp := fun vs H Q _ => ∃ (v : V) (d : PyData) (xs : List PyData) (r : Rw), vs = [v] ∧ Dt Any H v d ∧ seqD d = some xs ∧ RwL xs r ∧ ∀ (t : Addr) (H' : Hp), Same H H' → Dt Any H' (.ref t) r.data → Q (.ref t) H'
section
variable {P : Program} {w : World} {K : PySem.W.Frag} {mg : Str → Option Value} {base : Heap}
theorem ok_bad {f C : Addr} {fd : FuncData} (F : FunD K "__init__" "BadRecord.__init__" (defArgs sBadInit) (defBody sBadInit) (defScope sBadInit) [] [] f fd) (T : OexC K C) (n0 : NoF K C "index") (n1 : NoF K C "what") :
    FnOk P w K mg base CX0 1 f fd ["self", "index", "what"] (spBad C) := by
  have sc : FnScope ["self", "index", "what"] ["self", "index", "what"] (defScope sBadInit) := ⟨rfl, rfl, rfl, by decide +kernel, rfl, by decide +kernel, by decide +kernel⟩
  refine F.ok sc (fun vs H Q E h => ?_) (fun cdv A outer s H vs Q E hr h => ?_)
  · obtain ⟨a, i, x, rfl, _⟩ := h
    rfl
  · obtain ⟨a, i, x, rfl, ea, q⟩ := h
    refine ⟨_, PSs.nox (pss_cons (ps_ost (pv 0) (pv 1)) (pss_one (ps_ost (pv 0) (pv 2)))), ?_⟩
    refine ⟨_, rfl, _, rfl, a, C, rfl, T, n0, .inl ⟨ea, fun d nd ne => ?_⟩⟩
    refine ⟨_, rfl, _, rfl, a, C, rfl, T, n1, .inr ⟨d, _, upd_same, Eq.trans (upd_ne ne) upd_same, (by show 1 ≤ 900; decide), ?_⟩⟩
    exact q _ d nd (Eq.trans (upd_ne (Ne.symm ne)) upd_same) upd_same (keep_dict nd (keep_new nd))
theorem ok_tuples {f : Addr} {fd : FuncData} (F : FnP K "as_tuples" sPAsTuples f fd) (z_tuple : mg "tuple" = none) : FnOk P w K mg base CX0 1 f fd ["row"] spTuples := by
  have sc : FnScope ["row"] ["row"] (defScope sPAsTuples) := ⟨rfl, rfl, rfl, by decide +kernel, rfl, by decide +kernel, by decide +kernel⟩
  refine F.ok sc (fun vs H Q E h => ?_) (fun cdv A outer s H vs Q E hr h => ?_)
  · obtain ⟨v, d, xs, r, rfl, _⟩ := h
    rfl
  · obtain ⟨v, d, xs, r, rfl, hd, e, hw, q⟩ := h
    refine ⟨_, PSs.nox (pss_cons (ps_if (pt_cmpR op_eq (pe_ix ixS (pv 0) pe_int (fun _ _ => rfl)) pe_str (nomark _))
      (pss_one (ps_ret (pe_tup (pa_cons (pe_ix ixS (pv 0) pe_int (fun _ _ => rfl)) (pa_cons (pe_ix ixS (pv 0) pe_int (fun _ _ => rfl)) (pa_cons (pe_ix ixS (pv 0) pe_int (fun _ _ => rfl)) (pa_cons (pe_ix ixS (pv 0) pe_int (fun _ _ => rfl)) (pa_cons (pe_callTy call_tupS (by rfl) z_tuple (by decide +kernel) (pa_cons (pe_ix ixS (pv 0) pe_int (fun _ _ => rfl)) pa_nil)) pa_nil))))))))
      pss_nil)
    (pss_one (ps_ret (pe_callTy call_tupS (by rfl) z_tuple (by decide +kernel) (pa_cons (pv 0) pa_nil))))), ?_⟩
    obtain ⟨a, vs, rfl, _, hS, hvs⟩ := id (hd.seq e)
    cases hw with
    | @comes l k n hs e5 hl hk hn he hh =>
      cases hvs with | cons g0 hvs => cases hvs with | cons g1 hvs => cases hvs with | cons g2 hvs => cases hvs with | cons g3 hvs => cases hvs with | cons g4 hvs =>
      cases hvs
      obtain rfl := g0.str_inv.1
      obtain rfl := g1.str_inv.1
      obtain rfl := g2.str_inv.1
      obtain rfl := g3.int_inv
      obtain ⟨a5, ws, rfl, _, hS5, hws⟩ := id (g4.seq he)
      refine ⟨_, rfl, _, _, _, _, rfl, rfl, hS, rfl, rfl, _, rfl, iteT ?_⟩
      refine ⟨_, rfl, _, _, _, _, rfl, rfl, hS, rfl, _, rfl, _, _, _, _, rfl, rfl, hS, rfl, _, rfl, _, _, _, _, rfl, rfl, hS, rfl, _, rfl, _, _, _, _, rfl, rfl, hS, rfl, ?_⟩
      refine ⟨_, rfl, _, _, _, _, rfl, rfl, hS, rfl, a5, ws, rfl, hS5, fun H2 t s2 ht => ⟨(by show 5 ≤ sizeLine; decide), fun z nz => ?_⟩⟩
      have s3 := same_upd (o := .tup [.str "comes", .str l, .str k, .int n, .ref t]) nz
      exact q z _ (s2.trans s3) (.tup trivial upd_same (.cons (g0.same (s2.trans s3)) (.cons (g1.same (s2.trans s3)) (.cons (g2.same (s2.trans s3)) (.cons (.int n) (.cons (.tup trivial (s3 _ _ ht) (hws.same (s2.trans s3))) .nil))))))
    | @weds f m hf hm =>
      cases hvs with | cons g0 hvs =>
      obtain rfl := g0.str_inv.1
      refine ⟨_, rfl, _, _, _, _, rfl, rfl, hS, atI_nat (j := 0) rfl, rfl, _, rfl, iteF ?_⟩
      exact ⟨_, rfl, a, _, rfl, hS, fun H2 t s2 ht => q t H2 s2 (.tup trivial ht ((DtAll.cons g0 hvs).same s2))⟩
    | @born f m k l n hf hm hk hl hn =>
      cases hvs with | cons g0 hvs =>
      obtain rfl := g0.str_inv.1
      refine ⟨_, rfl, _, _, _, _, rfl, rfl, hS, atI_nat (j := 0) rfl, rfl, _, rfl, iteF ?_⟩
      exact ⟨_, rfl, a, _, rfl, hS, fun H2 t s2 ht => q t H2 s2 (.tup trivial ht ((DtAll.cons g0 hvs).same s2))⟩
    | @dies l hl =>
      cases hvs with | cons g0 hvs =>
      obtain rfl := g0.str_inv.1
      refine ⟨_, rfl, _, _, _, _, rfl, rfl, hS, atI_nat (j := 0) rfl, rfl, _, rfl, iteF ?_⟩
      exact ⟨_, rfl, a, _, rfl, hS, fun H2 t s2 ht => q t H2 s2 (.tup trivial ht ((DtAll.cons g0 hvs).same s2))⟩
end
end K04

/-! a record is made, or refused -/
namespace K04
open PySem PySem.Spec PyProof.Rows L2
/-- the class of records -/
structure RecC (K : PySem.W.Frag) (CR : Addr) : Prop where
  cl : Cls K CR
  nWidth : NoAttr K CR "width"
  nRows : NoAttr K CR "rows"
  nPersons : NoAttr K CR "persons"
  nFounders : NoAttr K CR "founders"
  nBorn : NoAttr K CR "born"
  nWeddings : NoAttr K CR "weddings"
  nCouples : NoAttr K CR "couples"
  nLiving : NoAttr K CR "living"
  nBook : NoAttr K CR "_book"
/-- BadRecord(..) -/
structure BadC (P : Program) (w : World) (K : PySem.W.Frag) (mg : Str → Option Value) (base : Heap) (C fI : Addr) (fd : FuncData) : Prop where
  cl : OexC K C
  ini : PySem.W.findIn K (.ref C) "__init__" = some (some (.ref fI))
  ty : PySem.W.typeIn K (.ref fI) = some (.type "function")
  gl : mg "BadRecord" = some (.ref C)
  ok : FnOk P w K mg base CX0 1 fI fd ["self", "index", "what"] (spBad C)
  bi : Binds K fd ["self", "index", "what"] []
abbrev recF (wd : Int) (ar ap af ab aw ac al b : Addr) : List (Str × V) :=
  [("width", .int wd), ("rows", .ref ar), ("persons", .ref ap), ("founders", .ref af), ("born", .ref ab), ("weddings", .ref aw), ("couples", .ref ac), ("living", .ref al), ("_book", .ref b)]
/-- a record of a width, its rows as data -/
def RecAt (CR : Addr) (H : Hp) (x : Addr) (wd : Int) (D : PyData) : Prop := ∃ (dx ar ap af ab aw ac al b : Addr), H x = some (.ins CR dx (recF wd ar ap af ab aw ac al b)) ∧ Dt Any H (.ref ar) D
def datO : Option Rw → PyData
  | some r => r.data
  | none => .none
theorem noL_dat : ∀ os : List (Option Rw), noLAll (os.map datO) = true
  | [] => rfl
  | none :: os => noL_dat os
  | some r :: os => by
    show (noL r.data && noLAll (os.map datO)) = true
    rw [r.noL, noL_dat os]
    rfl
def rowsD (os : List (Option Rw)) : PyData := .tuple (os.map datO)
def spRec (CR CE : Addr) : Sp := fun vs H Q E => ∃ (x dx : Addr) (wd : Int) (v : V) (os : List (Option Rw)) (d : PyData) (ds : List PyData), vs = [.ref x, .int wd, v] ∧ H x = some (.ins CR dx []) ∧ Plan H wd v os d ds ∧
  (faultO wd Bk.new 0 os = none → ∀ (H' : Hp), RecAt CR H' x wd (rowsD os) → (∀ z u, H z = some u → z ≠ x → H' z = some u) → Q .non H') ∧
  ∀ i z, faultO wd Bk.new 0 os = some (i, z) → ∀ (H' : Hp) (d : Addr), H d = none → H' d = some (.xd (badF (i : Int) z)) → Same H H' → E (.ref CE) (some d) H'
/-- all but x -/
def minus (H : Hp) (x : Addr) : Hp := fun a => if a = x then none else H a
theorem minus_at {H : Hp} {x : Addr} : minus H x x = none := if_pos rfl
theorem minus_ne {H : Hp} {x y : Addr} (h : y ≠ x) : minus H x y = H y := if_neg h
theorem minus_same {H : Hp} {x : Addr} : Same (minus H x) H := fun y o e => by
  by_cases h : y = x
  · rw [h, minus_at] at e; cases e
  · rw [minus_ne h] at e; exact e
section
variable {S : Addr → Prop} {H : Hp} {x C dx : Addr} {fs : List (Str × V)}
mutual
theorem Dt.off {v : V} {d : PyData} (h : Dt S H v d) (hx : H x = some (.ins C dx fs)) : Dt (fun a => a ≠ x) H v d := by
  cases h with
  | non => exact .non
  | bl b => exact .bl b
  | int i => exact .int i
  | str x h1 h2 => exact .str x h1 h2
  | lst s e r => exact .lst (ne_of e hx (by intro z; cases z)) e (r.off hx)
  | tup s e r => exact .tup (ne_of e hx (by intro z; cases z)) e (r.off hx)
theorem DtAll.off {vs : List V} {ds : List PyData} (h : DtAll S H vs ds) (hx : H x = some (.ins C dx fs)) : DtAll (fun a => a ≠ x) H vs ds := by
  cases h with
  | nil => exact .nil
  | cons a b => exact .cons (a.off hx) (b.off hx)
end
end
theorem Plan.off {H : Hp} {wd : Int} {v : V} {os : List (Option Rw)} {d : PyData} {ds : List PyData} {x C dx : Addr} {fs : List (Str × V)} (p : Plan H wd v os d ds) (hx : H x = some (.ins C dx fs)) : Plan (minus H x) wd v os d ds :=
  ⟨p.w0, p.w2, (p.hd.off hx).to (fun _ _ => trivial) (fun a o s e => (minus_ne s).trans e), p.es, p.few, p.rows⟩
/-- within the making of a record -/
structure RSt (CB CR : Addr) (B : Bk) (H Hc : Hp) (x dx b dxb : Addr) (A : Ads) (ar : Addr) (D : PyData) (w : Bool) (fs : List (Str × V)) : Prop where
  B : BkAt CB B 25000 (minus H x) Hc b dxb A
  hx : Hc x = some (.ins CR dx fs)
  bx : b ≠ x
  har : w = true → Dt (fun a => a ≠ x) Hc (.ref ar) D
section
variable {CB CR : Addr} {B : Bk} {H Hc : Hp} {x dx b dxb : Addr} {A : Ads} {ar : Addr} {D : PyData} {w : Bool} {fs : List (Str × V)}
theorem BkAt.off {n : Nat} {C : Addr} {H0 : Hp} {u : HO} (h : BkAt CB B n H0 Hc b dxb A) (hx : Hc x = some (.ins C dx fs)) (bx : b ≠ x) (x0 : H0 x = none) : BkAt CB B n H0 (upd Hc x u) b dxb A := by
  obtain ⟨hb, hk, ⟨ps, p1, p2⟩, ⟨rs, r1, r2⟩, ⟨ds, d1, d2, d3⟩, hm, ⟨as, a1, a2, a3, a4⟩, ⟨cs, c1, c2, c3, c4⟩, nd, n0, sm, lk, lm⟩ := h
  have st : ∀ {y : Addr} {o : HO}, Hc y = some o → (∀ fs', o ≠ .ins C dx fs') → upd Hc x u y = some o := fun {y o} e ne => (upd_ne (ne_of e hx (ne fs))).trans e
  exact ⟨(upd_ne bx).trans hb, st hk (fun _ z => by cases z), ⟨ps, st p1 (fun _ z => by cases z), p2⟩, ⟨rs, st r1 (fun _ z => by cases z), r2⟩, ⟨ds, st d1 (fun _ z => by cases z), d2, d3⟩, st hm (fun _ z => by cases z),
    ⟨as, st a1 (fun _ z => by cases z), a2, a3.upd_dic (Nat.le_refl _) hx (fun _ z => by cases z), a4⟩, ⟨cs, st c1 (fun _ z => by cases z), c2, c3.upd_dic (Nat.le_refl _) hx (fun _ z => by cases z), c4⟩, nd, n0, upd_same0 sm x0, lk, lm⟩
theorem BkAt.lower {n : Nat} (h : BkAt CB B n H Hc b dxb A) : BkAt CB B n (minus H x) Hc b dxb A := by
  have z : ∀ {y : Addr}, H y = none → minus H x y = none := fun {y} e => by
    by_cases q : y = x
    · rw [q]; exact minus_at
    · rw [minus_ne q]; exact e
  obtain ⟨hb, hk, hp, hr, hd, hm, ⟨as, a1, a2, a3, a4⟩, ⟨cs, c1, c2, c3, c4⟩, nd, n0, sm, lk, lm⟩ := h
  refine ⟨hb, hk, hp, hr, hd, hm, ⟨as, a1, a2, fun kv hkv => ?_, a4⟩, ⟨cs, c1, c2, fun kv hkv => ?_, c4⟩, nd, fun y hy => z (n0 y hy), minus_same.trans sm, lk, lm⟩
  · obtain ⟨l, xs, e1, e2, e3, e4⟩ := a3 kv hkv
    exact ⟨l, xs, e1, e2, e3, z e4⟩
  · obtain ⟨l, xs, e1, e2, e3, e4⟩ := c3 kv hkv
    exact ⟨l, xs, e1, e2, e3, z e4⟩
theorem fault_none {wd : Int} : ∀ {os : List (Option Rw)} {B : Bk} {i : Nat}, faultO wd B i os = none → ∀ o ∈ os, ∃ r, o = some r
  | [], _, _, _ => fun o h => by cases h
  | o :: os, B, i, h => fun o' ho => by
    have h : (match jD B wd o with | some z => some (i, z) | none => faultO wd (stepO B o) (i + 1) os) = none := h
    cases e : jD B wd o with
    | some z => rw [e] at h; cases h
    | none =>
      rw [e] at h
      rcases List.mem_cons.mp ho with rfl | ho
      · cases o' with
        | none => cases e
        | some r => exact ⟨r, rfl⟩
      · exact fault_none h o' ho
theorem RSt.same {H' : Hp} (S : RSt CB CR B H Hc x dx b dxb A ar D w fs) (s : Same Hc H') : RSt CB CR B H H' x dx b dxb A ar D w fs := ⟨S.B.same s (Nat.le_refl _), s _ _ S.hx, S.bx, fun e => (S.har e).same s⟩
theorem RSt.put {fs' : List (Str × V)} (S : RSt CB CR B H Hc x dx b dxb A ar D w fs) : RSt CB CR B H (upd Hc x (.ins CR dx fs')) x dx b dxb A ar D w fs' :=
  ⟨S.B.off S.hx S.bx minus_at, upd_same, S.bx, fun e => (S.har e).to (fun _ z => z) fun a o s ea => (upd_ne s).trans ea⟩
theorem RSt.keep (S : RSt CB CR B H Hc x dx b dxb A ar D w fs) : ∀ z u, H z = some u → z ≠ x → Hc z = some u := fun z u e n => S.B.sm _ _ ((minus_ne n).trans e)
end
theorem unlock {Hc H3 : Hp} {k : Addr} {od : Obj} {u : HO} (hk : Hc k = some u) (s : Same (upd Hc k (.frz od u)) H3) : Same Hc (upd H3 k u) := fun y o e => by
  by_cases h : y = k
  · subst h
    rw [hk] at e
    rw [upd_same]
    exact e
  · rw [upd_ne h]
    exact s y o (by rw [upd_ne h]; exact e)
section
variable {P : Program} {w : World} {K : PySem.W.Frag} {mg : Str → Option Value} {base : Heap}
abbrev nmR : List Str := ["self", "width", "rows", "book", "fault", "row", "label", "pair"]
theorem scRec : FnScope nmR ["self", "width", "rows"] (defScope sRInit) := ⟨rfl, rfl, rfl, by decide +kernel, rfl, by decide +kernel, by decide +kernel⟩
theorem ok_rec {f fI fW fT fE CB CR CE : Addr} {fd fdI fdW fdT fdE : FuncData} {dvs : List V} (F : FunD K "__init__" "Record.__init__" (defArgs sRInit) (defBody sRInit) (defScope sRInit) dvs [] f fd) (T : RecC K CR) (TB : BookC K CB) (zt : mg "tuple" = none)
    (M : BookMk P w K mg base CB fI fdI) (dW : Df P w K mg base "_write_rows" 6 ["book", "width", "rows"] (spWR CB) fW fdW) (dT : Df P w K mg base "as_tuples" 1 ["row"] spTuples fT fdT) (X : BadC P w K mg base CE fE fdE) :
    FnOk P w K mg base (L2.CX P w) 7 f fd ["self", "width", "rows"] (spRec CR CE) := by
  refine F.ok scRec (fun vs H Q E h => ?_) (fun cdv A outer s H vs Q E hr h => ?_)
  · obtain ⟨x, dx, wd, v, os, d, ds, rfl, _⟩ := h
    rfl
  · obtain ⟨x, dx, wd, v, os, d, ds, rfl, hx, pl, q1, q2⟩ := h
    have hu := hu_of hr
    have hr1 := hr.mono (show 1 ≤ 6 by decide)
    have hr2 := hr.mono (show 2 ≤ 6 by decide)
    refine ⟨_, pss_cons (ps_set (i := 3) scRec.nd rfl (.inr rfl) (pe_make0 M.mks M.ok hr2 (by rfl) M.gl M.bi .nil pass0))
      (pss_cons (ps_set (i := 4) scRec.nd rfl (.inl rfl) (pe_call dW.ok hr (by rfl) dW.gl dW.kp dW.bi .nil pass0 (pa_cons (pv 3) (pa_cons (pv 1) (pa_cons (pv 2) pa_nil)))))
      (pss_cons (ps_if (pt_cmpR op_notN (pv 4) pe_non (nomark _))
          (pss_one (ps_raise rfl (takes_of rfl rfl rfl rfl) (pmk_oex X.cl X.ini X.ty X.ok hr2 X.bi .nil pass0 (by rfl) X.gl (pa_cons (pe_ix ix_tup (pv 4) pe_int (fun _ _ => rfl)) (pa_cons (pe_ix ix_tup (pv 4) pe_int (fun _ _ => rfl)) pa_nil))))) pss_nil)
      (PSs.nox (pss_cons (ps_fld (pv 0) (pv 1) rfl)
      (pss_cons (ps_fld (pv 0) (pe_callTy call_tuple_of (by rfl) zt (by decide +kernel) (pa_cons (pe_lc (own := [("row", 5)]) (g := gName 5) (tt := tYes) rfl scRec.nd (pi_or (pi_list (pv 2)) (pi_tup (pv 2))) (blkOk_by (N := nmR) (sc := defScope sRInit) (by decide +kernel))
          (fun _ _ _ _ _ => pg_name (i := 5) scRec.nd rfl (Or.inl rfl)) (fun _ _ _ _ _ => pts_nil) (fun _ _ _ _ _ => pe_call dT.ok hr1 (by rfl) dT.gl dT.kp dT.bi .nil pass0 (pa_cons (pv 5) pa_nil))) pa_nil)) rfl)
      (pss_cons (ps_fld (pv 0) (pe_callTy (call_tupleD rfl) (by rfl) zt (by decide +kernel) (pa_cons (pe_fld (pv 3) rfl) pa_nil)) rfl)
      (pss_cons (ps_fld (pv 0) (pe_callTy call_tuple_of (by rfl) zt (by decide +kernel) (pa_cons (pe_lock (pe_lc (own := [("label", 6)]) (g := gName 6) (tt := tB (tDNotIn (tVar 6) (tFld K (tVar 3) "parents"))) rfl scRec.nd (pi_keys (pe_fld (pv 3) rfl)) (blkOk_by (N := nmR) (sc := defScope sRInit) (by decide +kernel))
          (fun _ _ _ _ _ => pg_name (i := 6) scRec.nd rfl (Or.inl rfl)) (fun _ _ _ _ _ => pts_one (pt_cmp (pc_dnotin hu (pv 6) (pe_fld (pv 3) rfl)))) (fun _ _ _ _ _ => pv 6))) pa_nil)) rfl)
      (pss_cons (ps_fld (pv 0) (pe_callTy (call_tupleD rfl) (by rfl) zt (by decide +kernel) (pa_cons (pe_fld (pv 3) rfl) pa_nil)) rfl)
      (pss_cons (ps_fld (pv 0) (pe_callTy (call_tupleDT rfl) (by rfl) zt (by decide +kernel) (pa_cons (pe_fld (pv 3) rfl) pa_nil)) rfl)
      (pss_cons (ps_fld (pv 0) (pe_callTy call_tuple_of (by rfl) zt (by decide +kernel) (pa_cons (pe_lock (pe_lc (own := [("pair", 7)]) (g := gName 7) (tt := tB (tOp rEq (tDGet1 (tFld K (tVar 3) "mate_now") (tOp rSq (tVar 7) (tC (.int 0)))) (tOp rSq (tVar 7) (tC (.int 1))))) rfl scRec.nd (pi_keys (pe_fld (pv 3) rfl)) (blkOk_by (N := nmR) (sc := defScope sRInit) (by decide +kernel))
          (fun _ _ _ _ _ => pg_name (i := 7) scRec.nd rfl (Or.inl rfl)) (fun _ _ _ _ _ => pts_one (pt_cmpR op_eq (pe_dget1 hu (pe_fld (pv 3) rfl) (pe_ix ixS (pv 7) pe_int (fun _ _ => rfl)) ⟨rfl, rfl, rfl, rfl⟩) (pe_ix ixS (pv 7) pe_int (fun _ _ => rfl)) (nomark _))) (fun _ _ _ _ _ => pv 7))) pa_nil)) rfl)
      (pss_cons (ps_fld (pv 0) (pe_callTy call_tuple_of (by rfl) zt (by decide +kernel) (pa_cons (pe_lock (pe_lc (own := [("label", 6)]) (g := gName 6) (tt := tB (tDNotIn (tVar 6) (tFld K (tVar 3) "dead"))) rfl scRec.nd (pi_keys (pe_fld (pv 3) rfl)) (blkOk_by (N := nmR) (sc := defScope sRInit) (by decide +kernel))
          (fun _ _ _ _ _ => pg_name (i := 6) scRec.nd rfl (Or.inl rfl)) (fun _ _ _ _ _ => pts_one (pt_cmp (pc_dnotin hu (pv 6) (pe_fld (pv 3) rfl)))) (fun _ _ _ _ _ => pv 6))) pa_nil)) rfl)
      (pss_one (ps_fld (pv 0) (pv 3) rfl))))))))))))), ?_⟩
    intro b dxb nb ndb nedb
    have xb : b ≠ x := Ne.symm (ne_of_none hx nb)
    have s0 := same_ins (C := CB) nb ndb nedb
    refine ⟨b, dxb, H, rfl, upd_same, nb, s0, fun H1 AA hB => ⟨rfl, ?_⟩⟩
    have hx1 := hB.sm
    refine ⟨_, rfl, _, rfl, _, rfl, b, dxb, H, AA, wd, v, os, d, ds, rfl, hB, pl, fun ef H2 h2 => ⟨_, rfl, rfl, _, rfl, iteF ?_⟩, fun i z ef H2 t s2 ht => ⟨_, rfl, rfl, _, rfl, iteT ?_⟩⟩
    rotate_left
    · refine ⟨_, rfl, _, _, _, _, rfl, rfl, SqT.of ht, rfl, _, rfl, _, _, _, _, rfl, rfl, SqT.of ht, rfl, (by show 2 ≤ 1000; decide), fun av nav => ⟨av, (i : Int), z, rfl, upd_same, fun H3 dd nd3 ha3 hd3 kp => ⟨rfl, dd, _, ha3, hd3, ?_, ?_⟩⟩⟩
      · exact none_of (same_upd nav) nd3
      · refine q2 i z ef _ dd (none_of s2 (none_of (same_upd nav) nd3)) upd_same fun y' o' e' => ?_
        have e2 := s2 _ _ e'
        rw [upd_ne (ne_of_none e2 (none_of (same_upd nav) nd3)), del_ne (ne_of_none e2 nav)]
        exact kp _ _ (ne_of_none e2 nav) (same_upd nav _ _ e2)
    have S : RSt CB CR (bookO os) H H2 x dx b dxb AA 0 (rowsD os) false [] := ⟨h2.lower, h2.sm _ _ hx, xb, fun e => by cases e⟩
    refine ⟨_, rfl, _, rfl, x, CR, dx, _, rfl, S.hx, T.cl, T.nWidth, by decide, ?_⟩
    replace S := S.put (fs' := putF "width" (.int wd) [])
    generalize upd H2 x (.ins CR dx (putF "width" (.int wd) [])) = Hc at S ⊢
    obtain ⟨a, xs, rfl, _, hS0, hxs0⟩ := id (pl.hd.seq pl.es)
    have nax : a ≠ x := hS0.elim (fun e => ne_of e hx (by intro z; cases z)) fun e => ne_of e hx (by intro z; cases z)
    have hSc : Sq Hc a xs := hS0.elim (fun e => .inl (S.keep _ _ e nax)) fun e => .inr (S.keep _ _ e nax)
    have hxs : DtAll (fun a => a ≠ x) Hc xs ds := (hxs0.off hx).to (fun _ z => z) fun a o n e => S.keep _ _ e n
    have el := hxs.len
    have eo := pl.rows.len
    have few := pl.few
    refine seq_any (fun Q q => ⟨_, rfl, q⟩) hSc fun it G wk keep D nD => lc_it wk (fun i H' => ∃ acc : List V, H' D = some (.lst acc) ∧ acc.length = i ∧ Same Hc H' ∧ DtAll (fun a => a ≠ x) H' acc ((os.take i).map datO)) ⟨[], upd_same, rfl, same_upd nD, .nil⟩ (fun i H' _ ⟨_, _, _, s, _⟩ => keep _ s) ?_ ?_
    · rintro i y H4 H5 hi ⟨acc, eD, hacc, s4, hda⟩ ⟨rfl, ev⟩
      obtain ⟨d', ed', hd'⟩ := hxs.get ev
      obtain ⟨o, eo', ho, okd⟩ := pl.rows.get ed'
      obtain ⟨r, rfl⟩ := fault_none ef o (List.mem_of_getElem? eo')
      cases ho with
      | @row zs _ e3 hw =>
      refine ⟨rfl, ?_⟩
      refine ⟨_, rfl, y, d', zs, r, rfl, (hd'.same s4).any, e3, hw, fun t6 H6 s6 ht => ?_⟩
      refine ⟨acc, s6 _ _ eD, by rw [hacc]; exact lt_line (Nat.le_refl _) (by omega), acc ++ [.ref t6], upd_same, by rw [List.length_append, hacc]; rfl, fun y' o' e' => ?_, ?_⟩
      · rw [upd_ne (ne_of_none e' nD)]
        exact s6 _ _ (s4 _ _ e')
      · rw [take_snoc eo', List.map_append]
        have nDx : D ≠ x := Ne.symm (ne_of_none S.hx nD)
        have new : DtAll (fun a => a ≠ x) H6 (acc ++ [V.ref t6]) ((os.take i).map datO ++ [r.data]) := (hda.same s6).app (.cons (ht.off (s6 _ _ (s4 _ _ S.hx))) .nil)
        exact new.tups (noLAll_app (noL_dat _) (by show (noL r.data && true) = true; rw [r.noL]; rfl)) fun a ys _ ea => (upd_ne (ne_of ea (s6 _ _ eD) (by intro z; cases z))).trans ea
    rintro H4 ⟨ys, eD, hacc, s4, hda⟩
    rw [el, eo, List.take_of_length_le (Nat.le_refl _)] at hda
    refine ⟨D, ys, rfl, .inl ⟨SqL.of eD, fun ar hc => ?_⟩⟩
    have S1 := (S.same s4).same (same_upd (o := .tup ys) hc)
    have hda2 : DtAll (fun a => a ≠ x) (upd H4 ar (.tup ys)) ys (os.map datO) := hda.same (same_upd hc)
    have nar : ar ≠ x := Ne.symm (ne_of_none (s4 _ _ S.hx) hc)
    have er : upd H4 ar (.tup ys) ar = some (.tup ys) := upd_same
    generalize upd H4 ar (.tup ys) = H5 at S1 hda2 er ⊢
    replace S : RSt CB CR (bookO os) H H5 x dx b dxb AA ar (rowsD os) true _ := ⟨S1.B, S1.hx, S1.bx, fun _ => .tup nar er hda2⟩
    clear S1 hc er nar hda2 eD s4 hda hxs hSc keep wk
    refine ⟨_, rfl, x, CR, dx, _, rfl, S.hx, T.cl, T.nRows, (show 1 < 1000 by decide), ?_⟩
    replace S := S.put (fs' := (putF "rows" (.ref ar) (putF "width" (.int wd) [])))
    generalize upd H5 x (.ins CR dx (putF "rows" (.ref ar) (putF "width" (.int wd) []))) = H10 at S ⊢
    refine ⟨_, rfl, b, CB, dxb, _, _, rfl, S.B.hb, TB.cl, TB.nKinds, rfl, AA.k, _, rfl, .inl S.B.hk, fun ap hc => ?_⟩
    replace S := S.same (same_upd (o := .tup ((encK (bookO os).kinds).map fun kv => kV kv.1)) hc)
    generalize upd H10 ap (.tup ((encK (bookO os).kinds).map fun kv => kV kv.1)) = H11 at S ⊢
    refine ⟨_, rfl, x, CR, dx, _, rfl, S.hx, T.cl, T.nPersons, (show 2 < 1000 by decide), ?_⟩
    replace S := S.put (fs' := (putF "persons" (.ref ap) (putF "rows" (.ref ar) (putF "width" (.int wd) []))))
    generalize upd H11 x (.ins CR dx (putF "persons" (.ref ap) (putF "rows" (.ref ar) (putF "width" (.int wd) [])))) = H12 at S ⊢
    refine ⟨AA.k, _, S.B.hk, trivial, fun od => ?_⟩
    have hbl : ∀ (H' : Hp), Same (upd H12 AA.k (.frz od (.dK (encK (bookO os).kinds)))) H' → H' b = some (.ins CB dxb AA.fs) := fun H' s' => s' _ _ ((upd_ne (ne_of S.B.hb S.B.hk (by intro z; cases z))).trans S.B.hb)
    obtain ⟨ps, p1, p2⟩ := S.B.hp
    have ho : ∀ (H' : Hp), Same (upd H12 AA.k (.frz od (.dK (encK (bookO os).kinds)))) H' → H' AA.p = some (.dK ps) := fun H' s' => s' _ _ ((upd_ne (Ne.symm S.B.nds.1.1)).trans p1)
    refine ⟨_, rfl, b, CB, dxb, _, _, rfl, hbl _ (Same.refl _), TB.cl, TB.nKinds, rfl, AA.k, od, rfl, .inl ⟨_, upd_same, fun D nD => lc_it walk_keys (fun i H' => Same (upd H12 AA.k (.frz od (.dK (encK (bookO os).kinds)))) H' ∧ ∃ acc : List V, acc.length ≤ i ∧ H' D = some (.lst acc)) ⟨same_upd nD, [], Nat.le_refl _, upd_same⟩ (fun i H' _ h => h.1 _ _ upd_same) ?_ ?_⟩⟩
    · rintro i v H6 H7 hi ⟨s6, acc, ha, eD⟩ ⟨rfl, kk, vv, ek, rfl⟩
      have hi' : i < 100000 := by have z := S.B.lk; rw [show (encK (bookO os).kinds).length = (bookO os).kinds.length from List.length_map ..] at hi; omega
      refine ⟨rfl, _, rfl, _, rfl, b, CB, dxb, _, _, rfl, hbl _ s6, TB.cl, TB.nParents, rfl, AA.p, _, rfl, DGet.k (k := kk) (ho _ s6), _, rfl, ite2 (fun _ => ⟨_, rfl, acc, eD, lt_line ha (by omega), fun y' o' e' => ?_, _, ?_, upd_same⟩) (fun _ => ⟨s6, acc, Nat.le_succ_of_le ha, eD⟩)⟩
      · rw [upd_ne (ne_of_none e' nD)]
        exact s6 _ _ e'
      · rw [List.length_append]
        exact Nat.succ_le_succ ha
    rintro H6 ⟨s6, acc, ha, eD⟩
    have sl := unlock S.B.hk s6
    have nDk : D ≠ AA.k := Ne.symm (ne_of_none upd_same nD)
    refine ⟨s6 _ _ upd_same, D, acc, rfl, .inl ⟨SqL.of ((upd_ne nDk).trans eD), fun af hc => ?_⟩⟩
    replace S := (S.same sl).same (same_upd (o := .tup acc) hc)
    clear sl nDk eD ha s6 nD hbl ho
    generalize upd (upd H6 AA.k (.dK (encK (bookO os).kinds))) af (.tup acc) = H13 at S ⊢
    clear hc
    refine ⟨_, rfl, x, CR, dx, _, rfl, S.hx, T.cl, T.nFounders, (show 3 < 1000 by decide), ?_⟩
    replace S := S.put (fs' := (putF "founders" (.ref af) (putF "persons" (.ref ap) (putF "rows" (.ref ar) (putF "width" (.int wd) [])))))
    generalize upd H13 x (.ins CR dx (putF "founders" (.ref af) (putF "persons" (.ref ap) (putF "rows" (.ref ar) (putF "width" (.int wd) []))))) = H14 at S ⊢
    obtain ⟨ps2, p21, p22⟩ := S.B.hp
    refine ⟨_, rfl, b, CB, dxb, _, _, rfl, S.B.hb, TB.cl, TB.nParents, rfl, AA.p, _, rfl, .inl p21, fun ab hc => ?_⟩
    replace S := S.same (same_upd (o := .tup (ps2.map fun kv => kV kv.1)) hc)
    generalize upd H14 ab (.tup (ps2.map fun kv => kV kv.1)) = H15 at S ⊢
    refine ⟨_, rfl, x, CR, dx, _, rfl, S.hx, T.cl, T.nBorn, (show 4 < 1000 by decide), ?_⟩
    replace S := S.put (fs' := (putF "born" (.ref ab) (putF "founders" (.ref af) (putF "persons" (.ref ap) (putF "rows" (.ref ar) (putF "width" (.int wd) []))))))
    generalize upd H15 x (.ins CR dx (putF "born" (.ref ab) (putF "founders" (.ref af) (putF "persons" (.ref ap) (putF "rows" (.ref ar) (putF "width" (.int wd) [])))))) = H16 at S ⊢
    obtain ⟨cs, c1, c2, c3, c4⟩ := S.B.hc
    refine ⟨_, rfl, b, CB, dxb, _, _, rfl, S.B.hb, TB.cl, TB.nKids, rfl, AA.c, cs, rfl, .inl c1, fun aw bs hc _ => ?_⟩
    replace S := S.same (same_upd (o := .tup (bs.map V.ref)) hc)
    generalize upd H16 aw (.tup (bs.map V.ref)) = H17 at S ⊢
    clear c1 c3
    refine ⟨_, rfl, x, CR, dx, _, rfl, S.hx, T.cl, T.nWeddings, (show 5 < 1000 by decide), ?_⟩
    replace S := S.put (fs' := (putF "weddings" (.ref aw) (putF "born" (.ref ab) (putF "founders" (.ref af) (putF "persons" (.ref ap) (putF "rows" (.ref ar) (putF "width" (.int wd) [])))))))
    generalize upd H17 x (.ins CR dx (putF "weddings" (.ref aw) (putF "born" (.ref ab) (putF "founders" (.ref af) (putF "persons" (.ref ap) (putF "rows" (.ref ar) (putF "width" (.int wd) []))))))) = H18 at S ⊢
    obtain ⟨cs, c1, c2, c3, c4⟩ := S.B.hc
    refine ⟨AA.c, _, c1, trivial, fun od => ?_⟩
    have hbl : ∀ (H' : Hp), Same (upd H18 AA.c (.frz od (.dT cs))) H' → H' b = some (.ins CB dxb AA.fs) := fun H' s' => s' _ _ ((upd_ne S.B.cne.2.2.2.2.2.2.1).trans S.B.hb)
    have ho : ∀ (H' : Hp), Same (upd H18 AA.c (.frz od (.dT cs))) H' → H' AA.m = some (.dK (encK (bookO os).now)) := fun H' s' => s' _ _ ((upd_ne S.B.cne.2.2.2.2.1).trans S.B.hm)
    refine ⟨_, rfl, b, CB, dxb, _, _, rfl, hbl _ (Same.refl _), TB.cl, TB.nKids, rfl, AA.c, od, rfl, .inr ⟨cs, upd_same, fun D nD => lc_it walk_keysT (fun i H' => Same (upd H18 AA.c (.frz od (.dT cs))) H' ∧ ∃ acc : List V, acc.length ≤ i ∧ H' D = some (.lst acc)) ⟨same_upd nD, [], Nat.le_refl _, upd_same⟩ (fun i H' _ h => h.1 _ _ upd_same) ?_ ?_⟩⟩
    · rintro i v H6 H7 hi ⟨s6, acc, ha, eD⟩ ⟨rfl, kk, vv, q, ek, rfl, hq⟩
      have hi' : i < 100000 := by omega
      have mem : kk ∈ (bookO os).pairs.map keyT := by
        rw [← c2]
        exact List.mem_map.mpr ⟨(kk, vv), List.mem_of_getElem? ek, rfl⟩
      obtain ⟨⟨f1, m1⟩, hp, rfl⟩ := List.mem_map.mp mem
      refine ⟨rfl, ?_⟩
      refine ⟨_, rfl, b, CB, dxb, _, _, rfl, hbl _ s6, TB.cl, TB.nNow, rfl, AA.m, rfl, .inl ⟨_, .inl (ho _ s6)⟩, _, rfl, _, _, _, .str f1, rfl, rfl, .inr hq, rfl, _, DGet.k (k := Sum.inr f1) (ho _ s6), ?_⟩
      refine ⟨_, rfl, _, _, _, .str m1, rfl, rfl, .inr hq, rfl, ?_⟩
      rw [valV_enc]
      cases e1 : look (bookO os).now f1 with
      | none =>
        refine ⟨rfl, _, rfl, iteF ⟨s6, acc, Nat.le_succ_of_le ha, eD⟩⟩
      | some z =>
        refine ⟨rfl, _, rfl, ite2 (fun _ => ⟨_, rfl, acc, eD, lt_line ha (by omega), fun y' o' e' => ?_, _, ?_, upd_same⟩) (fun _ => ⟨s6, acc, Nat.le_succ_of_le ha, eD⟩)⟩
        · rw [upd_ne (ne_of_none e' nD)]
          exact s6 _ _ e'
        · rw [List.length_append]
          exact Nat.succ_le_succ ha
    rintro H6 ⟨s6, acc, ha, eD⟩
    have sl := unlock c1 s6
    have nDk : D ≠ AA.c := Ne.symm (ne_of_none upd_same nD)
    refine ⟨s6 _ _ upd_same, D, acc, rfl, .inl ⟨SqL.of ((upd_ne nDk).trans eD), fun ac hc => ?_⟩⟩
    replace S := (S.same sl).same (same_upd (o := .tup acc) hc)
    clear sl nDk eD ha s6 nD hbl ho c1 c3
    generalize upd (upd H6 AA.c (.dT cs)) ac (.tup acc) = H19 at S ⊢
    clear hc
    refine ⟨_, rfl, x, CR, dx, _, rfl, S.hx, T.cl, T.nCouples, (show 6 < 1000 by decide), ?_⟩
    replace S := S.put (fs' := (putF "couples" (.ref ac) (putF "weddings" (.ref aw) (putF "born" (.ref ab) (putF "founders" (.ref af) (putF "persons" (.ref ap) (putF "rows" (.ref ar) (putF "width" (.int wd) []))))))))
    generalize upd H19 x (.ins CR dx (putF "couples" (.ref ac) (putF "weddings" (.ref aw) (putF "born" (.ref ab) (putF "founders" (.ref af) (putF "persons" (.ref ap) (putF "rows" (.ref ar) (putF "width" (.int wd) [])))))))) = H20 at S ⊢
    refine ⟨AA.k, _, S.B.hk, trivial, fun od => ?_⟩
    have hbl : ∀ (H' : Hp), Same (upd H20 AA.k (.frz od (.dK (encK (bookO os).kinds)))) H' → H' b = some (.ins CB dxb AA.fs) := fun H' s' => s' _ _ ((upd_ne (ne_of S.B.hb S.B.hk (by intro z; cases z))).trans S.B.hb)
    obtain ⟨des, d1, d2, d3⟩ := S.B.hd
    have ho : ∀ (H' : Hp), Same (upd H20 AA.k (.frz od (.dK (encK (bookO os).kinds)))) H' → H' AA.d = some (.dK des) := fun H' s' => s' _ _ ((upd_ne (Ne.symm S.B.nds.1.2.2.1)).trans d1)
    refine ⟨_, rfl, b, CB, dxb, _, _, rfl, hbl _ (Same.refl _), TB.cl, TB.nKinds, rfl, AA.k, od, rfl, .inl ⟨_, upd_same, fun D nD => lc_it walk_keys (fun i H' => Same (upd H20 AA.k (.frz od (.dK (encK (bookO os).kinds)))) H' ∧ ∃ acc : List V, acc.length ≤ i ∧ H' D = some (.lst acc)) ⟨same_upd nD, [], Nat.le_refl _, upd_same⟩ (fun i H' _ h => h.1 _ _ upd_same) ?_ ?_⟩⟩
    · rintro i v H6 H7 hi ⟨s6, acc, ha, eD⟩ ⟨rfl, kk, vv, ek, rfl⟩
      have hi' : i < 100000 := by have z := S.B.lk; rw [show (encK (bookO os).kinds).length = (bookO os).kinds.length from List.length_map ..] at hi; omega
      refine ⟨rfl, _, rfl, _, rfl, b, CB, dxb, _, _, rfl, hbl _ s6, TB.cl, TB.nDead, rfl, AA.d, _, rfl, DGet.k (k := kk) (ho _ s6), _, rfl, ite2 (fun _ => ⟨_, rfl, acc, eD, lt_line ha (by omega), fun y' o' e' => ?_, _, ?_, upd_same⟩) (fun _ => ⟨s6, acc, Nat.le_succ_of_le ha, eD⟩)⟩
      · rw [upd_ne (ne_of_none e' nD)]
        exact s6 _ _ e'
      · rw [List.length_append]
        exact Nat.succ_le_succ ha
    rintro H6 ⟨s6, acc, ha, eD⟩
    have sl := unlock S.B.hk s6
    have nDk : D ≠ AA.k := Ne.symm (ne_of_none upd_same nD)
    refine ⟨s6 _ _ upd_same, D, acc, rfl, .inl ⟨SqL.of ((upd_ne nDk).trans eD), fun al hc => ?_⟩⟩
    replace S := (S.same sl).same (same_upd (o := .tup acc) hc)
    clear sl nDk eD ha s6 nD hbl ho
    generalize upd (upd H6 AA.k (.dK (encK (bookO os).kinds))) al (.tup acc) = H21 at S ⊢
    clear hc
    refine ⟨_, rfl, x, CR, dx, _, rfl, S.hx, T.cl, T.nLiving, (show 7 < 1000 by decide), ?_⟩
    replace S := S.put (fs' := (putF "living" (.ref al) (putF "couples" (.ref ac) (putF "weddings" (.ref aw) (putF "born" (.ref ab) (putF "founders" (.ref af) (putF "persons" (.ref ap) (putF "rows" (.ref ar) (putF "width" (.int wd) [])))))))))
    generalize upd H21 x (.ins CR dx (putF "living" (.ref al) (putF "couples" (.ref ac) (putF "weddings" (.ref aw) (putF "born" (.ref ab) (putF "founders" (.ref af) (putF "persons" (.ref ap) (putF "rows" (.ref ar) (putF "width" (.int wd) []))))))))) = H22 at S ⊢
    refine ⟨_, rfl, _, rfl, x, CR, dx, _, rfl, S.hx, T.cl, T.nBook, (show 8 < 1000 by decide), ?_⟩
    replace S := S.put (fs' := recF wd ar ap af ab aw ac al b)
    exact q1 ef _ ⟨dx, ar, ap, af, ab, aw, ac, al, b, S.hx, (S.har rfl).any⟩ S.keep
end
end K04

/-! data that can be compared; the hand; letters -/
namespace K04
open PySem PySem.Spec PyProof.Rows L2
section
variable {S : Addr → Prop} {H : Hp}
mutual
theorem Dt.lay {v : V} {d : PyData} (h : Dt S H v d) : d.canLay0 = true := by
  cases h with
  | non => rfl
  | bl b => rfl
  | int i => rfl
  | str x h1 h2 => exact h2
  | lst s e r => exact r.lay
  | tup s e r => exact r.lay
theorem DtAll.lay {vs : List V} {ds : List PyData} (h : DtAll S H vs ds) : PyData.canLayAll0 ds = true := by
  cases h with
  | nil => rfl
  | cons a b => exact Bool.and_eq_true_iff.mpr ⟨a.lay, b.lay⟩
end
end
theorem shaped_of {d : PyData} (h : d.canLay0 = true) (k : d.depth ≤ 64) : SeqAt.shaped d = true := Bool.and_eq_true_iff.mpr ⟨h, decide_eq_true k⟩
/-- the hand stands at p -/
def Hand (p l : Addr) (H : Hp) : Prop := ∃ (cells : List Int) (i r t : Int), HandAt H p l cells i r t
theorem Hand.same {p l : Addr} {H H' : Hp} (h : Hand p l H) (s : Same H H') : Hand p l H' := by
  obtain ⟨cells, i, r, t, h⟩ := h
  exact ⟨cells, i, r, t, hand_same h s⟩
theorem Hand.at_ {p l : Addr} {H : Hp} (h : Hand p l H) : ∃ xs, H p = some (.lst xs) := by
  obtain ⟨cells, i, r, t, h⟩ := h
  exact ⟨_, h.1⟩
theorem Hand.nn {p l : Addr} {H : Hp} (h : Hand p l H) {a : Addr} (n : H a = none) : a ≠ p := fun z => by
  obtain ⟨xs, e⟩ := h.at_
  rw [z, e] at n
  cases n
theorem Hand.app {p l a : Addr} {H : Hp} {o : HO} (h : Hand p l H) (n1 : a ≠ p) (n2 : a ≠ l) : Hand p l (upd H a o) := by
  obtain ⟨cells, i, r, t, h⟩ := h
  exact ⟨cells, i, r, t, (upd_ne (Ne.symm n1)).trans h.1, (upd_ne (Ne.symm n2)).trans h.2.1, h.2.2⟩
theorem Hand.nl {p l : Addr} {H : Hp} (h : Hand p l H) {a : Addr} (n : H a = none) : a ≠ l := fun z => by
  obtain ⟨cells, i, r, t, h⟩ := h
  rw [z, h.2.1] at n
  cases n
theorem Hand.back {p l : Addr} {H H' : Hp} (h : Hand p l H') (k : Kept p H H') {a : Addr} (n : H' a = none) : H a = none := by
  cases e : H a with
  | none => rfl
  | some o =>
    have z := k _ _ (h.nn n) e
    rw [n] at z
    cases z
abbrev New (H : Hp) : Addr → Prop := fun a => H a = none
theorem Dt.newer {H H1 H' : Hp} {v : V} {d : PyData} {p l : Addr} (h : Dt (New H1) H' v d) (hp : Hand p l H1) (k : Kept p H H1) : Dt (New H) H' v d := h.to (fun a n => hp.back k n) fun _ _ _ e => e
theorem Dt.new_kept {H H1 H' : Hp} {v : V} {d : PyData} {p l : Addr} (h : Dt (New H) H1 v d) (hp : Hand p l H) (k : Kept p H1 H') : Dt (New H) H' v d := h.kept (fun n => (hp.nn n) rfl) k
theorem DtAll.newer {H H1 H' : Hp} {v : List V} {d : List PyData} {p l : Addr} (h : DtAll (New H1) H' v d) (hp : Hand p l H1) (k : Kept p H H1) : DtAll (New H) H' v d := h.to (fun a n => hp.back k n) fun _ _ _ e => e
theorem DtAll.new_kept {H H1 H' : Hp} {v : List V} {d : List PyData} {p l : Addr} (h : DtAll (New H) H1 v d) (hp : Hand p l H) (k : Kept p H1 H') : DtAll (New H) H' v d := h.kept (fun n => (hp.nn n) rfl) k
def spDr : Sp := fun vs H Q _ => ∃ (p l : Addr) (m : Int), vs = [.ref p, .int m] ∧ Hand p l H ∧ 0 < m ∧ m.natAbs < 2 ^ 200 ∧ ∀ (d : Int) (H' : Hp), 0 ≤ d → d < m → Kept p H H' → Hand p l H' → Q (.int d) H'
def spPk : Sp := fun vs H Q _ => ∃ (p l a : Addr) (xs : List V), vs = [.ref p, .ref a] ∧ Hand p l H ∧ H a = some (.lst xs) ∧ a ≠ p ∧ 0 < xs.length ∧ xs.length ≤ 1000 ∧ ∀ (v : V) (H' : Hp), v ∈ xs → Kept p H H' → Hand p l H' → Q v H'
section
variable {P : Program} {w : World} {K : PySem.W.Frag} {mg : Str → Option Value} {base : Heap}
theorem Df.draw {f : Addr} {fd : FuncData} (d : Df P w K mg base "_law_draw" 2 ["_law_hand_here", "_law_many"] spDraw f fd) : Df P w K mg base "_law_draw" 2 ["_law_hand_here", "_law_many"] spDr f fd :=
  ⟨d.gl, d.ok.imp fun vs H Q E ⟨p, l, m, e, ⟨cells, i, r, t, h⟩, h0, h1, q⟩ => ⟨p, l, cells, i, r, t, m, e, h, h0, small2 h1, fun d i' r' t' d0 d1 ok => q _ _ d0 d1 Kept.upd ⟨cells, i', r', t', hand_upd h ok⟩⟩, d.bi, d.kp⟩
theorem Df.pick {f : Addr} {fd : FuncData} (d : Df P w K mg base "_law_pick" 3 ["_law_hand_here", "_law_things"] (spPick K) f fd) : Df P w K mg base "_law_pick" 3 ["_law_hand_here", "_law_things"] spPk f fd :=
  ⟨d.gl, d.ok.imp fun vs H Q E ⟨p, l, a, xs, e, ⟨cells, i, r, t, h⟩, ha, nap, h0, h1, q⟩ => ⟨p, l, cells, i, r, t, h, .inl ⟨a, xs, e, SqL.of ha, nap, h0, h1, fun v i' r' t' hv ok => q _ _ hv Kept.upd ⟨cells, i', r', t', hand_upd h ok⟩⟩⟩, d.bi, d.kp⟩
end
/-! ### written things -/
def DtE (t : TE) (d : PyData) : Prop := ∀ (σ : L2.St) (H : Hp) (Q : VK), (∀ v H', Same H H' → Dt (New H) H' v d → Q v H') → t σ H Q
def DtA (t : TA) (ds : List PyData) : Prop := ∀ (σ : L2.St) (H : Hp) (Q : List V → Hp → Prop), (∀ vs H', Same H H' → DtAll (New H) H' vs ds → Q vs H') → t σ H Q
theorem deN : DtE (tC .non) .none := fun σ H Q q => q _ _ (Same.refl _) .non
theorem deB {b : Bool} : DtE (tC (.bl b)) (.bool b) := fun σ H Q q => q _ _ (Same.refl _) (.bl b)
theorem deI {i : Int} : DtE (tC (.int i)) (.int i) := fun σ H Q q => q _ _ (Same.refl _) (.int i)
def okS (x : Str) : Bool := decide (x.length ≤ 1000) && (PyData.str x).canLay0
theorem okS_dt {S : Addr → Prop} {H : Hp} {x : Str} (h : okS x = true) : Dt S H (.str x) (.str x) := by
  obtain ⟨a, b⟩ := Bool.and_eq_true_iff.mp h
  exact .str x (of_decide_eq_true a) b
theorem deS {x : Str} (h : okS x = true) : DtE (tC (.str x)) (.str x) := fun σ H Q q => q _ _ (Same.refl _) (okS_dt h)
theorem deU {i : Int} : DtE (tUn (rU fun i => .int (-i)) (tC (.int i))) (.int (-i)) := fun σ H Q q => ⟨i, rfl, q _ _ (Same.refl _) (.int _)⟩
theorem deP {i j : Int} (h : 0 ≤ j ∧ j ≤ 1000000 ∧ i.natAbs < 2 ^ 64) : DtE (tOp (rI CPow fun i j => .int (i ^ j.toNat)) (tC (.int i)) (tC (.int j))) (.int (i ^ j.toNat)) := fun σ H Q q => ⟨_, _, rfl, rfl, h, q _ _ (Same.refl _) (.int _)⟩
theorem dePA {i j k : Int} (h : 0 ≤ j ∧ j ≤ 1000000 ∧ i.natAbs < 2 ^ 64) : DtE (tOp (rI0 fun i j => .int (i + j)) (tOp (rI CPow fun i j => .int (i ^ j.toNat)) (tC (.int i)) (tC (.int j))) (tC (.int k))) (.int (i ^ j.toNat + k)) := fun σ H Q q => ⟨_, _, rfl, rfl, h, _, _, rfl, rfl, q _ _ (Same.refl _) (.int _)⟩
theorem daN : DtA tNil [] := fun σ H Q q => q [] H (Same.refl _) .nil
theorem Dt.from {H H1 H2 : Hp} {v : V} {d : PyData} (h : Dt (New H1) H2 v d) (s : Same H H1) : Dt (New H) H2 v d := h.to (fun a n => none_of s n) fun _ _ _ e => e
theorem DtAll.from {H H1 H2 : Hp} {v : List V} {d : List PyData} (h : DtAll (New H1) H2 v d) (s : Same H H1) : DtAll (New H) H2 v d := h.to (fun a n => none_of s n) fun _ _ _ e => e
theorem daK {t : TE} {d : PyData} {ta : TA} {ds : List PyData} (h : DtE t d) (r : DtA ta ds) : DtA (tCons t ta) (d :: ds) := fun σ H Q q => h σ H _ fun v H1 s1 h1 => r σ H1 _ fun vs H2 s2 h2 => q _ _ (s1.trans s2) (.cons (h1.same s2) (h2.from s1))
theorem deL {t : TA} {ds : List PyData} (h : DtA t ds) (hl : ds.length ≤ 1000) : DtE (tLst t) (.list ds) := fun σ H Q q => h σ H _ fun vs H1 s1 h1 => ⟨by rw [h1.len]; exact Nat.le_trans hl (by decide), fun p np => q _ _ (s1.trans (same_upd np)) (.lst (none_of s1 np) upd_same (h1.same (same_upd np)))⟩
theorem deT {t : TA} {ds : List PyData} (h : DtA t ds) (hl : ds.length ≤ 1000) : DtE (tTup t) (.tuple ds) := fun σ H Q q => h σ H _ fun vs H1 s1 h1 => ⟨by rw [h1.len]; exact Nat.le_trans hl (by decide), fun p np => q _ _ (s1.trans (same_upd np)) (.tup (none_of s1 np) upd_same (h1.same (same_upd np)))⟩
theorem DtAll.mem {S : Addr → Prop} {H : Hp} {vs : List V} {ds : List PyData} (h : DtAll S H vs ds) {v : V} (hv : v ∈ vs) : ∃ d ∈ ds, Dt S H v d := by
  obtain ⟨i, hi, e⟩ := List.mem_iff_getElem.mp hv
  obtain ⟨d, ed, hd⟩ := h.get (i := i) (v := v) (by rw [List.getElem?_eq_getElem hi, e])
  exact ⟨d, List.mem_of_getElem? ed, hd⟩
/-- one of a written list is picked -/
theorem pick_menu {j : Nat} {p l : Addr} {tl : TE} {ds : List PyData} {σ : L2.St} {H : Hp} {Q : VK} (e : σ[j]? = some (some (.ref p))) (hp : Hand p l H) (hl : DtE tl (.list ds)) (h0 : 0 < ds.length) (h1 : ds.length ≤ 1000)
    (q : ∀ v d H', d ∈ ds → Dt (New H) H' v d → Kept p H H' → Hand p l H' → Q v H') : tCall spPk [] E0 (tCons (tVar j) (tCons tl tNil)) σ H Q := by
  refine ⟨_, e, hl σ H _ fun v H1 s1 hd => ?_⟩
  cases hd with
  | @lst a xs _ na ea hx =>
    have el := hx.len
    refine ⟨p, l, a, xs, rfl, hp.same s1, ea, hp.nn na, by omega, by omega, fun v H2 hv k h2 => ?_⟩
    obtain ⟨d, hd, hvd⟩ := hx.mem hv
    exact q v d H2 hd (hvd.new_kept hp k) ((Kept.same s1).trans k) h2
theorem dt_ints {S : Addr → Prop} {H : Hp} : ∀ acc : List Int, DtAll S H (acc.map V.int) (acc.map PyData.int)
  | [] => .nil
  | x :: xs => .cons (.int x) (dt_ints xs)
/-- labels that may stand in a row -/
def Lab (x : Str) : Prop := labelV (.str x) = true ∧ okS x = true
/-- n letters at most -/
structure Wd (x : Str) (n : Nat) : Prop where
  len : x.length ≤ n
  low : x.cps.toList.all lowC = true
  lay : layS x
theorem low_lt {c : Nat} (h : lowC c = true) : c < 0x110000 := by
  unfold lowC at h
  rw [lt_one, lt_one] at h
  obtain ⟨_, h2⟩ := Bool.and_eq_true_iff.mp h
  have z := not_t h2
  have y : ¬ 122 < c := fun w => by rw [decide_eq_true w] at z; cases z
  omega
theorem Wd.snoc {x : Str} {n c : Nat} (h : Wd x n) (hc : lowC c = true) : Wd (x ++ ⟨#[c]⟩) (n + 1) := by
  refine ⟨by rw [len_app]; exact Nat.succ_le_succ h.len, ?_, lay_app h.lay (low_lt hc)⟩
  show (x.cps ++ #[c]).toList.all lowC = true
  rw [Array.toList_append, List.all_append, h.low, Bool.true_and]
  show (lowC c && true) = true
  rw [hc]
  rfl
theorem letter_at {k : Int} (h0 : 0 ≤ k) (h1 : k < 26) : ∃ c, atI lettersS.cps.toList k = some c ∧ lowC c = true := by
  have e : lettersS.cps.toList[k.toNat]? = some (97 + k.toNat) := by
    rw [letters_are, List.getElem?_map, List.getElem?_range (by omega)]
    show some (k.toNat + 97) = _
    rw [Nat.add_comm]
  have z := atI_nat e
  rw [Int.toNat_of_nonneg h0] at z
  refine ⟨_, z, ?_⟩
  unfold lowC
  rw [lt_one, lt_one, decide_eq_false (by omega), decide_eq_false (by omega)]
  rfl
theorem Wd.lab {x : Str} {n c : Nat} (h : Wd x n) (hn : n ≤ 5) (hc : lowC c = true) : Lab (x ++ ⟨#[c]⟩) := by
  have z := h.snoc hc
  have l1 : (x ++ (⟨#[c]⟩ : Str)).length = x.length + 1 := len_app
  have l2 := h.len
  refine ⟨?_, Bool.and_eq_true_iff.mpr ⟨decide_eq_true (by rw [l1]; omega), z.lay⟩⟩
  show ((decide ((1 : Int) ≤ (x ++ (⟨#[c]⟩ : Str)).length) && decide (((x ++ (⟨#[c]⟩ : Str)).length : Int) ≤ 6)) && (x ++ (⟨#[c]⟩ : Str)).cps.toList.all lowC) = true
  rw [z.low, l1, decide_eq_true (by omega), decide_eq_true (by omega)]
  rfl
section
variable {S : Addr → Prop} {H : Hp}
mutual
theorem Dt.alloc {v : V} {d : PyData} (h : Dt S H v d) : Dt (fun a => S a ∧ ∃ o, H a = some o) H v d := by
  cases h with
  | non => exact .non
  | bl b => exact .bl b
  | int i => exact .int i
  | str x h1 h2 => exact .str x h1 h2
  | lst s e r => exact .lst ⟨s, _, e⟩ e r.alloc
  | tup s e r => exact .tup ⟨s, _, e⟩ e r.alloc
theorem DtAll.alloc {vs : List V} {ds : List PyData} (h : DtAll S H vs ds) : DtAll (fun a => S a ∧ ∃ o, H a = some o) H vs ds := by
  cases h with
  | nil => exact .nil
  | cons a b => exact .cons a.alloc b.alloc
end
end
def rListS : List V → Hp → VK → Prop := fun vs H Q => ∃ (a : Addr) (xs : List V), vs = [.ref a] ∧ Sq H a xs ∧ ∀ l : Addr, H l = none → Q (.ref l) (upd H l (.lst xs))
theorem call_listS {X : Cx} : CallR X (.type "list") rListS := fun pins s σ H vs us Q I r h => by
  obtain ⟨a, xs, rfl, hS, k⟩ := h
  exact call_list_of pins s σ H _ us Q I r ⟨a, xs, rfl, hS.or, k⟩
def tupB : PyData → Bool
  | .tuple _ => true
  | _ => false
/-- is it a tuple -/
theorem isi_tup {K : PySem.W.Frag} {S : Addr → Prop} {H : Hp} {v : V} {d : PyData} {j : Nat} {σ : L2.St} {Q : VK} (e : σ[j]? = some (some v)) (h : Dt S H v d) (q : Q (.bl (tupB d)) H) :
    tCB (rIsi K) (tCons (tVar j) (tCons (tC (.ty "tuple")) tNil)) σ H Q := by
  have ty := h.odd.ty (K := K)
  cases h with
  | non => exact ⟨_, e, _, _, _, _, false, rfl, .ty _, .base .non, kit_ty (by decide +kernel), q⟩
  | bl b => exact ⟨_, e, _, _, _, _, false, rfl, .ty _, .base (.bl b), kit_ty (by decide +kernel), q⟩
  | int i => exact ⟨_, e, _, _, _, _, false, rfl, .ty _, .base (.int i), kit_ty (by decide +kernel), q⟩
  | str x _ _ => exact ⟨_, e, _, _, _, _, false, rfl, .ty _, .base (.str x), kit_ty (by decide +kernel), q⟩
  | lst _ e1 _ => exact ⟨_, e, _, _, _, _, false, rfl, .ty _, .base (.lst e1), kit_ty (by decide +kernel), q⟩
  | tup _ e1 _ => exact ⟨_, e, _, _, _, _, true, rfl, .ty _, .base (.tup e1), kit_ty (by decide +kernel), q⟩
theorem depth_le : ∀ {xs : List PyData} {n : Nat}, PyData.depthAll xs ≤ n ↔ ∀ x ∈ xs, x.depth ≤ n
  | [], n => ⟨(fun _ x h => by cases h), fun _ => Nat.zero_le _⟩
  | x :: xs, n => by
    have ih := depth_le (xs := xs) (n := n)
    show max x.depth (PyData.depthAll xs) ≤ n ↔ _
    refine ⟨fun h y hy => ?_, fun h => Nat.max_le.mpr ⟨h x List.mem_cons_self, ih.mpr fun y hy => h y (List.mem_cons_of_mem _ hy)⟩⟩
    rcases List.mem_cons.mp hy with rfl | hy
    · exact Nat.le_trans (Nat.le_max_left _ _) h
    · exact ih.mp (Nat.le_trans (Nat.le_max_right _ _) h) y hy
theorem ints_depth : ∀ hs : List Int, PyData.depthAll (hs.map PyData.int) = 0
  | [] => rfl
  | x :: hs => by
    show max 0 (PyData.depthAll (hs.map PyData.int)) = 0
    rw [ints_depth hs]
    rfl
theorem passX0 {X : Cx} : Passes (L2.CX X.prog X.w) X E0 := fun _ _ _ _ _ _ _ h => by
  obtain ⟨_, _, _, _, _, _, _, _, _, _, _, _, e⟩ := h
  exact e.elim
theorem data_row {d : PyData} {r : Rw} (h : RowD d (some r)) (k : okD d) : RowD r.data (some r) ∧ okD r.data := by
  cases h with
  | row e hw =>
    cases hw with
    | @comes l kk n hs e5 hl hk hn he hh =>
      refine ⟨.row rfl (.comes hl hk hn rfl hh), fun xs ex => ?_⟩
      cases ex
      refine ⟨by simp, fun x hx ys ey => ?_⟩
      simp only [List.mem_cons, List.not_mem_nil, or_false] at hx
      rcases hx with rfl | rfl | rfl | rfl | rfl
      · cases ey
      · cases ey
      · cases ey
      · cases ey
      · cases ey
        exact (k _ e).2 e5 (by simp) _ he
    | weds hf hm =>
      refine ⟨.row rfl (.weds hf hm), fun xs ex => ?_⟩
      cases ex
      refine ⟨by simp, fun x hx ys ey => ?_⟩
      simp only [List.mem_cons, List.not_mem_nil, or_false] at hx
      rcases hx with rfl | rfl | rfl <;> cases ey
    | born hf hm hk hl hn =>
      refine ⟨.row rfl (.born hf hm hk hl hn), fun xs ex => ?_⟩
      cases ex
      refine ⟨by simp, fun x hx ys ey => ?_⟩
      simp only [List.mem_cons, List.not_mem_nil, or_false] at hx
      rcases hx with rfl | rfl | rfl | rfl | rfl | rfl <;> cases ey
    | dies hl =>
      refine ⟨.row rfl (.dies hl), fun xs ex => ?_⟩
      cases ex
      refine ⟨by simp, fun x hx ys ey => ?_⟩
      simp only [List.mem_cons, List.not_mem_nil, or_false] at hx
      rcases hx with rfl | rfl <;> cases ey
theorem data_rows {ds : List PyData} {os : List (Option Rw)} (h : RowsD ds os) : (∀ o ∈ os, ∃ r, o = some r) → RowsD (os.map datO) os := by
  induction h with
  | nil => exact fun _ => .nil
  | @cons d o ds os hr hk _ ih =>
    intro hs
    obtain ⟨r, rfl⟩ := hs o (by simp)
    obtain ⟨h1, h2⟩ := data_row hr hk
    exact .cons h1 h2 (ih fun o ho => hs o (List.mem_cons_of_mem _ ho))
theorem data_depth (o : Option Rw) : (datO o).depth ≤ 2 := by
  cases o with
  | none => exact Nat.zero_le _
  | some r =>
    cases r with
    | comes l k n hs =>
      show PyData.depthAll [.str "comes", .str l, .str k, .int n, .tuple (hs.map PyData.int)] + 1 ≤ 2
      have := ints_depth hs
      have e : PyData.depthAll [.str "comes", .str l, .str k, .int n, .tuple (hs.map PyData.int)] ≤ 1 := depth_le.mpr fun x hx => by
        simp only [List.mem_cons, List.not_mem_nil, or_false] at hx
        rcases hx with rfl | rfl | rfl | rfl | rfl
        · exact Nat.zero_le _
        · exact Nat.zero_le _
        · exact Nat.zero_le _
        · exact Nat.zero_le _
        · show PyData.depthAll (hs.map PyData.int) + 1 ≤ 1
          omega
      omega
    | weds f m => exact Nat.le_succ_of_le (Nat.le_refl 1)
    | born f m k l n => exact Nat.le_succ_of_le (Nat.le_refl 1)
    | dies l => exact Nat.le_succ_of_le (Nat.le_refl 1)
theorem rows_depth (os : List (Option Rw)) : PyData.depthAll (os.map datO) ≤ 2 := depth_le.mpr fun x hx => by
  obtain ⟨o, _, rfl⟩ := List.mem_map.mp hx
  exact data_depth o
theorem rows_noL (os : List (Option Rw)) : noL (rowsD os) = true := noL_dat os
end K04

/-! list(o) and len(o) of an instance whose class has its own __iter__, that gives iter(tuple), and its own __len__ -/
namespace K04
open PySem PySem.Spec PyProof.Rows L2
/-- at it an iterator over the tuple at t, the next place is i -/
def ItT (t it : Addr) (i : Nat) : HO := .ext fun h => h.IsTupleIter it t i
theorem itT_ok {P : Program} {w : World} {H : Hp} {h : Heap} {t it : Addr} {i : Nat} (e : h.IsTupleIter it t i) : ObjOk P w H h it (ItT t it i) := ⟨e, ⟨_, e.choose_spec.1⟩, fun h1 h2 q k => by
  obtain ⟨o, ho, r⟩ := q
  exact ⟨o, k _ ho, r⟩⟩
/-- iter(t), t a tuple -/
def rIterT : List V → Hp → VK → Prop := fun xs H Q => ∃ (t : Addr) (ys : List V), xs = [.ref t] ∧ H t = some (.tup ys) ∧ ∀ it, H it = none → Q (.ref it) (upd H it (ItT t it 0))
theorem call_iterT {X : Cx} : CallR X (.builtin "iter") rIterT := by
  intro pins s σ H xs us Q I r h
  obtain ⟨t, ys, rfl, ht, q⟩ := h
  obtain rfl := Vals.ref1 r
  obtain ⟨its, rv, pl, hz⟩ := I.tuple (SqT.of ht)
  refine Calls.call_function_entry (by decide +kernel) (by decide +kernel) PySem.W.kdk_entry_iter (PySem.W.kdk_args_iter _) ?_
  unfold Builtin.«iter»
  refine wpAny_bind (m := someArgs "iter" 1 2 _) (wpAny_of_eq (a := [Value.ref t]) (by first | rfl | kernel_rfl!) ?_)
  show wpAny _ _ (pyIter (.ref t) >>= _) _ _ _
  refine wpAny_bind (wpAny_pyIter_tuple pl ?_)
  refine wpAny_pure ⟨_, rfl, ?_⟩
  exact ⟨.ref s.heap.objs.size, _, I.laid (t' := s.toks) (fun b u e => Heap.get?_push_of_some _ e) (Nat.le_refl _) (itT_ok ⟨_, Heap.get?_push_size _ rfl, rfl, rfl⟩), rfl, q _ (I.hok.fresh (Nat.le_refl _))⟩
/-- what __iter__ gives -/
def spIterR (CR : Addr) : Sp := fun vs H Q _ => ∃ (x dx ar : Addr) (fs : List (Str × V)) (ys : List V), vs = [.ref x] ∧ H x = some (.ins CR dx fs) ∧ fs.lookup ("rows" : Str) = some (V.ref ar) ∧ H ar = some (.tup ys) ∧ ∀ it, H it = none → Q (.ref it) (upd H it (ItT ar it 0))
def spLenR (CR : Addr) : Sp := fun vs H Q _ => ∃ (x dx ar : Addr) (fs : List (Str × V)) (ys : List V), vs = [.ref x] ∧ H x = some (.ins CR dx fs) ∧ fs.lookup ("rows" : Str) = some (V.ref ar) ∧ H ar = some (.tup ys) ∧ Q (.int ys.length) H
/-- the class's own methods -/
structure OwnC (P : Program) (w : World) (K : PySem.W.Frag) (mg : Str → Option Value) (base : Heap) (C fI fL : Addr) (fdI fdL : FuncData) : Prop where
  it : PySem.W.findIn K (.ref C) "__iter__" = some (some (.ref fI))
  itF : PySem.W.isFn K (.ref fI) = true
  ln : PySem.W.findIn K (.ref C) "__len__" = some (some (.ref fL))
  lnF : PySem.W.isFn K (.ref fL) = true
  okI : FnOk P w K mg base CX0 1 fI fdI ["self"] (spIterR C)
  biI : Binds K fdI ["self"] []
  okL : FnOk P w K mg base CX0 1 fL fdL ["self"] (spLenR C)
  biL : Binds K fdL ["self"] []
section
variable {X : Cx} {pins : List (Addr × Obj)} {σ : L2.St} {H : Hp} {s s' : Shared} {C fI fL x dx ar : Addr} {fdI fdL : FuncData} {fs : List (Str × V)} {ys : List V} {A1 : Around}
theorem env_sub {n : Nat} (sb : Sub X n A1) (I : Inv X pins σ H s) : Env0 X.prog X.w X.K X.mg X.base A1 X.stack s H := by
  have e := I.env0
  exact ⟨by rw [sb.fr]; exact e.frames, e.mod, e.bs, e.bsz, e.funs, e.frf, e.hok, e.bare⟩
/-- len(x) -/
theorem own_len {Q : Value → Shared → Prop} {E : Value → Shared → Prop} (sb : Sub X 2 A1) (O : OwnC X.prog X.w X.K X.mg X.base C fI fL fdI fdL) (I : Inv X pins σ H s) (hx : H x = some (.ins C dx fs)) (hl : fs.lookup ("rows" : Str) = some (V.ref ar)) (ha : H ar = some (.tup ys))
    (h : ∀ (t : Tok) (s' : Shared), Inv X pins σ H s' → Q (.int (ys.length : Int) t) s') : wpAny (model X.prog X.w) A1 (call (.builtin "len") [.ref x]) Q E s := by
  obtain ⟨_, hz, _⟩ := I.tuple (SqT.of ha)
  obtain ⟨mA, J, _⟩ := ins_get I.hok hx
  obtain ⟨od, J, _⟩ := J.look
  refine Calls.call_function_entry kind_len plain_len entry_len (args_len1 _) ?_
  unfold Builtin.«len»
  refine wpAny_bind (m := oneArg "len" _) (wpAny_pure ?_)
  refine wpAny_bind (m := callSpecial? (.ref x) (Str.ofString "__len__")) ?_
  unfold callSpecial? specialOf
  refine wpAny_bind (wpAny_bind (J.type.here ((PySem.W.looks_findIn I.kIn O.ln).here ?_)))
  refine wpAny_holding ?_
  refine wpAny_bind ((PySem.W.bind_fn I.kIn _ (beq_iff_eq.mp O.lnF)).here ?_)
  have r2 : Vals [V.ref x] [Value.ref x] := .cons rfl .nil
  have hsp : spLenR C [.ref x] H (fun v H' => v = .int (ys.length : Int) ∧ H' = H) E0 := ⟨x, dx, ar, fs, ys, rfl, hx, hl, ha, rfl, rfl⟩
  have hlen := O.okL.len _ _ _ _ hsp
  refine wpAny_bind (wpAny_call (codeAny_mono (O.okL.run A1.in1 X.stack s H ⟨[.ref x], []⟩ [.ref x] [.ref x] _ _ sb.in1.room (env_sub sb.in1 I) (by
    have := O.biL s [.ref x] I.kIn (by simpa using hlen)
    simpa using this) r2 hsp) fun r s' hq => ?_))
  cases r with
  | error e => exact hq.elim
  | ok fl =>
    cases fl with
    | ret u =>
      obtain ⟨v, H', I', rv, rfl, rfl⟩ := I.after hq
      obtain ⟨tk, rfl⟩ := rv
      have hn : ys.length ≤ sizeLine := (I.tuple (SqT.of ha)).choose_spec.2.2
      rw [sizeLine_eq] at hn
      refine wpAny_pure ?_
      refine wpAny_bind (wpAny_holding (wpAny_pure ?_))
      refine wpAny_bind (wpAny_letGo ?_)
      show wpAny _ _ (if ((ys.length : Nat) : Int) < 0 then _ else _) _ _ _
      rw [if_neg (by omega)]
      show wpAny _ _ (if ((ys.length : Nat) : Int) ≥ 2 ^ 63 then _ else _) _ _ _
      rw [if_neg (by omega)]
      exact wpAny_bind (wpAny_mkInt (wpAny_pure ⟨_, rfl, h _ _ (I'.tok _)⟩))
    | next => exact False.elim hq
    | brk => exact False.elim hq
    | cont => exact False.elim hq
/-- what the list asks for the length -/
theorem own_hintL {E : Value → Shared → Prop} {Q : Bool → Shared → Prop} (sb : Sub X 2 A1) (O : OwnC X.prog X.w X.K X.mg X.base C fI fL fdI fdL) (I : Inv X pins σ H s) (hx : H x = some (.ins C dx fs)) (hl : fs.lookup ("rows" : Str) = some (V.ref ar)) (ha : H ar = some (.tup ys))
    (h : ∀ (b : Bool) (s' : Shared), Inv X pins σ H s' → Q b s') : wpAny (model X.prog X.w) A1 (Builtin.List.listLengthHint (.ref x)) Q E s := by
  obtain ⟨mA, J, _⟩ := ins_get I.hok hx
  obtain ⟨od, J, _⟩ := J.look
  have hn : ys.length ≤ sizeLine := (I.tuple (SqT.of ha)).choose_spec.2.2
  unfold Builtin.List.listLengthHint
  refine wpAny_bind (wpAny_bind (J.type.here ((PySem.W.looks_findIn I.kIn O.ln).here ?_)))
  refine PySem.W.KFB.if_not rfl ?_
  refine PySem.W.KFB.if_so rfl ?_
  refine wpAny_bind (wpAny_rule ?_)
  refine wpAny_bind (wpAny_attempt (own_len sb O I hx hl ha fun t s' I' => ?_))
  refine wpAny_bind (wpAny_pure ?_)
  show wpAny _ _ (if Builtin.List.listTooLong ((ys.length : Int)).toNat = true then _ else _) _ _ _
  rw [if_neg (by rw [show ((ys.length : Int)).toNat = ys.length from rfl, notLongL hn]; exact Bool.false_ne_true)]
  exact wpAny_pure (h _ _ I')
/-- an iterator at its end; it stands on -/
theorem next_endT {M : Program} {w : World} {A : Around} {s : Shared} {E : Value → Shared → Prop} {it t : Addr} {i : Nat} {items : Array Value} {Q : Option Value → Shared → Prop} (hh : A.handled = none) (hit : s.heap.IsTupleIter it t i) (ht : s.heap.IsTuple t items) (hx : items[i]? = none)
    (hQ : ∀ h', (∃ o, h'.get? it = some o) → Heap.ExtBut it s.heap h' → Q none { s with heap := h' }) : wpAny (model M w) A (pyNext (.ref it)) Q E s := by
  obtain ⟨o, ho, hc, hd⟩ := id hit
  obtain ⟨ol, hol, _, nl, hdl⟩ := ht
  unfold pyNext
  refine wpAny_bind (wpAny_attempt (wpAny_callSpecial?_slot (name := Str.ofString "__next__") hit.typeIs PySem.F.slot_tuple_iterator_next (wpAny_call_entry PySem.F.slot_tuple_iterator_next hit.typeIs PySem.F.entry_tuple_iterator_next ?_ (PySem.F.args_tuple_iterator_next_1 _))))
  show wpAny _ _ (field (.ref it) 0 >>= _) _ _ s
  refine wpAny_bind (wpAny_field ho hd (x := .ref t) rfl ?_)
  show wpAny _ _ (if (Value.ref t == Value.none) = true then _ else _) _ _ s
  rw [if_neg (show ¬ ((Value.ref t == Value.none) = true) from Bool.false_ne_true)]
  show wpAny _ _ (field (.ref it) 1 >>= _) _ _ s
  refine wpAny_bind (wpAny_field ho hd (x := .int i 0) rfl ?_)
  show wpAny _ _ (seqItems? (.ref t) >>= _) _ _ s
  refine wpAny_bind (wpAny_seqItems hol hdl ?_)
  simp only [Int.toNat_natCast, hx]
  refine wpAny_bind (wpAny_rule (wpAny_bind (wpAny_setField ho hd (by simp) ?_)))
  show wpAny _ _ (newExc (.type "StopIteration") [] >>= _) _ _ _
  refine wpAny_bind ?_
  simp only [newExc, newTuple]
  refine wpAny_bind (wpAny_newObj_type ?_ (by size_fits))
  refine wpAny_bind (m := firstArgMember _ _) (wpAny_of_eq (a := Value.none) (by first | rfl | (simp only [firstArgMember]; rfl)) ?_)
  refine wpAny_newObj_type ?_ (by size_fits)
  simp only [raiseNew]
  refine wpAny_bind (wpAny_handled ?_)
  first | rw [show A.in1.handled = none from hh] | rw [hh]
  refine wpAny_bind (wpAny_pure (wpAny_throw ?_))
  refine wpAny_bind (wpAny_isInstance (T := "StopIteration") (b := true) ⟨_, Heap.get?_push_size _ rfl, rfl⟩ isSubtype_stop ?_)
  refine wpAny_pure (hQ _ ⟨_, Heap.get?_push_of_some _ (Heap.get?_push_of_some _ (Heap.get?_update_self _ ho (Obj.isFreed_of_fields (Obj.data_mapFields hd _))))⟩ (((Heap.SameBut.update ..).extBut.push _).push _))
/-- .. where it was -/
def ItJ (it : Addr) : HO := .ext fun h => ∃ o, h.get? it = some o
theorem upd_back {H : Hp} {a b : Addr} {o u : HO} (ne : a ≠ b) : upd (upd H a o) b u = upd (upd H b u) a o := by
  funext z
  by_cases h1 : z = a
  · subst h1
    rw [upd_ne ne, upd_same, upd_same]
  · by_cases h2 : z = b
    · subst h2
      rw [upd_same, upd_ne h1, upd_same]
    · rw [upd_ne h2, upd_ne h1, upd_ne h1, upd_ne h2]
/-- the walk: the first i items stand in the list -/
theorem tup_loop {Rs : Result → Shared → Prop} {it q t : Addr} (hh : A1.handled = none) (hne : q ≠ it) (hqt : q ≠ t) (hti : t ≠ it)
    (hdone : ∀ (H' : Hp) s, Inv X pins σ H' s → H' q = some (.lst ys) → (∀ b, b ≠ q → b ≠ it → H' b = H b) → Rs (.ok (.ret .none)) s) :
    ∀ (k : Nat) (acc rest : List V) (H1 : Hp) (s : Shared), rest.length = k → ys = acc ++ rest → Inv X pins σ H1 s → H1 q = some (.lst acc) → H1 it = some (ItT t it acc.length) → H1 t = some (.tup ys) → (∀ b, b ≠ q → b ≠ it → H1 b = H b) →
      codeAny (model X.prog X.w) A1 (.builtin "list.extend.loop" ⟨[.ref q, .ref it, .none], []⟩) Rs s := by
  intro k
  induction k with
  | zero =>
    intro acc rest H1 s hk hy I hq hi ht hk1
    obtain rfl := List.length_eq_zero_iff.mp hk
    rw [List.append_nil] at hy
    subst hy
    refine codeAny_builtin PySem.F.entry_extend_loop ?_
    rw [Around.under_plainId PySem.F.plain_extend_loop _]
    show wpAny _ A1.in1 (pyNext (.ref it) >>= _) _ _ s
    obtain ⟨its, rv, pl, hz⟩ := I.tuple (SqT.of ht)
    refine wpAny_bind (next_endT hh (I.hok it _ hi).1 pl (by rw [List.getElem?_toArray]; exact List.getElem?_eq_none (by rw [← rv.length]; exact Nat.le_refl _)) fun h' hj he => ?_)
    have mu : Mut (H1 it) := by rw [hi]; exact True.intro
    have I2 : Inv X pins σ (upd H1 it (ItJ it)) { s with heap := h' } := I.write (x := it) (e := it) (t' := s.toks) mu (.inl rfl) (fun b o nb z => he b o nb z) hj ⟨hj, hj, fun h1 h2 q k => by
      obtain ⟨o, ho⟩ := q
      exact ⟨o, k _ ho⟩⟩
    exact wpAny_pure (hdone _ _ I2 ((upd_ne hne).trans hq) fun b h1 h2 => (upd_ne h2).trans (hk1 b h1 h2))
  | succ k ih =>
    intro acc rest H1 s hk hy I hq hi ht hk1
    cases rest with
    | nil => cases hk
    | cons v rest =>
      refine codeAny_builtin PySem.F.entry_extend_loop ?_
      rw [Around.under_plainId PySem.F.plain_extend_loop _]
      show wpAny _ A1.in1 (pyNext (.ref it) >>= _) _ _ s
      obtain ⟨its, rv, pl, hz⟩ := I.tuple (SqT.of ht)
      obtain ⟨u, hu, ru⟩ := rv.get (i := acc.length) (x := v) (by rw [hy]; simp)
      refine wpAny_bind (wpAny_pyNext_tuple_item (I.hok it _ hi).1 pl (by rw [List.getElem?_toArray]; exact hu) fun h' e' sb => ?_)
      have mu : Mut (H1 it) := by rw [hi]; exact True.intro
      have I2 : Inv X pins σ (upd H1 it (ItT t it (acc.length + 1))) { s with heap := h' } := I.write (x := it) (e := it) (t' := s.toks) mu (.inl rfl) (fun b o nb z => (sb.2 b nb).trans z) ⟨_, e'.choose_spec.1⟩ (itT_ok e')
      have hq2 : upd H1 it (ItT t it (acc.length + 1)) q = some (.lst acc) := (upd_ne hne).trans hq
      show wpAny _ A1.in1 (updateSeq q (·.push u) >>= _) _ _ _
      obtain ⟨z, its2, n2, r2, hl2, e2⟩ := I2.lstM hq2
      have hlt : acc.length < sizeLine := by
        have : acc.length < ys.length := by rw [hy]; simp
        omega
      refine wpAny_bind (wpAny_updateSeq e2 rfl (wpAny_pure ⟨plainId_quiet PySem.F.plain_extend_loop _, ?_⟩) (by rw [List.size_toArray]; omega) (by show (its2.toArray.push u).size ≤ sizeLine + 1; rw [Array.size_push, List.size_toArray]; omega))
      refine ih (acc ++ [v]) rest _ _ (by simpa using hk) (by rw [hy]; simp) (I2.lset (its' := its2 ++ [u]) (t' := s.toks) hq2 e2 (by simp) (r2.append (.cons ru .nil)) (by rw [List.length_append, List.length_singleton]; omega)) upd_same ?_ ?_ fun b h1 h2 => ?_
      · rw [upd_ne (Ne.symm hne), upd_same, List.length_append, List.length_singleton]
      · rw [upd_ne (Ne.symm hqt), upd_ne hti]
        exact ht
      · rw [upd_ne h1, upd_ne h2]
        exact hk1 b h1 h2
/-- the list at q is filled -/
theorem own_extendL {Rs : Result → Shared → Prop} {q : Addr} (sb : Sub X 2 A1.in1) (hA : A1.handled = none) (O : OwnC X.prog X.w X.K X.mg X.base C fI fL fdI fdL) (I : Inv X pins σ H s) (hx : H x = some (.ins C dx fs)) (hl : fs.lookup ("rows" : Str) = some (V.ref ar)) (ha : H ar = some (.tup ys))
    (hq : H q = some (.lst [])) (hdone : ∀ (it : Addr) (H' : Hp) s, H it = none → Inv X pins σ H' s → H' q = some (.lst ys) → (∀ b, b ≠ q → b ≠ it → H' b = H b) → Rs (.ok (.ret .none)) s) :
    wpAny (model X.prog X.w) A1.in1 (Builtin.List.listExtendWith (.ref q) (.ref x) .none)
      (fun fin s' => match fin with | .done f => Rs (.ok f) s' | .again c' => c'.quiet = true ∧ codeAny (model X.prog X.w) A1 c' Rs s') (fun e s' => Rs (.error e) s') s := by
  have hne : q ≠ x := ne_of hq hx (fun z => nomatch z)
  have hqr : q ≠ ar := ne_of hq ha (fun z => nomatch z)
  obtain ⟨mA, J, _⟩ := ins_get I.hok hx
  obtain ⟨od, J, _⟩ := J.look
  obtain ⟨m0, hF⟩ := I.fr
  unfold Builtin.List.listExtendWith
  refine wpAny_bind (J.type.here ?_)
  have h1 : Builtin.List.listSameRef (.ref q) (.ref x) = false := by simp [Builtin.List.listSameRef, hne]
  have h2 : (Value.ref C == Value.type "list") = false := rfl
  have h3 : (Value.ref C == Value.type "tuple") = false := rfl
  simp only [h1, h2, h3, Bool.or_false, Bool.false_eq_true, if_false]
  refine wpAny_bind (PySem.W.owit_iter hF I.ok.mod.kin J O.it O.itF ?_)
  have r2 : Vals [V.ref x] [Value.ref x] := .cons rfl .nil
  have hsp : spIterR C [.ref x] H (fun v H' => ∃ it, H it = none ∧ v = .ref it ∧ H' = upd H it (ItT ar it 0)) E0 := ⟨x, dx, ar, fs, ys, rfl, hx, hl, ha, fun it ni => ⟨it, ni, rfl, rfl⟩⟩
  have hlen := O.okI.len _ _ _ _ hsp
  refine wpAny_call (codeAny_mono (O.okI.run A1.in1 X.stack s H ⟨[.ref x], []⟩ [.ref x] [.ref x] _ _ (sb.room.mono (by decide)) (env_sub sb I) (by
    have := O.biI s [.ref x] I.kIn (by simpa using hlen)
    simpa using this) r2 hsp) fun r s' hq' => ?_)
  cases r with
  | error e => exact hq'.elim
  | ok fl =>
    cases fl with
    | next => exact False.elim hq'
    | brk => exact False.elim hq'
    | cont => exact False.elim hq'
    | ret u =>
      obtain ⟨v, H', I', rv, it, ni, rfl, rfl⟩ := I.after hq'
      cases rv
      have ni' : ∀ {b : Addr} {o : HO}, H b = some o → b ≠ it := fun e z => by rw [z, ni] at e; cases e
      have hx' : upd H it (ItT ar it 0) x = some (.ins C dx fs) := (upd_ne (ni' hx)).trans hx
      have ha' : upd H it (ItT ar it 0) ar = some (.tup ys) := (upd_ne (ni' ha)).trans ha
      have hq2 : upd H it (ItT ar it 0) q = some (.lst []) := (upd_ne (ni' hq)).trans hq
      have hi' : upd H it (ItT ar it 0) it = some (ItT ar it 0) := upd_same
      unfold PySem.W.OwitIt
      refine wpAny_specialOf (I'.hok it _ hi').1.typeIs PySem.F.slot_tuple_iterator_next.lookup ?_
      refine wpAny_bind (wpAny_holding (own_hintL sb O I' hx' hl ha' fun room s3 I3 => ?_))
      have loop : ∀ (H3 : Hp) (s4 : Shared), Inv X pins σ H3 s4 → H3 q = some (.lst []) → H3 it = some (ItT ar it 0) → H3 ar = some (.tup ys) → (∀ b, b ≠ q → b ≠ it → H3 b = H b) → codeAny (model X.prog X.w) A1 (.builtin "list.extend.loop" ⟨[.ref q, .ref it, .none], []⟩) Rs s4 := fun H3 s4 I4 hq4 hi4 ha4 hk =>
        tup_loop hA (ni' hq) hqr (ni' ha) (fun H' s5 I5 hq5 hk5 => hdone it H' s5 ni I5 hq5 hk5) ys.length [] ys H3 s4 rfl rfl I4 hq4 hi4 ha4 hk
      have hk0 : ∀ b, b ≠ q → b ≠ it → upd H it (ItT ar it 0) b = H b := fun b _ h2 => upd_ne h2
      refine wpAny_ite_split (fun _ => ?_) (fun _ => wpAny_pure ⟨plainId_quiet PySem.F.plain_extend_loop _, loop _ _ I3 hq2 hi' ha' hk0⟩)
      obtain ⟨z, its, k, r3, hl3, e3⟩ := I3.lstM hq2
      cases r3
      refine wpAny_bind (wpAny_rule ?_)
      refine wpAny_bind ?_
      show wpAny _ _ (updateSeq q (·.push .none) >>= fun _ => updateSeq q (·.pop)) _ _ _
      refine wpAny_bind (wpAny_updateSeq e3 rfl ?_)
      have I4 := I3.lset (f := (·.push Value.none)) (its' := [Value.none]) (ys := [.non]) (t' := s3.toks) hq2 e3 (by simp) (.cons rfl .nil) (by rw [List.length_singleton, sizeLine_eq]; decide)
      obtain ⟨z4, its4, k4, r4, hl4, e4⟩ := I4.lstM upd_same
      obtain ⟨u4, rfl, ru4⟩ := r4.one
      refine wpAny_updateSeq e4 rfl ?_ (by show 1 ≤ sizeLine; rw [sizeLine_eq]; decide) (by show 0 ≤ sizeLine + 1; exact Nat.zero_le _)
      have I5 := I4.lset (f := (·.pop)) (its := [u4]) (its' := []) (ys := []) (t' := s3.toks) upd_same e4 (by rfl) .nil (Nat.zero_le _)
      refine wpAny_pure ⟨plainId_quiet PySem.F.plain_extend_loop _, loop _ _ I5 upd_same ?_ ?_ fun b h1 h2 => ?_⟩
      · rw [upd_upd, upd_ne (Ne.symm (ni' hq))]; exact hi'
      · rw [upd_upd, upd_ne (Ne.symm hqr)]; exact ha'
      · rw [upd_upd, upd_ne h1]; exact hk0 b h1 h2
/-- list(x) -/
def rListI (C : Addr) : List V → Hp → VK → Prop := fun xs H Q => ∃ (x dx ar : Addr) (fs : List (Str × V)) (ys : List V), xs = [.ref x] ∧ H x = some (.ins C dx fs) ∧ fs.lookup ("rows" : Str) = some (V.ref ar) ∧ H ar = some (.tup ys) ∧
  ∀ (H' : Hp) (q : Addr), Same H H' → H q = none → H' q = some (.lst ys) → Q (.ref q) H'
theorem call_listI (O : OwnC X.prog X.w X.K X.mg X.base C fI fL fdI fdL) (hr : Room 4 X.A) : CallR X (.type "list") (rListI C) := by
  intro pins s σ H xs us Q I rv h
  obtain ⟨x, dx, ar, fs, ys, rfl, hx, hl, ha, q⟩ := h
  obtain ⟨u, rfl, ru⟩ := rv.one
  cases ru
  have sb : Sub X 2 X.A.in1.in1 := (Sub.in1 (Sub.in1 (⟨hr, rfl⟩ : Sub X 4 X.A)))
  refine callType_codes (Q₁ := fun obj s₁ => obj = .ref s.heap.objs.size ∧ s₁ = { s with heap := s.heap.push { cls := .type "list", data := .seq #[] } }) PySem.F.called_list (PySem.F.typeCall_list_1 _) PySem.F.entry_list_init
    (code_list_new _ ⟨rfl, rfl⟩) fun obj s₁ h₁ => ?_
  obtain ⟨rfl, rfl⟩ := h₁
  have hS : (s.heap.push { cls := .type "list", data := .seq #[] }).get? s.heap.objs.size = some { cls := .type "list", data := .seq #[] } := Heap.get?_push_size _ rfl
  refine ⟨⟨_, hS, rfl⟩, PySem.F.args_list_init_2 _ _, ?_⟩
  have fr : H s.heap.objs.size = none := I.hok.fresh (Nat.le_refl _)
  have I1 : Inv X pins σ (upd H s.heap.objs.size (.lst [])) { s with heap := s.heap.push { cls := .type "list", data := .seq #[] } } := I.lnew (its := []) (t' := s.toks) .nil (Nat.zero_le _)
  show wpAny _ _ (do let old ← Builtin.List.listItems (.ref s.heap.objs.size); Builtin.List.listUpdate (.ref s.heap.objs.size) (fun _ => #[]); letGo old.toList.reverse; Builtin.List.listExtendWith (.ref s.heap.objs.size) (.ref x) .none) _ _ _
  refine wpAny_bind ?_
  unfold Builtin.List.listItems
  refine wpAny_bind (wpAny_seqItems hS rfl (wpAny_pure ?_))
  show wpAny _ _ (updateSeq s.heap.objs.size (fun _ => #[]) >>= fun _ => letGo (#[] : Array Value).toList.reverse >>= fun _ => Builtin.List.listExtendWith (.ref s.heap.objs.size) (.ref x) .none) _ _ _
  refine wpAny_bind (wpAny_updateSeq hS rfl ?_)
  have I2 := I1.lset (f := fun _ => #[]) (its := []) (its' := []) (ys := []) (t' := s.toks) upd_same hS rfl .nil (Nat.zero_le _)
  rw [upd_upd] at I2
  refine wpAny_bind (wpAny_letGo ?_)
  have st : ∀ {b : Addr} {o : HO}, H b = some o → upd H s.heap.objs.size (.lst []) b = some o := fun {b o} e => (upd_ne (ne_of_none e fr)).trans e
  exact own_extendL (A1 := X.A.in1) (Rs := wants (fun r s₂ => r = .none ∧ EP X pins σ Q (.ref s.heap.objs.size) s₂) X.xe) sb hr.hd O I2 (st hx) hl (st ha) upd_same
    (fun it H' s' ni I' hq' hk => ⟨rfl, .ref s.heap.objs.size, H', I', rfl, q H' _ (fun b o e => by
      have n1 : b ≠ s.heap.objs.size := ne_of_none e fr
      have n2 : b ≠ it := fun z => by rw [z] at e; have := ni; rw [upd_ne (fun y => by rw [y, fr] at e; cases e)] at this; rw [this] at e; cases e
      rw [hk b n1 n2, upd_ne n1]; exact e) fr hq'⟩)
end
end K04

/-! a record's own len, iter, == -/
namespace K04
open PySem PySem.Spec PyProof.Rows L2
abbrev sREq : Stmt := inClass (top 24) 16
abbrev sRLen : Stmt := inClass (top 24) 17
abbrev sRIter : Stmt := inClass (top 24) 18
def spREq (CR : Addr) : Sp := fun vs H Q _ => ∃ (a b : Addr) (wd : Int) (D : PyData), vs = [.ref a, .ref b] ∧ RecAt CR H a wd D ∧ RecAt CR H b wd D ∧ D.depth ≤ 64 ∧ Q (.bl true) H
/-- == of two instances -/
def rEqI (C : Addr) (sp : Sp) : R2 := fun x y H Q => ∃ (a b dx dy : Addr) (fs gs : List (Str × V)), x = .ref a ∧ y = .ref b ∧ H a = some (.ins C dx fs) ∧ H b = some (.ins C dy gs) ∧ sp [.ref a, .ref b] H (fun v H' => ∃ b, v = .bl b ∧ Q (.bl b) H') E0
theorem op_eqI {X : Cx} {n : Nat} {CX : CXT} {C f : Addr} {fd : FuncData} {ps : List Str} {sp : Sp} (F : FnOk X.prog X.w X.K X.mg X.base CX n f fd ps sp) (nf : PySem.W.notFirst X.K C (.ref C) = true)
    (hs : PySem.W.findIn X.K (.ref C) "__eq__" = some (some (.ref f))) (hf : PySem.W.isFn X.K (.ref f) = true) (hb : Binds X.K fd ps []) (hx : Passes CX X E0) (hr : Room n X.A) : OpR X (compareOp .Eq) (rEqI C sp) := by
  intro pins s σ H x y u v Q I rx ry h
  obtain ⟨a, b, dx, dy, fs, gs, rfl, rfl, ha, hb2, hsp⟩ := h
  cases rx
  cases ry
  obtain ⟨mA, J, _⟩ := ins_get I.hok ha
  obtain ⟨od, J, _⟩ := J.look
  obtain ⟨mA2, J2, _⟩ := ins_get I.hok hb2
  obtain ⟨od2, J2, _⟩ := J2.look
  obtain ⟨m, hF⟩ := I.fr
  refine PySem.W.cmp_K (op := .Eq) (tb := .ref C) hr.units0 hF I.ok.mod.kin J J2.type nf hs hf ?_
  have e0 : Env0 X.prog X.w X.K X.mg X.base X.A X.stack s H := I.env0
  have hl := F.len _ _ _ _ hsp
  have r2 : Vals [V.ref a, V.ref b] [Value.ref a, Value.ref b] := .cons rfl (.cons rfl .nil)
  refine wpAny_call (codeAny_mono (F.run X.A X.stack s H ⟨[.ref a, .ref b], []⟩ [.ref a, .ref b] [.ref a, .ref b] _ E0 hr e0 (by
    have := hb s [.ref a, .ref b] I.kIn (by simpa using hl)
    simpa using this) r2 hsp) fun r s' hq => ?_)
  cases r with
  | error e => exact hx pins σ H s e s' I hq
  | ok fl =>
    cases fl with
    | ret w =>
      obtain ⟨z, H', I', rz, b, ez, q⟩ := I.after hq
      subst ez
      cases rz
      exact ⟨.bl b, H', I', rfl, q⟩
    | next => exact False.elim hq
    | brk => exact False.elim hq
    | cont => exact False.elim hq
section
variable {P : Program} {w : World} {K : PySem.W.Frag} {mg : Str → Option Value} {base : Heap}
theorem ok_rlen {f CR : Addr} {fd : FuncData} (F : FunD K "__len__" "Record.__len__" (defArgs sRLen) (defBody sRLen) (defScope sRLen) [] [] f fd) (T : RecC K CR) (zl : mg "len" = none) : FnOk P w K mg base CX0 1 f fd ["self"] (spLenR CR) := by
  have sc : FnScope ["self"] ["self"] (defScope sRLen) := ⟨rfl, rfl, rfl, by decide +kernel, rfl, by decide +kernel, by decide +kernel⟩
  refine F.ok sc (fun vs H Q E h => ?_) (fun cdv A outer s H vs Q E hr h => ?_)
  · obtain ⟨x, dx, ar, fs, ys, rfl, _⟩ := h
    rfl
  · obtain ⟨x, dx, ar, fs, ys, rfl, hx, hl, ha, q⟩ := h
    refine ⟨_, PSs.nox (pss_one (ps_ret (pe_callB call_len_seq (by rfl) zl boot_len (pa_cons (pe_fld (pv 0) rfl) pa_nil)))), ?_⟩
    exact ⟨_, rfl, x, CR, dx, fs, _, rfl, hx, T.cl, T.nRows, hl, ar, ys, rfl, .inr (SqT.of ha), q⟩
theorem ok_riter {f CR : Addr} {fd : FuncData} (F : FunD K "__iter__" "Record.__iter__" (defArgs sRIter) (defBody sRIter) (defScope sRIter) [] [] f fd) (T : RecC K CR) (zi : mg "iter" = none) : FnOk P w K mg base CX0 1 f fd ["self"] (spIterR CR) := by
  have sc : FnScope ["self"] ["self"] (defScope sRIter) := ⟨rfl, rfl, rfl, by decide +kernel, rfl, by decide +kernel, by decide +kernel⟩
  refine F.ok sc (fun vs H Q E h => ?_) (fun cdv A outer s H vs Q E hr h => ?_)
  · obtain ⟨x, dx, ar, fs, ys, rfl, _⟩ := h
    rfl
  · obtain ⟨x, dx, ar, fs, ys, rfl, hx, hl, ha, q⟩ := h
    refine ⟨_, PSs.nox (pss_one (ps_ret (pe_callB call_iterT (by rfl) zi (by decide +kernel) (pa_cons (pe_fld (pv 0) rfl) pa_nil)))), ?_⟩
    exact ⟨_, rfl, x, CR, dx, fs, _, rfl, hx, T.cl, T.nRows, hl, ar, ys, rfl, ha, q⟩
theorem ok_req {f CR : Addr} {fd : FuncData} (F : FunD K "__eq__" "Record.__eq__" (defArgs sREq) (defBody sREq) (defScope sREq) [] [] f fd) (T : RecC K CR) (zt : mg "type" = none) : FnOk P w K mg base CX0 1 f fd ["self", "other"] (spREq CR) := by
  have sc : FnScope ["self", "other"] ["self", "other"] (defScope sREq) := ⟨rfl, rfl, rfl, by decide +kernel, rfl, by decide +kernel, by decide +kernel⟩
  refine F.ok sc (fun vs H Q E h => ?_) (fun cdv A outer s H vs Q E hr h => ?_)
  · obtain ⟨a, b, wd, D, rfl, _⟩ := h
    rfl
  · obtain ⟨a, b, wd, D, rfl, ⟨dx, ar, _, _, _, _, _, _, _, ha, hD⟩, ⟨dy, br, _, _, _, _, _, _, _, hb, hD2⟩, dep, q⟩ := h
    refine ⟨_, PSs.nox (pss_one (ps_ret (pe_and (pe_cmpR op_is_cls (pe_callTy cr_type (by rfl) zt (by decide +kernel) (pa_cons (pv 0) pa_nil)) (pe_callTy cr_type (by rfl) zt (by decide +kernel) (pa_cons (pv 1) pa_nil)) (nomark _)) (pe_and (pe_cmpR op_eq (pe_fld (pv 0) rfl) (pe_fld (pv 1) rfl) (nomark _)) (pe_one (pe_cmpR (op_eqD hr.units) (pe_fld (pv 0) rfl) (pe_fld (pv 1) rfl) (nomark _))))))), ?_⟩
    refine ⟨_, rfl, a, CR, dx, _, rfl, ha, _, rfl, b, CR, dy, _, rfl, hb, CR, CR, rfl, rfl, .inl rfl, ?_⟩
    rw [decide_eq_true rfl]
    refine ⟨_, rfl, iteT ?_⟩
    refine ⟨_, rfl, a, CR, dx, _, _, rfl, ha, T.cl, T.nWidth, rfl, _, rfl, b, CR, dy, _, _, rfl, hb, T.cl, T.nWidth, rfl, rfl, _, rfl, ?_⟩
    rw [decide_eq_true rfl]
    refine iteT ⟨_, rfl, a, CR, dx, _, _, rfl, ha, T.cl, T.nRows, rfl, _, rfl, b, CR, dy, _, _, rfl, hb, T.cl, T.nRows, rfl, _, _, hD.dp, hD2.dp, shaped_of hD.lay dep, shaped_of hD.lay dep, ?_⟩
    rw [PySem.SeqAt.eqv_refl D hD.lay]
    exact q
end
end K04

/-! slices and sums of tuples; C(..) and o.m(..) where an error may go on -/
namespace K04
open PySem PySem.Spec PyProof.Rows L2
/-- a tuple's slice: another tuple, or itself -/
def rSlS (K : PySem.W.Frag) : V → Option Int → Option Int → Hp → VK → Prop := fun x lo hi H Q => ∃ a xs, x = .ref a ∧ H a = some (.tup xs) ∧ ∀ t H', Same H H' → (t = a ∨ H t = none) → H' t = some (.tup (cutV xs lo hi)) → Q (.ref t) H'
theorem cut_whole {xs : List V} {lo hi : Option Int} (h : HT.sIx xs.length 0 lo = 0 ∧ HT.sIx xs.length xs.length hi = xs.length) : cutV xs lo hi = xs := by
  show (xs.drop (HT.sIx xs.length 0 lo)).take (HT.sIx xs.length xs.length hi - HT.sIx xs.length 0 lo) = xs
  rw [h.1, h.2]
  exact List.take_of_length_le (Nat.le_refl _)
theorem sl_tupS {X : Cx} : SlR X (rSlS X.K) := fun pins s σ H x v vl vu lo hi sl Q I rx hs pl pu ⟨a, xs, e, ha, k⟩ =>
  sl_tupA pins s σ H x v vl vu lo hi sl Q I rx hs pl pu ⟨a, xs, e, SqT.of ha, fun w => k a H (Same.refl _) (.inl rfl) (by rw [cut_whole w]; exact ha), fun _ p np => k p _ (same_upd np) (.inr np) upd_same⟩
/-- two tuples, one behind the other -/
def rCatS : R2 := fun x y H Q => ∃ a b xs ys, x = .ref a ∧ y = .ref b ∧ H a = some (.tup xs) ∧ H b = some (.tup ys) ∧ xs.length + ys.length ≤ 1000 ∧ ∀ t H', Same H H' → (t = a ∨ t = b ∨ H t = none) → H' t = some (.tup (xs ++ ys)) → Q (.ref t) H'
theorem op_catS {X : Cx} : OpR X (binaryOp .Add) rCatS := fun pins s σ H x y v u Q I rx ry ⟨a, b, xs, ys, e1, e2, ha, hb, hl, k⟩ =>
  op_catA pins s σ H x y v u Q I rx ry ⟨a, b, xs, ys, e1, e2, SqT.of ha, SqT.of hb, Nat.le_trans hl (by decide), fun z => k b H (Same.refl _) (.inr (.inl rfl)) (by rw [z]; exact hb), fun _ z => k a H (Same.refl _) (.inl rfl) (by rw [z, List.append_nil]; exact ha), fun _ _ p np => k p _ (same_upd np) (.inr (.inr np)) upd_same⟩
theorem cut_last (vs : List V) : cutV vs none (some (-1)) = vs.take (vs.length - 1) := by
  show (vs.drop 0).take ((-1 + (vs.length : Int)).toNat - 0) = _
  rw [List.drop_zero]
  congr 1
  omega
theorem cut_to (vs : List V) (k : Nat) (h : k ≤ vs.length) : cutV vs none (some (k : Int)) = vs.take k := by
  show (vs.drop 0).take (HT.sIx vs.length vs.length (some (k : Int)) - 0) = _
  rw [List.drop_zero, HT.sIx_nat, Nat.min_eq_left h]
  rfl
theorem cut_from (vs : List V) (k : Nat) (h : k ≤ vs.length) : cutV vs (some (k : Int)) none = vs.drop k := by
  show (vs.drop (HT.sIx vs.length 0 (some (k : Int)))).take (vs.length - HT.sIx vs.length 0 (some (k : Int))) = _
  rw [HT.sIx_nat, Nat.min_eq_left h]
  exact List.take_of_length_le (by rw [List.length_drop]; exact Nat.le_refl _)
/-- C(..) in a try: its __init__ may raise -/
def tMakeS (C : Addr) (sp : Sp) (E : L2.St → XK) (t : TA) : TE := fun σ H Q => t σ H fun vs H1 => ∀ x dx, H1 x = none → H1 dx = none → dx ≠ x →
  sp (.ref x :: vs) (upd (upd H1 dx (.own x)) x (.ins C dx [])) (fun v H2 => v = .non ∧ Q (.ref x) H2) (E σ)
section
variable {X : Cx} {CX : CXT} {k : Nat} {f C : Addr} {fd : FuncData} {ps : List Str} {sp : Sp} {E : L2.St → XK} {x : Str} {p pos : Pos} {e : Expr} {es : List Expr} {t : TA}
theorem run_makeS {pins : List (Addr × Obj)} {σ : L2.St} {H : Hp} {s : Shared} {Q : VK} {us : List Value} {vs : List V} (M : Mk X.K C f) (F : FnOk X.prog X.w X.K X.mg X.base CX k f fd ps sp) (hr : Room (k + 1) X.A) (hb : Binds X.K fd ps [])
    (hx : PassesAt CX X σ (E σ)) (I : Inv X pins σ H s) (r : Vals vs us)
    (h : ∀ x dx, H x = none → H dx = none → dx ≠ x → sp (.ref x :: vs) (upd (upd H dx (.own x)) x (.ins C dx [])) (fun v H2 => v = .non ∧ Q (.ref x) H2) (E σ)) :
    wpAny (model X.prog X.w) X.A (call (.ref C) us) (EP X pins σ Q) X.xe s := by
  have hq := h (s.heap.objs.size + 1) s.heap.objs.size (I.hok.fresh (Nat.le_succ _)) (I.hok.fresh (Nat.le_refl _)) (Nat.ne_of_lt (Nat.lt_succ_self _))
  have I2 := Inv.made (C := C) I
  have r2 : Vals (V.ref (s.heap.objs.size + 1) :: vs) (Value.ref (s.heap.objs.size + 1) :: us) := .cons rfl r
  have hl : (Value.ref (s.heap.objs.size + 1) :: us ++ []).length = ps.length := by
    have e := r2.length
    rw [F.len _ _ _ _ hq] at e
    rw [List.append_nil]
    exact e.symm
  have hbb := hb _ (Value.ref (s.heap.objs.size + 1) :: us) I2.kIn hl
  rw [List.append_nil] at hbb
  refine wpAny_call (make_map (f := f) I.kIn M.makes M.init (beq_iff_eq.mp M.fn) (codeAny_mono (F.run _ X.stack _ _ ⟨Value.ref (s.heap.objs.size + 1) :: us, []⟩ (Value.ref (s.heap.objs.size + 1) :: us) _ _ (E σ) (hr.make C us [])
    (I2.env0.make C us []) hbb r2 hq) fun r s' hq' => ?_))
  cases r with
  | error e => exact hx pins _ _ e s' I2 hq'
  | ok fl =>
    cases fl with
    | ret u =>
      obtain ⟨v, H', I3, rv, ev, q3⟩ := I2.after hq'
      subst ev
      exact ⟨rv, ⟨V.ref (s.heap.objs.size + 1), H', I3, rfl, q3⟩⟩
    | next => exact False.elim hq'
    | brk => exact False.elim hq'
    | cont => exact False.elim hq'
theorem pe_makeS (M : Mk X.K C f) (F : FnOk X.prog X.w X.K X.mg X.base CX k f fd ps sp) (hr : Room (k + 1) X.A) (hg : Gl X x) (hm : X.mg x = some (.ref C)) (hb : Binds X.K fd ps []) (hx : ∀ σ, PassesAt CX X σ (E σ))
    (ha : PA X (e :: es) t) (hdb : (x == ("__debug__" : Str)) = false := by decide) (he : starEach (e :: es) X.env = (false, eval e X.env) :: starEach es X.env := by rfl) (hpl : (backTo pos (starEach es X.env)).any (·.1) = false := by rfl) :
    PE X (.Call (.Name x p) (e :: es) [] pos) (tMakeS C sp E t) := by
  refine ⟨fun pins s σ H Q I h => ?_⟩
  refine wpAny_Call_Name_kw (ld_glob I hg hm ?_ hdb)
  refine PySem.W.callWith_K (h₀ := X.base) I.ok.mod.kin M.kp (thn (ha.run pos pins s σ H _ I h) fun us s1 ⟨vs, H1, I1, r, q⟩ => ⟨I1.kIn, ?_⟩) he hpl
  exact run_makeS M F hr hb (hx σ) I1 r q
end

/-- o.m(..), m may raise -/
def tMethE (C : Addr) (m : Str) (sp : Sp) (E : L2.St → XK) (ta : TE) (t : TA) : TE := fun σ H Q => ta σ H fun x H1 => ∃ (a dx : Addr) (fs : List (Str × V)), x = .ref a ∧ H1 a = some (.ins C dx fs) ∧ fs.lookup m = none ∧ t σ H1 fun vs H2 => sp (.ref a :: vs) H2 Q (E σ)
section
variable {X : Cx} {CX : CXT} {k : Nat} {f C : Addr} {fd : FuncData} {ps : List Str} {sp : Sp} {E : L2.St → XK} {m : Str} {p pos apos : Pos} {o e : Expr} {es : List Expr} {ta : TE} {t : TA}
theorem run_E {pins : List (Addr × Obj)} {σ : L2.St} {H : Hp} {s : Shared} {Q : VK} {us : List Value} {vs : List V} (F : FnR X.prog X.w X.K X.mg X.base CX k f sp) (hr : Room k X.A) (hx : PassesAt CX X σ (E σ)) (I : Inv X pins σ H s) (r : Vals vs us) (h : sp vs H Q (E σ)) :
    codeAny (model X.prog X.w) X.A (.call (.ref f) ⟨us, []⟩) (fun r s' => match r with | .ok (.ret v) => EP X pins σ Q v s' | .ok _ => False | .error e => X.xe e s') s := by
  refine codeAny_mono (F X.A X.stack s H us vs Q (E σ) hr I.env0 r h) fun r s' hq => ?_
  cases r with
  | error e => exact hx pins _ _ e s' I hq
  | ok fl =>
    cases fl with
    | ret u => exact I.after hq
    | next => exact False.elim hq
    | brk => exact False.elim hq
    | cont => exact False.elim hq
theorem pe_methE {pl : Sem Bool} (he : PE X o ta) (c : Cls X.K C) (hm : Meth X.K C m f) (F : FnR X.prog X.w X.K X.mg X.base CX k f sp) (hr : Room k X.A) (hx : ∀ σ, PassesAt CX X σ (E σ)) (ha : PA X (e :: es) t)
    (hst : starEach (e :: es) X.env = (false, eval e X.env) :: starEach es X.env := by rfl) (hpl : (backTo pos (starEach es X.env)).any (·.1) = false := by rfl)
    (ht : eval (.Call (.Attribute o m apos) (e :: es) [] pos) X.env = (do
      let ov ← eval o X.env
      standAt apos.atName
      let (f, first) ← holding [ov] (getMethod ov m pl)
      callWith pos f first (backTo pos (starEach (e :: es) X.env)) (backToKw pos (keywordEach [] X.env))) := by rfl) :
    PE X (.Call (.Attribute o m apos) (e :: es) [] pos) (tMethE C m sp E ta t) := by
  refine ⟨fun pins s σ H Q I h => ?_⟩
  refine PySem.W.methodCall_KW (pl := pl) (thn (he.run pins s σ H _ I h) fun u s1 ⟨x, H1, I1, rx, a, dx, fs, ex, ea, l, q⟩ => ?_) ht
  subst ex
  obtain rfl : u = Value.ref a := rx
  refine getmeth_ok I1 ea c hm l ?_
  refine PySem.W.callWith_K (first := [.ref a]) (h₀ := X.base) I.ok.mod.kin hm.kp (thn (ha.run pos pins s1 σ H1 _ I1 q) fun us s2 ⟨vs, H2, I2, r, q2⟩ => ⟨I2.kIn, ?_⟩) hst hpl
  exact wpAny_call (run_E (us := .ref a :: us) (vs := .ref a :: vs) F hr (hx σ) I2 (.cons rfl r) q2)
theorem pe_methE0 {pl : Sem Bool} (he : PE X o ta) (c : Cls X.K C) (hm : Meth X.K C m f) (F : FnR X.prog X.w X.K X.mg X.base CX k f sp) (hr : Room k X.A) (hx : ∀ σ, PassesAt CX X σ (E σ))
    (ht : eval (.Call (.Attribute o m apos) [] [] pos) X.env = (do
      let ov ← eval o X.env
      standAt apos.atName
      let (f, first) ← holding [ov] (getMethod ov m pl)
      callWith pos f first (backTo pos (starEach [] X.env)) (backToKw pos (keywordEach [] X.env))) := by rfl) :
    PE X (.Call (.Attribute o m apos) [] [] pos) (tMethE C m sp E ta tNil) := by
  refine ⟨fun pins s σ H Q I h => ?_⟩
  refine PySem.W.methodCall_KW (pl := pl) (thn (he.run pins s σ H _ I h) fun u s1 ⟨x, H1, I1, rx, a, dx, fs, ex, ea, l, q⟩ => ?_) ht
  subst ex
  obtain rfl : u = Value.ref a := rx
  refine getmeth_ok I1 ea c hm l ?_
  exact PySem.W.callWith_K0 (first := [.ref a]) I1.kIn hm.kp (wpAny_call (run_E (us := [.ref a]) (vs := [.ref a]) F hr (hx σ) I1 (.cons rfl .nil) q))
/-- a promise by parameters as one by positions -/
theorem FnOk.r {P : Program} {w : World} {K : PySem.W.Frag} {mg : Str → Option Value} {base : Heap} (F : FnOk P w K mg base CX k f fd ps sp) (hb : Binds K fd ps []) : FnR P w K mg base CX k f sp := fun A outer s H us vs Q E hr e0 r hs => by
  have hl := F.len _ _ _ _ hs
  have b := hb s us (PySem.W.Frag.In.keeps e0.mod.kin fun b o e => (e0.bs b o e).1) (by rw [List.append_nil, ← r.length]; exact hl)
  rw [List.append_nil] at b
  exact F.run A outer s H ⟨us, []⟩ us vs Q E hr e0 b r hs
end
theorem RecAt.tups {CR x : Addr} {H H' : Hp} {wd : Int} {D : PyData} (h : RecAt CR H x wd D) (n : noL D = true) (t : ∀ a xs, H a = some (.tup xs) → H' a = some (.tup xs)) (i : ∀ a C dx fs, H a = some (.ins C dx fs) → H' a = some (.ins C dx fs)) : RecAt CR H' x wd D := by
  obtain ⟨dx, ar, ap, af, ab, aw, ac, al, b, hx, hD⟩ := h
  exact ⟨dx, ar, ap, af, ab, aw, ac, al, b, i _ _ _ _ hx, hD.tups n fun a xs _ e => t a xs e⟩
/-- record == .. -/
structure EqM (P : Program) (w : World) (K : PySem.W.Frag) (mg : Str → Option Value) (base : Heap) (C : Addr) (f : Addr) (fd : FuncData) : Prop where
  ok : FnOk P w K mg base CX0 1 f fd ["self", "other"] (spREq C)
  fi : PySem.W.findIn K (.ref C) "__eq__" = some (some (.ref f))
  fn : PySem.W.isFn K (.ref f) = true
  bi : Binds K fd ["self", "other"] []
  nf : PySem.W.notFirst K C (.ref C) = true
/-- len(x) -/
def rLenI (C : Addr) : List V → Hp → VK → Prop := fun xs H Q => ∃ (x dx ar : Addr) (fs : List (Str × V)) (ys : List V), xs = [.ref x] ∧ H x = some (.ins C dx fs) ∧ fs.lookup ("rows" : Str) = some (V.ref ar) ∧ H ar = some (.tup ys) ∧ Q (.int (ys.length : Int)) H
theorem call_lenI {X : Cx} {C fI fL : Addr} {fdI fdL : FuncData} (O : OwnC X.prog X.w X.K X.mg X.base C fI fL fdI fdL) (hr : Room 2 X.A) : CallR X (.builtin "len") (rLenI C) := by
  intro pins s σ H xs us Q I rv h
  obtain ⟨x, dx, ar, fs, ys, rfl, hx, hl, ha, q⟩ := h
  obtain ⟨u, rfl, ru⟩ := rv.one
  cases ru
  exact own_len ⟨hr, rfl⟩ O I hx hl ha fun t s' I' => ⟨.int (ys.length : Int), H, I', ⟨t, rfl⟩, q⟩
end K04

/-! until, shorter, after of a record -/
namespace K04
open PySem PySem.Spec PyProof.Rows L2
abbrev sNorInit : Stmt := inClass (top 4) 0
abbrev sRAfter : Stmt := inClass (top 24) 13
abbrev sRUntil : Stmt := inClass (top 24) 14
abbrev sRShorter : Stmt := inClass (top 24) 15
abbrev norF (v : V) : List (Str × V) := [("number", v)]
def spNor (C : Addr) : Sp := fun vs H Q _ => ∃ (a : Addr) (v : V), vs = [.ref a, v] ∧ H a = some (exo a C none) ∧
  ∀ (H' : Hp) (d : Addr), H d = none → H' a = some (exo a C (some d)) → H' d = some (exd d (norF v)) → (∀ b o, b ≠ a → H b = some o → H' b = some o) → Q .non H'
structure NorC (P : Program) (w : World) (K : PySem.W.Frag) (mg : Str → Option Value) (base : Heap) (C fI : Addr) (fd : FuncData) : Prop where
  cl : OexC K C
  ini : PySem.W.findIn K (.ref C) "__init__" = some (some (.ref fI))
  ty : PySem.W.typeIn K (.ref fI) = some (.type "function")
  gl : mg "NoRow" = some (.ref C)
  ok : FnOk P w K mg base CX0 1 fI fd ["self", "number"] (spNor C)
  bi : Binds K fd ["self", "number"] []
/-- Record(..) -/
structure RMk (P : Program) (w : World) (K : PySem.W.Frag) (mg : Str → Option Value) (base : Heap) (CR CE fI : Addr) (fdI : FuncData) : Prop where
  cl : RecC K CR
  mks : Mk K CR fI
  gl : mg "Record" = some (.ref CR)
  ok : FnOk P w K mg base (L2.CX P w) 7 fI fdI ["self", "width", "rows"] (spRec CR CE)
  bi : Binds K fdI ["self", "width", "rows"] []
/-- a record that fits -/
structure RecV (CR : Addr) (H : Hp) (x : Addr) (wd : Int) (os : List (Option Rw)) : Prop where
  at_ : RecAt CR H x wd (rowsD os)
  w0 : 0 ≤ wd
  w2 : wd ≤ 2
  few : os.length ≤ 4000
  ef : faultO wd Bk.new 0 os = none
  rows : RowsD (os.map datO) os
theorem fault_take {wd : Int} : ∀ {os : List (Option Rw)} {B : Bk} {i : Nat} (n : Nat), faultO wd B i os = none → faultO wd B i (os.take n) = none
  | [], _, _, n, h => by rw [List.take_nil]; rfl
  | o :: os, B, i, 0, h => rfl
  | o :: os, B, i, n + 1, h => by
    have h : (match jD B wd o with | some z => some (i, z) | none => faultO wd (stepO B o) (i + 1) os) = none := h
    rw [List.take_succ_cons]
    show (match jD B wd o with | some z => some (i, z) | none => faultO wd (stepO B o) (i + 1) (os.take n)) = none
    cases e : jD B wd o with
    | some z => rw [e] at h; cases h
    | none =>
      rw [e] at h
      exact fault_take n h
theorem RecV.same {CR : Addr} {H H' : Hp} {x : Addr} {wd : Int} {os : List (Option Rw)} (h : RecV CR H x wd os) (s : Same H H') : RecV CR H' x wd os :=
  ⟨h.at_.tups (rows_noL os) (fun a xs e => s _ _ e) fun a C dx fs e => s _ _ e, h.w0, h.w2, h.few, h.ef, h.rows⟩
theorem RecV.take {CR : Addr} {H : Hp} {x y : Addr} {wd : Int} {os : List (Option Rw)} (h : RecV CR H x wd os) (n : Nat) (r : RecAt CR H y wd (rowsD (os.take n))) : RecV CR H y wd (os.take n) :=
  ⟨r, h.w0, h.w2, by rw [List.length_take]; have := h.few; omega, fault_take n h.ef, by have z := h.rows.take n; rw [← List.map_take] at z; exact z⟩
/-- a tuple of the first rows is a plan -/
theorem plan_take {H : Hp} {wd : Int} {os : List (Option Rw)} {t : Addr} {xs : List V} (n : Nat) (w0 : 0 ≤ wd) (w2 : wd ≤ 2) (few : os.length ≤ 4000) (rows : RowsD (os.map datO) os) (ht : H t = some (.tup (xs.take n))) (h : DtAll Any H xs (os.map datO)) :
    Plan H wd (.ref t) (os.take n) (rowsD (os.take n)) ((os.take n).map datO) :=
  ⟨w0, w2, .tup trivial ht (by rw [List.map_take]; exact h.take n), rfl, by rw [List.length_map, List.length_take]; omega, by have z := rows.take n; rw [← List.map_take] at z; exact z⟩
theorem whole_nat {v : V} {n : Nat} (h : wholeV v 0 n = true) : ∃ i : Nat, v = .int (i : Int) ∧ i ≤ n := by
  cases v with
  | int i =>
    obtain ⟨h1, h2⟩ := Bool.and_eq_true_iff.mp (show (decide ((0 : Int) ≤ i) && decide (i ≤ (n : Int))) = true from h)
    have h1 := of_decide_eq_true h1
    have h2 := of_decide_eq_true h2
    obtain ⟨j, rfl⟩ := Int.eq_ofNat_of_zero_le h1
    exact ⟨j, rfl, by omega⟩
  | _ => cases h
def spUntil (CR CN : Addr) : Sp := fun vs H Q E => ∃ (x : Addr) (mv : V) (ty : String) (wd : Int) (os : List (Option Rw)), vs = [.ref x, mv] ∧ Odd H mv ty ∧ RecV CR H x wd os ∧
  (∀ n : Nat, mv = .int (n : Int) → n ≤ os.length → ∀ (H' : Hp) (y : Addr), Same H H' → RecV CR H' y wd (os.take n) → Q (.ref y) H') ∧
  (wholeV mv 0 os.length = false → ∀ (H' : Hp) (d : Addr), H d = none → H' d = some (.xd (norF mv)) → Same H H' → E (.ref CN) (some d) H')
def spShorter (CR CN : Addr) : Sp := fun vs H Q E => ∃ (x : Addr) (wd : Int) (os : List (Option Rw)), vs = [.ref x] ∧ RecV CR H x wd os ∧
  (os ≠ [] → ∀ (H' : Hp) (y : Addr), Same H H' → RecV CR H' y wd (os.take (os.length - 1)) → Q (.ref y) H') ∧
  (os = [] → ∀ (H' : Hp) (d : Addr), H d = none → H' d = some (.xd (norF (.int 0))) → Same H H' → E (.ref CN) (some d) H')
section
variable {P : Program} {w : World} {K : PySem.W.Frag} {mg : Str → Option Value} {base : Heap}
theorem ok_nor {f C : Addr} {fd : FuncData} (F : FunD K "__init__" "NoRow.__init__" (defArgs sNorInit) (defBody sNorInit) (defScope sNorInit) [] [] f fd) (T : OexC K C) (n0 : NoF K C "number") :
    FnOk P w K mg base CX0 1 f fd ["self", "number"] (spNor C) := by
  have sc : FnScope ["self", "number"] ["self", "number"] (defScope sNorInit) := ⟨rfl, rfl, rfl, by decide +kernel, rfl, by decide +kernel, by decide +kernel⟩
  refine F.ok sc (fun vs H Q E h => ?_) (fun cdv A outer s H vs Q E hr h => ?_)
  · obtain ⟨a, v, rfl, _⟩ := h
    rfl
  · obtain ⟨a, v, rfl, ea, q⟩ := h
    refine ⟨_, PSs.nox (pss_one (ps_ost (pv 0) (pv 1))), ?_⟩
    refine ⟨_, rfl, _, rfl, a, C, rfl, T, n0, .inl ⟨ea, fun d nd ne => ?_⟩⟩
    exact q _ d nd upd_same ((upd_ne ne).trans upd_same) (keep_new nd)
theorem ok_until {f CR CE CN fI fW fN : Addr} {fd fdI fdW fdN : FuncData} (F : FunD K "until" "Record.until" (defArgs sRUntil) (defBody sRUntil) (defScope sRUntil) [] [] f fd) (z_len : mg "len" = none) (R : RMk P w K mg base CR CE fI fdI) (N : NorC P w K mg base CN fN fdN)
    (dW : Df P w K mg base "is_whole" 1 ["thing", "low", "high"] spWhole fW fdW) : FnOk P w K mg base (L2.CX P w) 9 f fd ["self", "many"] (spUntil CR CN) := by
  have sc : FnScope ["self", "many"] ["self", "many"] (defScope sRUntil) := ⟨rfl, rfl, rfl, by decide +kernel, rfl, by decide +kernel, by decide +kernel⟩
  refine F.ok sc (fun vs H Q E h => ?_) (fun cdv A outer s H vs Q E hr h => ?_)
  · obtain ⟨x, mv, ty, wd, os, rfl, _⟩ := h
    rfl
  · obtain ⟨x, mv, ty, wd, os, rfl, hty, hR, q1, q2⟩ := h
    have hr1 := hr.mono (show 1 ≤ 8 by decide)
    have hr2 := hr.mono (show 2 ≤ 8 by decide)
    refine ⟨_, pss_cons (ps_if (pt_not (pt_val (pe_call dW.ok hr1 (by rfl) dW.gl dW.kp dW.bi .nil pass0 (pa_cons (pv 1) (pa_cons pe_int (pa_cons (pe_callB call_len_seq (by rfl) z_len boot_len (pa_cons (pe_fld (pv 0) rfl) pa_nil)) pa_nil))))))
        (pss_one (ps_raise rfl (takes_of rfl rfl rfl rfl) (pmk_oex N.cl N.ini N.ty N.ok hr2 N.bi .nil pass0 (by rfl) N.gl (pa_cons (pv 1) pa_nil)))) pss_nil)
      (pss_one (ps_ret (pe_make R.mks R.ok hr (by rfl) R.gl R.bi .nil passX0 (pa_cons (pe_fld (pv 0) rfl) (pa_cons (pe_slice sl_tupS (pe_fld (pv 0) rfl) po_none (po_some (pv 1))) pa_nil))))), ?_⟩
    obtain ⟨dx, ar, ap, af, ab, aw, ac, al, b, hx, hD⟩ := id hR.at_
    obtain ⟨xs, ea, hxs⟩ : ∃ xs : List V, H ar = some (.tup xs) ∧ DtAll Any H xs (os.map datO) := by
      cases hD with | tup _ e r => exact ⟨_, e, r⟩
    have el : xs.length = os.length := hxs.len.trans (List.length_map ..)
    refine ⟨_, rfl, _, rfl, x, CR, dx, _, _, rfl, hx, R.cl.cl, R.cl.nRows, rfl, ar, xs, rfl, .inr (SqT.of ea), mv, ty, 0, _, rfl, hty, ?_⟩
    rw [el]
    cases e : wholeV mv 0 os.length with
    | true =>
      obtain ⟨n, rfl, hn⟩ := whole_nat e
      refine ⟨true, rfl, iteF ?_⟩
      refine ⟨_, rfl, x, CR, dx, _, _, rfl, hx, R.cl.cl, R.cl.nWidth, rfl, _, rfl, x, CR, dx, _, _, rfl, hx, R.cl.cl, R.cl.nRows, rfl, _, rfl, _, rfl, ar, xs, rfl, ea, fun t H1 s1 _ ht => ?_⟩
      rw [cut_to xs n (by omega)] at ht
      have pl := plan_take n hR.w0 hR.w2 hR.few hR.rows ht (hxs.same s1)
      intro y dy ny ndy ney
      have s0 := same_ins (C := CR) ny ndy ney
      refine ⟨y, dy, wd, .ref t, os.take n, _, _, rfl, upd_same, pl.same s0, fun _ H8 hR8 k8 => ⟨rfl, ?_⟩, fun i z e => by rw [fault_take n hR.ef] at e; cases e⟩
      have s8 : Same H1 H8 := fun y' o e => k8 y' o (s0 _ _ e) (ne_of_none e ny)
      exact q1 n rfl hn H8 y (s1.trans s8) ((hR.same (s1.trans s8)).take n hR8)
    | false =>
      refine ⟨false, rfl, iteT ?_⟩
      refine ⟨_, rfl, (by show 1 ≤ 1000; decide), fun av nav => ⟨av, mv, rfl, upd_same, fun H3 dd nd3 ha3 hd3 kp => ⟨rfl, dd, _, ha3, hd3, ?_, ?_⟩⟩⟩
      · exact none_of (same_upd nav) nd3
      · refine q2 e _ dd (none_of (same_upd nav) nd3) upd_same fun y' o' e' => ?_
        rw [upd_ne (ne_of_none e' (none_of (same_upd nav) nd3)), del_ne (ne_of_none e' nav)]
        exact kp _ _ (ne_of_none e' nav) (same_upd nav _ _ e')
theorem ok_shorter {f CR CE CN fI fN : Addr} {fd fdI fdN : FuncData} (F : FunD K "shorter" "Record.shorter" (defArgs sRShorter) (defBody sRShorter) (defScope sRShorter) [] [] f fd) (R : RMk P w K mg base CR CE fI fdI) (N : NorC P w K mg base CN fN fdN) :
    FnOk P w K mg base (L2.CX P w) 9 f fd ["self"] (spShorter CR CN) := by
  have sc : FnScope ["self"] ["self"] (defScope sRShorter) := ⟨rfl, rfl, rfl, by decide +kernel, rfl, by decide +kernel, by decide +kernel⟩
  refine F.ok sc (fun vs H Q E h => ?_) (fun cdv A outer s H vs Q E hr h => ?_)
  · obtain ⟨x, wd, os, rfl, _⟩ := h
    rfl
  · obtain ⟨x, wd, os, rfl, hR, q1, q2⟩ := h
    have hr2 := hr.mono (show 2 ≤ 8 by decide)
    refine ⟨_, pss_cons (ps_if (pt_not (pt_truth (pe_fld (pv 0) rfl) (by intro _; rfl)))
        (pss_one (ps_raise rfl (takes_of rfl rfl rfl rfl) (pmk_oex N.cl N.ini N.ty N.ok hr2 N.bi .nil pass0 (by rfl) N.gl (pa_cons pe_int pa_nil)))) pss_nil)
      (pss_one (ps_ret (pe_make R.mks R.ok hr (by rfl) R.gl R.bi .nil passX0 (pa_cons (pe_fld (pv 0) rfl) (pa_cons (pe_slice sl_tupS (pe_fld (pv 0) rfl) po_none (po_some (pe_un un_neg pe_int))) pa_nil))))), ?_⟩
    obtain ⟨dx, ar, ap, af, ab, aw, ac, al, b, hx, hD⟩ := id hR.at_
    obtain ⟨xs, ea, hxs⟩ : ∃ xs : List V, H ar = some (.tup xs) ∧ DtAll Any H xs (os.map datO) := by
      cases hD with | tup _ e r => exact ⟨_, e, r⟩
    have el : xs.length = os.length := hxs.len.trans (List.length_map ..)
    refine ⟨_, rfl, x, CR, dx, _, _, rfl, hx, R.cl.cl, R.cl.nRows, rfl, ?_⟩
    cases os with
    | nil =>
      obtain rfl : xs = [] := List.length_eq_zero_iff.mp el
      refine ⟨false, .inr (.inl ⟨_, SqT.of ea, rfl⟩), iteT ?_⟩
      refine ⟨(by show 1 ≤ 1000; decide), fun av nav => ⟨av, .int 0, rfl, upd_same, fun H3 dd nd3 ha3 hd3 kp => ⟨rfl, dd, _, ha3, hd3, ?_, ?_⟩⟩⟩
      · exact none_of (same_upd nav) nd3
      · refine q2 rfl _ dd (none_of (same_upd nav) nd3) upd_same fun y' o' e' => ?_
        rw [upd_ne (ne_of_none e' (none_of (same_upd nav) nd3)), del_ne (ne_of_none e' nav)]
        exact kp _ _ (ne_of_none e' nav) (same_upd nav _ _ e')
    | cons o os =>
      cases xs with
      | nil => cases el
      | cons v xs =>
      refine ⟨true, .inr (.inl ⟨_, SqT.of ea, rfl⟩), iteF ?_⟩
      refine ⟨_, rfl, x, CR, dx, _, _, rfl, hx, R.cl.cl, R.cl.nWidth, rfl, _, rfl, x, CR, dx, _, _, rfl, hx, R.cl.cl, R.cl.nRows, rfl, _, rfl, _, rfl, ar, _, rfl, ea, fun t H1 s1 _ ht => ?_⟩
      rw [cut_last, el] at ht
      have pl := plan_take _ hR.w0 hR.w2 hR.few hR.rows ht (hxs.same s1)
      intro y dy ny ndy ney
      have s0 := same_ins (C := CR) ny ndy ney
      refine ⟨y, dy, wd, .ref t, _, _, _, rfl, upd_same, pl.same s0, fun _ H8 hR8 k8 => ⟨rfl, ?_⟩, fun i z e => by rw [fault_take _ hR.ef] at e; cases e⟩
      have s8 : Same H1 H8 := fun y' o e => k8 y' o (s0 _ _ e) (ne_of_none e ny)
      exact q1 (by simp) H8 y (s1.trans s8) ((hR.same (s1.trans s8)).take _ hR8)
end
end K04

/-! after, of a record -/
namespace K04
open PySem PySem.Spec PyProof.Rows L2
def spAft (CR CE : Addr) : Sp := fun vs H Q E => ∃ (x t : Addr) (wd : Int) (os os2 : List (Option Rw)) (ys : List V) (es : List PyData), vs = [.ref x, .ref t] ∧ RecV CR H x wd os ∧ H t = some (.tup ys) ∧ DtAll Any H ys es ∧ RowsD es os2 ∧ os.length + ys.length ≤ 1000 ∧
  (faultO wd Bk.new 0 (os ++ os2) = none → ∀ (H' : Hp) (y : Addr), Same H H' → RecV CR H' y wd (os ++ os2) → Q (.ref y) H') ∧
  ∀ i z, faultO wd Bk.new 0 (os ++ os2) = some (i, z) → ∀ (H' : Hp) (d : Addr), H d = none → H' d = some (.xd (badF (i : Int) z)) → Same H H' → E (.ref CE) (some d) H'
def spAfter (CR CE : Addr) : Sp := fun vs H Q E => ∃ ws rest, vs = ws ++ rest ∧ ws.length = [("self" : Str)].length ∧ rest.length ≤ sizeLine ∧ ∀ p, H p = Option.none → spAft CR CE (ws ++ [V.ref p]) (upd H p (.tup rest)) Q E
section
variable {P : Program} {w : World} {K : PySem.W.Frag} {mg : Str → Option Value} {base : Heap}
theorem ok_after {f CR CE fI : Addr} {fd fdI : FuncData} (F : FunD K "after" "Record.after" (defArgs sRAfter) (defBody sRAfter) (defScope sRAfter) [] [] f fd) (R : RMk P w K mg base CR CE fI fdI) :
    FnR P w K mg base (L2.CX P w) 9 f (spAfter CR CE) := by
  have sc : FnScope ["self", "rows"] (([("self" : Str)] : List Str) ++ [("rows" : Str)]) (defScope sRAfter) := ⟨rfl, rfl, rfl, by decide +kernel, rfl, by decide +kernel, by decide +kernel⟩
  obtain ⟨oc, od, dV, kV, doc, pm, an, cdv, ct, osl, rfl, lk, hcd, hDf, _⟩ := F.ex
  rcases hDf with ⟨_, rfl⟩ | ⟨ne, _⟩
  rotate_left
  · exact absurd rfl ne
  refine StX.fn_star (ps := ["self"]) (pv := "rows") lk hcd sc StX.cxUp (StX.bind_star1 (p1 := "self") (pv := "rows") (B := fun us => bindArgs (PySem.W.fnOf "after" "Record.after" (defArgs sRAfter) (defBody sRAfter) (defScope sRAfter) .none kV doc pm an cdv ct) ⟨us, []⟩) (fun a => by rfl) (fun a r rs => by rfl)) (fun A outer s H vs Q E hr h => ?_)
  obtain ⟨x, t, wd, os, os2, ys, es, rfl, hR, ht, hys, hrows, few, q1, q2⟩ := h
  refine ⟨_, pss_one (ps_ret (pe_makeS R.mks R.ok hr (by rfl) R.gl R.bi (fun σ => passAt (takes_of rfl rfl rfl rfl) σ) (pa_cons (pe_fld (pv 0) rfl) (pa_cons (pe_op op_catS (pe_fld (pv 0) rfl) (pv 1)) pa_nil)))), ?_⟩
  obtain ⟨dx, ar, ap, af, ab, aw, ac, al, b, hx, hD⟩ := id hR.at_
  obtain ⟨xs, ea, hxs⟩ : ∃ xs : List V, H ar = some (.tup xs) ∧ DtAll Any H xs (os.map datO) := by
    cases hD with | tup _ e r => exact ⟨_, e, r⟩
  have el : xs.length = os.length := hxs.len.trans (List.length_map ..)
  have el2 := hys.len
  have el3 := hrows.len
  refine ⟨_, rfl, x, CR, dx, _, _, rfl, hx, R.cl.cl, R.cl.nWidth, rfl, _, rfl, x, CR, dx, _, _, rfl, hx, R.cl.cl, R.cl.nRows, rfl, _, rfl, ar, t, xs, ys, rfl, rfl, ea, ht, by omega, fun t2 H1 s1 _ ht2 => ?_⟩
  have pl : Plan H1 wd (.ref t2) (os ++ os2) (.tuple (os.map datO ++ es)) (os.map datO ++ es) :=
    ⟨hR.w0, hR.w2, .tup trivial ht2 ((hxs.same s1).app (hys.same s1)), rfl, by rw [List.length_append, List.length_map]; omega, hR.rows.app hrows⟩
  intro y dy ny ndy ney
  have s0 := same_ins (C := CR) ny ndy ney
  refine ⟨y, dy, wd, .ref t2, _, _, _, rfl, upd_same, pl.same s0, fun ef H8 hR8 k8 => ⟨rfl, ?_⟩, fun i z ef H8 d nd hd s8 => ?_⟩
  · have s8 : Same H1 H8 := fun y' o e => k8 y' o (s0 _ _ e) (ne_of_none e ny)
    exact q1 ef H8 y (s1.trans s8) ⟨hR8, hR.w0, hR.w2, by rw [List.length_append]; omega, ef, data_rows pl.rows (fault_none ef)⟩
  · exact q2 i z ef H8 d (none_of s1 (none_of s0 nd)) hd (s1.trans (s0.trans s8))
end
end K04

/-! a for loop in a generator -/
namespace K04
open PySem PySem.Spec PyProof.Rows L2 GenW
section
variable {M : Model} {A : Around} {R : GenEnd} {Y : Protocol} {n : Nat} {s₀ : Shared} {c : Code} {fs : List Frame} {s : Shared} {env : Env} {K : Flow → Sem PySem.Fin} {H : Value → Sem PySem.Fin} {gd : Bool → Bool} {lv : List Value → List Value}
theorem seg_For {target iter : Expr} {body orelse : List Stmt} {pos : Pos} (hs : ∀ x, foldedSetIterable iter env x = pure x)
    (h : wpAny M (A.over c fs) (eval iter env) (fun x s1 => wpAny M (A.over c fs) (pyIter x) (fun it s2 => ∀ p, Seg M A R Y n s₀ (.forLoop target it body orelse env) (M.den (.forLoop target it body orelse env))
      (.ret (fun r => ((match r with | .ok f => (.pure f : Sem Flow) | .error e => .raise e).onRaise (cameBack env)).wrap K H gd lv) none (gd false) (lv []) c p [] :: fs) s2) (fun x s' => Seg M A R Y n s₀ c (H x) fs s') s1) (fun x s' => Seg M A R Y n s₀ c (H x) fs s') s) :
    Seg M A R Y n s₀ c ((exec (.For target iter body orelse pos) env).wrap K H gd lv) fs s := by
  rw [exec_For]
  refine seg_at ?_
  show Seg M A R Y n s₀ c ((eval iter env >>= fun v => foldedSetIterable iter env v >>= fun x => standAt iter.pos >>= fun _ => holding [x] (pyIter x) >>= fun it => runOwn (.forLoop target it body orelse env) env).wrap K H gd lv) fs s
  rw [Sem.bind_eq_wrap', Sem.wrap_wrap]
  refine seg_wrap (wpAny_mono h (fun x s1 h1 => ?_) fun _ _ z => z)
  show Seg M A R Y n s₀ c ((foldedSetIterable iter env x >>= fun x => standAt iter.pos >>= fun _ => holding [x] (pyIter x) >>= fun it => runOwn (.forLoop target it body orelse env) env).wrap K H gd lv) fs s1
  rw [hs x]
  refine seg_at ?_
  show Seg M A R Y n s₀ c ((holding [x] (pyIter x) >>= fun it => runOwn (.forLoop target it body orelse env) env).wrap K H gd lv) fs s1
  rw [Sem.bind_eq_wrap', Sem.wrap_wrap]
  refine seg_wrap (wpAny_holding (wpAny_mono h1 (fun it s2 h2 => ?_) fun _ _ z => z))
  exact seg_call h2
end
section
variable {prog : Program} {w : World} {A : Around} {R : GenEnd} {Y : Protocol} {n : Nat} {s₀ : Shared} {fs : List Frame} {s : Shared} {env : Env}
/-- what an exception does in the loop's code -/
abbrev SegX (prog : Program) (w : World) (A : Around) (R : GenEnd) (Y : Protocol) (n : Nat) (s₀ : Shared) (c : Code) (fs : List Frame) (env : Env) : Value → Shared → Prop := fun x s' => Seg (model prog w) A R Y n s₀ c ((do noteFrame x env; theTreesLotGoes x : Sem Unit).wrap (fun _ => .raise x) .raise id id) fs s'
theorem seg_forLoop {target : Expr} {body : List Stmt} {it : Value}
    (h : wpAny (model prog w) (A.over (.forLoop target it body [] env) fs) (pyNext it) (fun r s1 => match r with
      | none => Seg (model prog w) A R Y n s₀ (.block [] env) ((model prog w).den (.block [] env)) fs s1
      | some v => wpAny (model prog w) (A.over (.forLoop target it body [] env) fs) (letOwnedTupleGo target it v) (fun _ s2 => wpAny (model prog w) (A.over (.forLoop target it body [] env) fs) (assign target env v) (fun _ s3 =>
          Seg (model prog w) A R Y n s₀ (.forLoop target it body [] env) ((execs body env).wrap (fun f => match f with
            | .next | .cont => .pure (.again (.forLoop target it body [] env))
            | .brk => .pure (.done .next)
            | .ret v => .pure (.done (.ret v))) (fun e => (do noteFrame e env; theTreesLotGoes e : Sem Unit).wrap (fun _ => .raise e) .raise id id) id id) fs s3)
          (SegX prog w A R Y n s₀ (.forLoop target it body [] env) fs env) s2) (SegX prog w A R Y n s₀ (.forLoop target it body [] env) fs env) s1)
      (SegX prog w A R Y n s₀ (.forLoop target it body [] env) fs env) s) :
    Seg (model prog w) A R Y n s₀ (.forLoop target it body [] env) ((model prog w).den (.forLoop target it body [] env)) fs s := by
  have back : ∀ (x : Value) (s' : Shared), SegX prog w A R Y n s₀ (.forLoop target it body [] env) fs env x s' → Seg (model prog w) A R Y n s₀ (.forLoop target it body [] env) (((do noteFrame x env; theTreesLotGoes x : Sem Unit)).bind fun _ => .raise x) fs s' := fun x s' hx => by
    rw [Sem.bind_eq_wrap]; exact hx
  show Seg _ A R Y n s₀ _ ((forTurn target it body [] env).onRaise (fun x => do noteFrame x env; theTreesLotGoes x)) fs s
  unfold forTurn
  rw [Sem.onRaise_eq_wrap]
  refine seg_at ?_
  show Seg _ A R Y n s₀ _ (((pyNext it).onRaise (fun _ => standAt { target.pos with line := 0 }) >>= fun r => match r with
    | none => again (.block [] env)
    | some v => letOwnedTupleGo target it v >>= fun _ => assign target env v >>= fun _ => execs body env >>= fun f => match f with
      | .next | .cont => again (.forLoop target it body [] env)
      | .brk => pure (.done .next)
      | .ret v => pure (.done (.ret v))).wrap _ _ _ _) fs s
  rw [Sem.bind_eq_wrap', Sem.wrap_wrap]
  refine seg_wrap (wpAny_onRaise (wpAny_mono h (fun r s1 hr => ?_) fun x s' hx => wpAny_standAt (back x s' hx)))
  cases r with
  | none => exact seg_again rfl hr
  | some v =>
    show Seg _ A R Y n s₀ _ ((letOwnedTupleGo target it v >>= fun _ => assign target env v >>= fun _ => execs body env >>= fun f => match f with
      | .next | .cont => again (.forLoop target it body [] env)
      | .brk => pure (.done .next)
      | .ret v => pure (.done (.ret v))).wrap _ _ _ _) fs s1
    rw [Sem.bind_eq_wrap', Sem.wrap_wrap]
    refine seg_wrap (wpAny_mono hr (fun _ s2 h2 => ?_) fun x s' hx => back x s' hx)
    show Seg _ A R Y n s₀ _ ((assign target env v >>= fun _ => execs body env >>= fun f => match f with
      | .next | .cont => again (.forLoop target it body [] env)
      | .brk => pure (.done .next)
      | .ret v => pure (.done (.ret v))).wrap _ _ _ _) fs s2
    rw [Sem.bind_eq_wrap', Sem.wrap_wrap]
    refine seg_wrap (wpAny_mono h2 (fun _ s3 h3 => ?_) fun x s' hx => back x s' hx)
    show Seg _ A R Y n s₀ _ ((execs body env >>= fun f => match f with
      | .next | .cont => again (.forLoop target it body [] env)
      | .brk => pure (.done .next)
      | .ret v => pure (.done (.ret v))).wrap _ _ _ _) fs s3
    rw [Sem.bind_eq_wrap', Sem.wrap_wrap]
    rw [Sem.wrap_congr (execs body env) _ _ (K' := fun f => match f with
            | .next | .cont => .pure (.again (.forLoop target it body [] env))
            | .brk => .pure (.done .next)
            | .ret v => .pure (.done (.ret v))) (H' := (fun e => (do noteFrame e env; theTreesLotGoes e : Sem Unit).wrap (fun _ => .raise e) .raise id id))
        (fun f => by cases f <;> rfl)
        (fun e => by first | exact Sem.bind_eq_wrap _ _ | (show (do noteFrame e env; theTreesLotGoes e : Sem Unit).bind (fun _ => .raise e) = _; rw [Sem.bind_eq_wrap]))]
    exact h3
end
/-- for g in iter: .. -/
def tGFor (wi : TI) (g : TG) (tb : TGn) : TGn := fun D ys σ H => wi σ H fun J H1 => ∃ W : Nat → Nat → List V → L2.St → Hp → Prop, (∃ m, W 0 m ys σ H1) ∧ ∀ i m ys σ H, W i m ys σ H →
  (J.stop i H ∧ D.nx ys σ H) ∨ (J.go i H ∧ ∃ N : List V → L2.St → Hp → Prop, (∀ ys' σ' H', N ys' σ' H' → ∃ m', m' < m ∧ W (i + 1) m' ys' σ' H') ∧ ∀ x H', J.yld i H x H' → g x σ H' fun σ2 H2 => tb { D with nx := N, ct := N, bk := D.nx } ys σ2 H2)
section
variable {X : Cx}
theorem GI.unpin {S : Addr} {ip pl : List (Addr × Obj)} {ys : List V} {σ : L2.St} {H : Hp} {s : Shared} (h : GI X S (ip ++ pl) ys σ H s) : GI X S ip ys σ H s := by
  obtain ⟨acc, c, r, I⟩ := h
  exact ⟨acc, c, r, (show Inv X (((S, lstObj acc c) :: ip) ++ pl) σ H s from I).unpinned⟩
theorem gs_for {tg iter : Expr} {body : List Stmt} {pos : Pos} {wi : TI} {g : TG} {tb : TGn} (hp : PassesOwn (model X.prog X.w) X.A X.env X.xe) (hc : X.calm = true) (hi : PI X tg iter wi) (hg : PG X tg g) (hb : GSs X body tb)
    (hs : ∀ x, foldedSetIterable iter X.env x = pure x := by intro _; rfl) : GS X (.For tg iter body [] pos) (tGFor wi g tb) := by
  refine ⟨fun A S ip R n ys s₀ c fs K J gd lv s σ H D gc hn k hI ht => ?_⟩
  obtain ⟨acc, cc, r0, I⟩ := hI
  refine seg_For hs ?_
  rw [gc.over]
  refine wpAny_mono (hi.run _ s σ H _ I ht) (fun v s1 h1 => wpAny_mono h1 (fun itv s2 h2 p => ?_) fun x s' hx => k.exc n s₀ x s' hx) fun x s' hx => k.exc n s₀ x s' hx
  obtain ⟨it, fp, tn, J', H2, e, I2, T, st2, f2, W, ⟨m0, w0⟩, turn⟩ := h2
  subst e
  have gl := fun (kk : Result → Sem PySem.Fin) => gc_loop (k := kk) (c' := .forLoop tg (.ref it) body [] X.env) (l := lv []) (kp := []) (p := p) gc rfl rfl
  have hS : ∀ b ∈ fp, b ≠ S := fun b hb z => (f2 b hb).2.2.2.2.2 (S, lstObj acc cc) (List.mem_append_right _ List.mem_cons_self) z.symm
  have stat : ∀ {H' : Hp} {acc' : Array Value} {c' : Nat}, (∀ b ∈ fp, H' b = none) → ∀ b ∈ fp, FpOk X ((S, lstObj acc' c') :: ip) H' b := fun hn b hb => by
    obtain ⟨_, z1, z2, z3, z4, z5⟩ := f2 b hb
    refine ⟨hn b hb, z1, z2, z3, z4, fun q hq => ?_⟩
    rcases List.mem_append.mp hq with hq | hq
    · exact z5 q (List.mem_append_left _ hq)
    · rcases List.mem_cons.mp hq with rfl | hq
      · exact Ne.symm (hS b hb)
      · exact z5 q (List.mem_append_right _ (List.mem_cons_of_mem _ hq))
  have loop : ∀ (m i n : Nat) (ys : List V) (s₀ s : Shared) (σ : L2.St) (H : Hp), n + ys.length = sizeLine → W i m ys σ H → GI X S ip ys σ H s → tn i s.heap → (∀ b ∈ fp, H b = none) →
      Seg (model X.prog X.w) A R (GY X S) n s₀ (.forLoop tg (.ref it) body [] X.env) ((model X.prog X.w).den (.forLoop tg (.ref it) body [] X.env))
        (.ret (fun r => ((match r with | .ok f => (.pure f : Sem Flow) | .error e => .raise e).onRaise (cameBack X.env)).wrap K J gd lv) none (gd false) (lv []) c p [] :: fs) s := by
    intro m
    induction m using Nat.strongRecOn with
    | ind m ih =>
      intro i n ys s₀ s σ H hn w hI hst hfr
      have ee : ∀ (n : Nat) (s₀ : Shared) (x : Value) (s' : Shared), X.xe x s' → SegX X.prog X.w A R (GY X S) n s₀ (.forLoop tg (.ref it) body [] X.env)
          (.ret (fun r => ((match r with | .ok f => (.pure f : Sem Flow) | .error e => .raise e).onRaise (cameBack X.env)).wrap K J gd lv) none (gd false) (lv []) c p [] :: fs) X.env x s' := fun n s₀ x s' hx => by
        refine seg_wrap ?_
        rw [(gl _).over]
        refine wpAny_bind (wpAny_mono (hp x s' hx) (fun _ s'' hcb => wpAny_theTreesLotGoes ?_) fun y s'' hcb => ?_)
        · exact seg_leaf (.error x) (seg_cameBack gc k hcb)
        · exact seg_leaf (.error y) (seg_cameBack gc k hcb)
      obtain ⟨acc, cc, r, I3⟩ := hI
      refine seg_forLoop ?_
      rw [(gl _).over]
      rcases turn i m ys σ H w with ⟨stop, qn⟩ | ⟨go, N, hN, step⟩
      · refine wpAny_mono (T.done X rfl rfl rfl hc i _ s σ H X.xe I3 (stat hfr) hst stop) (fun r1 s4 ⟨hr, I4⟩ => ?_) fun x s' hx => ee n s₀ x s' hx
        subst hr
        exact seg_leaf (.ok .next) (k.ok n ys s₀ s4 .next hn ⟨σ, H, ⟨acc, cc, r, I4⟩, qn⟩)
      · refine wpAny_mono (T.item X rfl rfl rfl hc i _ s σ H X.xe I3 (stat hfr) hst go) (fun r1 s4 ⟨u, hr, h4⟩ => ?_) fun x s' hx => ee n s₀ x s' hx
        subst hr
        refine wpAny_mono h4 (fun _ s5 ⟨x, H5, I5, r5, y5, st5, fr5⟩ => ?_) fun x s' hx => ee n s₀ x s' hx
        have I5' := I5.pinned (stat fr5) (T.obj _ _ st5)
        refine wpAny_mono (hg.run _ s5 σ H5 x u _ I5' r5 (step x H5 y5)) (fun _ s6 ⟨σ6, H6, I6, q6⟩ => ?_) fun x s' hx => ee n s₀ x s' hx
        have gl' : ∀ (kk : Result → Sem PySem.Fin), GC X S (ip ++ pinsAt fp s5.heap) A (.forLoop tg (.ref it) body [] X.env) (.ret kk none (gd false) (lv []) c p [] :: fs) id := fun kk =>
          ⟨(gl kk).pn, fun q hq => (List.mem_append.mp hq).elim (gc.ip q) fun z => hS q.1 (of_pinsAt z).1, (gl kk).apart, (gl kk).over, (gl kk).split, (gl kk).guard, (gl kk).gd⟩
        have again : ∀ (n' : Nat) (ys' : List V) (s₀' s7 : Shared) (σ7 : L2.St) (H7 : Hp), n' + ys'.length = sizeLine → GI X S (ip ++ pinsAt fp s5.heap) ys' σ7 H7 s7 → N ys' σ7 H7 →
            Seg (model X.prog X.w) A R (GY X S) n' s₀' (.forLoop tg (.ref it) body [] X.env) (.pure (.again (.forLoop tg (.ref it) body [] X.env)))
              (.ret (fun r => ((match r with | .ok f => (.pure f : Sem Flow) | .error e => .raise e).onRaise (cameBack X.env)).wrap K J gd lv) none (gd false) (lv []) c p [] :: fs) s7 := fun n' ys' s₀' s7 σ7 H7 hn' hG n7 => by
          obtain ⟨m', hm, w7⟩ := hN ys' σ7 H7 n7
          obtain ⟨acc7, c7, r7, I7⟩ := id hG
          have pinq : ∀ b ∈ fp, ∀ o, s5.heap.get? b = some o → s7.heap.get? b = some o ∧ H7 b = none := fun b hb o e => by
            obtain ⟨z1, z2, _⟩ := I7.pin (b, o) (List.mem_append_right _ (List.mem_cons_of_mem _ (List.mem_append_right _ (mem_pinsAt hb e))))
            exact ⟨z1, z2⟩
          refine seg_again rfl (ih m' hm (i + 1) n' ys' s₀' s7 σ7 H7 hn' w7 (GI.unpin hG) (T.keep _ _ _ st5 fun b hb o e => (pinq b hb o e).1) fun b hb => ?_)
          obtain ⟨o, e, d⟩ := T.obj _ _ st5 b hb
          exact (pinq b hb o e).2
        refine hb.run A S (ip ++ pinsAt fp s5.heap) R n ys s₀ _ _ _ _ id id s6 σ6 H6 { D with nx := N, ct := N, bk := D.nx } (gl' _) hn ⟨fun n' ys' s₀' s7 f hn' hs => ?_, fun n' s₀' x s7 hx => ee n' s₀' x s7 hx⟩ ⟨acc, cc, r, I6⟩ q6
        cases f with
        | next =>
          obtain ⟨σ7, H7, I7, n7⟩ := hs
          exact again n' ys' s₀' s7 σ7 H7 hn' I7 n7
        | cont =>
          obtain ⟨σ7, H7, I7, n7⟩ := hs
          exact again n' ys' s₀' s7 σ7 H7 hn' I7 n7
        | brk =>
          obtain ⟨σ7, H7, I7, n7⟩ := hs
          exact seg_leaf (.ok .next) (k.ok n' ys' s₀' s7 .next hn' ⟨σ7, H7, GI.unpin I7, n7⟩)
        | ret v =>
          obtain ⟨v7, σ7, H7, I7, r7, q7⟩ := hs
          exact seg_leaf (.ok (.ret v)) (k.ok n' ys' s₀' s7 (.ret v) hn' ⟨v7, σ7, H7, GI.unpin I7, r7, q7⟩)
  exact loop m0 0 n ys s₀ s2 σ H2 hn w0 ⟨acc, cc, r0, I2⟩ st2 fun b hb => (f2 b hb).1
end
end K04

/-! beginnings of a record -/
namespace K04
open PySem PySem.Spec PyProof.Rows L2 GenW
theorem gfor_it {J : It} {n : Nat} {G : Hp → Prop} {Y : Nat → Hp → V → Hp → Prop} (w : Walk J n G Y) {g : TG} {tb : TGn} {D : GEnds} {ys : List V} {σ : L2.St} {H : Hp} (Pv : Nat → List V → L2.St → Hp → Prop) (h0 : Pv 0 ys σ H) (hG : ∀ i ys σ H, i ≤ n → Pv i ys σ H → G H)
    (hs : ∀ i x ys σ H H', i < n → Pv i ys σ H → Y i H x H' → g x σ H' fun σ2 H2 => tb { D with nx := Pv (i + 1), ct := Pv (i + 1), bk := D.nx } ys σ2 H2) (hd : ∀ ys σ H, Pv n ys σ H → D.nx ys σ H) :
    ∃ W : Nat → Nat → List V → L2.St → Hp → Prop, (∃ m, W 0 m ys σ H) ∧ ∀ i m ys σ H, W i m ys σ H →
      (J.stop i H ∧ D.nx ys σ H) ∨ (J.go i H ∧ ∃ N : List V → L2.St → Hp → Prop, (∀ ys' σ' H', N ys' σ' H' → ∃ m', m' < m ∧ W (i + 1) m' ys' σ' H') ∧ ∀ x H', J.yld i H x H' → g x σ H' fun σ2 H2 => tb { D with nx := N, ct := N, bk := D.nx } ys σ2 H2) := by
  refine ⟨fun i m ys σ H => m = n - i ∧ i ≤ n ∧ Pv i ys σ H, ⟨n, by simp, Nat.zero_le _, h0⟩, ?_⟩
  rintro i m ys σ H ⟨rfl, hi, p⟩
  have q := hG i ys σ H hi p
  by_cases hlt : i < n
  · exact .inr ⟨w.goes i H hlt q, Pv (i + 1), fun ys' σ' H' p' => ⟨n - (i + 1), by omega, rfl, hlt, p'⟩, fun x H' y => hs i x ys σ H H' hlt p (w.yields i H x H' hlt q y)⟩
  · have e : i = n := by omega
    subst e
    exact .inl ⟨w.stops H q, hd ys σ H p⟩
def spBeg (CR : Addr) : SpG := fun vs H cont E => ∃ (x : Addr) (wd : Int) (os : List (Option Rw)), vs = [.ref x] ∧ RecV CR H x wd os ∧
  ∀ (ys : List V) (H' : Hp), Same H H' → ys.length = os.length + 1 → (∀ k v, ys[k]? = some v → ∃ y, v = .ref y ∧ RecV CR H' y wd (os.take k)) → cont ys H'
/-- until, by positions -/
structure UntC (P : Program) (w : World) (K : PySem.W.Frag) (mg : Str → Option Value) (base : Heap) (CR CN fU : Addr) : Prop where
  cl : RecC K CR
  mt : Meth K CR "until" fU
  ok : FnR P w K mg base (L2.CX P w) 9 fU (spUntil CR CN)
section
variable {P : Program} {w : World} {K : PySem.W.Frag} {mg : Str → Option Value} {base : Heap}
theorem ok_beg {f CR CN fU : Addr} {fd : FuncData} (F : FnP K "beginnings" sPBeginnings f fd) (z_len : mg "len" = none) (z_range : mg "range" = none) (U : UntC P w K mg base CR CN fU) : GFn P w K mg base 10 f fd ["record"] (spBeg CR) := by
  have sc : GScope ["record", "many"] ["record"] (defScope sPBeginnings) := ⟨rfl, rfl, rfl, by decide +kernel, rfl, by decide +kernel, by decide +kernel⟩
  obtain ⟨oc, od, dV, kV, doc, pm, an, cdv, ct, osl, rfl, lk, hcd, _, _⟩ := F.ex
  refine gfn_of lk hcd sc (fun vs H Q E h => ?_) (fun A outer s H vs Q E pn hr h => ?_)
  · obtain ⟨x, wd, os, rfl, _⟩ := h
    rfl
  · obtain ⟨x, wd, os, rfl, hR, q⟩ := h
    refine ⟨_, gss_cons (gs_for owns_gcx rfl (pi_range1 (by rfl) z_range (pa_cons (pe_op op_add (pe_callB call_len_seq (by rfl) z_len boot_len (pa_cons (pe_fld (pv 0) rfl) pa_nil)) pe_int) pa_nil)) (pg_name (i := 1) sc.nd rfl (.inl rfl))
      (gss_cons (gs_yield (pe_methE (pv 0) U.cl.cl U.mt U.ok hr (fun σ => passAt takes_gcx σ) (pa_cons (pv 1) pa_nil))) gss_nil)) gss_nil, ?_⟩
    obtain ⟨dx, ar, ap, af, ab, aw, ac, al, b, hx, hD⟩ := id hR.at_
    obtain ⟨xs, ea, hxs⟩ : ∃ xs : List V, H ar = some (.tup xs) ∧ DtAll Any H xs (os.map datO) := by
      cases hD with | tup _ e r => exact ⟨_, e, r⟩
    have el : xs.length = os.length := hxs.len.trans (List.length_map ..)
    refine ⟨_, rfl, x, CR, dx, _, _, rfl, hx, U.cl.cl, U.cl.nRows, rfl, ar, xs, rfl, .inr (SqT.of ea), ?_⟩
    rw [el]
    refine ⟨_, _, rfl, rfl, _, rfl, by have := hR.few; omega, by have := hR.few; omega, gfor_it walk_range (fun i ys σ H' => ∃ x1 : Option V, σ = [some (.ref x), x1] ∧ Same H H' ∧ ys.length = i ∧ ∀ k v, ys[k]? = some v → ∃ y, v = .ref y ∧ RecV CR H' y wd (os.take k))
      ⟨none, rfl, Same.refl _, rfl, fun k v e => by cases e⟩ (fun _ _ _ _ _ _ => trivial) ?_ ?_⟩
    · rintro i y ys σ H1 H2 hi ⟨x1, rfl, s1, hys, hk⟩ ⟨rfl, rfl⟩
      have hi' : i ≤ os.length := by omega
      show gName 1 (V.int (0 + (i : Int))) _ _ _
      rw [Int.zero_add]
      refine ⟨by rw [hys, sizeLine_eq]; have := hR.few; omega, _, rfl, x, dx, _, rfl, s1 _ _ hx, rfl, _, rfl, x, .int i, "int", wd, os, rfl, .int _, hR.same s1, fun n e hn H3 y s3 hV => ?_, fun e => ?_⟩
      · obtain rfl : i = n := by have := V.int.inj e; omega
        refine ⟨_, rfl, s1.trans s3, by rw [List.length_append, hys]; rfl, fun k v ek => ?_⟩
        by_cases hk2 : k < ys.length
        · rw [List.getElem?_append_left hk2] at ek
          obtain ⟨y', ey, hV'⟩ := hk k v ek
          exact ⟨y', ey, hV'.same s3⟩
        · rw [List.getElem?_append_right (by omega)] at ek
          obtain ⟨e0, rfl⟩ : k = ys.length ∧ v = .ref y := by
            cases e1 : k - ys.length with
            | zero => rw [e1] at ek; cases ek; exact ⟨by omega, rfl⟩
            | succ j => rw [e1] at ek; cases ek
          exact ⟨y, rfl, by rw [e0, hys]; exact hV⟩
      · exfalso
        have z : wholeV (.int (i : Int)) 0 os.length = true := show (decide ((0 : Int) ≤ (i : Int)) && decide ((i : Int) ≤ (os.length : Int))) = true from Bool.and_eq_true_iff.mpr ⟨decide_eq_true (by omega), decide_eq_true (by omega)⟩
        rw [z] at e
        cases e
    · rintro ys σ H1 ⟨x1, rfl, s1, hys, hk⟩
      exact q ys H1 s1 (by rw [hys]; omega) hk
end
end K04

/-! what the law asks in a try: until, shorter -/
namespace K04
open PySem PySem.Spec PyProof.Rows L2
def madeD (os : List (Option Rw)) : PyData := .tuple [.str "made", rowsD os]
def spLU (CR : Addr) : Sp := fun vs H Q _ => ∃ (x : Addr) (mv : V) (ty : String) (wd : Int) (os : List (Option Rw)), vs = [.ref x, mv] ∧ Odd H mv ty ∧ RecV CR H x wd os ∧
  (∀ n : Nat, mv = .int (n : Int) → n ≤ os.length → ∀ (H' : Hp) (z : Addr), Same H H' → Dt Any H' (.ref z) (madeD (os.take n)) → Q (.ref z) H') ∧
  (wholeV mv 0 os.length = false → ∀ (H' : Hp) (z : Addr), Same H H' → H' z = some (.tup [.str "refused", mv]) → Q (.ref z) H')
def spLS (CR : Addr) : Sp := fun vs H Q _ => ∃ (x : Addr) (wd : Int) (os : List (Option Rw)), vs = [.ref x] ∧ RecV CR H x wd os ∧
  (os ≠ [] → ∀ (H' : Hp) (z : Addr), Same H H' → Dt Any H' (.ref z) (madeD (os.take (os.length - 1))) → Q (.ref z) H') ∧
  (os = [] → ∀ (H' : Hp) (z : Addr), Same H H' → H' z = some (.tup [.str "refused", .int 0]) → Q (.ref z) H')
/-- NoRow, caught -/
structure NorX (K : PySem.W.Frag) (mg : Str → Option Value) (CN : Addr) : Prop where
  gl : mg "NoRow" = some (.ref CN)
  xf : XfC K CN
  nN : PySem.W.findIn K (.ref CN) "number" = some none
  ex : PySem.W.exmOne K (.ref CN) (.ref CN) = some true
section
variable {P : Program} {w : World} {K : PySem.W.Frag} {mg : Str → Option Value} {base : Heap}
theorem ok_lu {f CR CN fU : Addr} {fd : FuncData} (F : FnP K "_law_until" sUntil f fd) (N : NorX K mg CN) (U : UntC P w K mg base CR CN fU) : FnOk P w K mg base CX0 10 f fd ["_law_record", "_law_many"] (spLU CR) := by
  have sc : FnScope ["_law_record", "_law_many", "_law_told", "e"] ["_law_record", "_law_many"] (defScope sUntil) := ⟨rfl, rfl, rfl, by decide +kernel, rfl, by decide +kernel, by decide +kernel⟩
  refine F.ok sc (fun vs H Q E h => ?_) (fun cdv A outer s H vs Q E hr h => ?_)
  · obtain ⟨x, mv, ty, wd, os, rfl, _⟩ := h
    rfl
  · obtain ⟨x, mv, ty, wd, os, rfl, hty, hR, q1, q2⟩ := h
    refine ⟨_, pss_cons (ps_try_as (i := 3)
        (tb := fun W => tAsg (tTup (tCons (tC (.str "made")) (tCons (tFld K (tMethE CR "until" (spUntil CR CN) (WE W) (tVar 0) (tCons (tVar 1) tNil)) "rows") tNil))) (gName 2))
        (ts := fun a cls d => tAsg (tTup (tCons (tC (.str "refused")) (tCons (tXf a cls d CN "number" (tVar 3)) tNil))) (gName 2))
        (Wout := fun _ _ _ _ => False) rfl rfl sc.nd rfl rfl ⟨rfl, by decide, .inl N.gl⟩ takes0
        (fun W pn xe tk _ => pss_one (ps_set (i := 2) sc.nd rfl (.inl rfl) (pe_tup (pa_cons pe_str (pa_cons (pe_fld (pe_methE (pv 0) U.cl.cl U.mt U.ok hr (fun σ => passAt tk σ) (pa_cons (pv 1) pa_nil)) rfl) pa_nil)))))
        (fun a oe cls d pn hz hf => pss_one (ps_set (i := 2) sc.nd rfl (.inl rfl) (pe_tup (pa_cons pe_str (pa_cons (pe_xf N.xf N.nN hz hf (pv 3)) pa_nil))))))
      (pss_one (ps_ret (pv 2))), ?_⟩
    obtain ⟨dx, ar, ap, af, ab, aw, ac, al, b, hx, hD⟩ := id hR.at_
    refine ⟨_, rfl, x, dx, _, rfl, hx, rfl, _, rfl, x, mv, ty, wd, os, rfl, hty, hR, fun n e hn H1 y s1 hV => ?_, fun e H1 d nd hd s1 => ?_⟩
    · obtain ⟨dx2, ar2, _, _, _, _, _, _, _, hx2, hD2⟩ := id hV.at_
      refine ⟨y, CR, dx2, _, _, rfl, hx2, U.cl.cl, U.cl.nRows, rfl, (by show 2 ≤ sizeLine; decide), fun u nu => ?_⟩
      have s3 := same_upd (o := .tup [.str "made", .ref ar2]) nu
      exact ⟨_, rfl, q1 n e hn _ u (s1.trans s3) (.tup trivial upd_same (.cons (.str "made" (by decide) (by decide +kernel)) (.cons (hD2.same s3) .nil)))⟩
    · refine ⟨true, N.ex, fun _ a0 na0 => ?_, fun z => by cases z⟩
      refine ⟨_, rfl, rfl, rfl, d, _, _, rfl, hd, rfl, (by show 2 ≤ sizeLine; decide), fun u nu => ?_⟩
      exact ⟨_, rfl, q2 e _ u (s1.trans (same_upd nu)) upd_same⟩
theorem ok_ls {f CR CN fU : Addr} {fd : FuncData} (F : FnP K "_law_shorter" sShorter f fd) (N : NorX K mg CN) (T : RecC K CR) (mt : Meth K CR "shorter" fU) (ok : FnR P w K mg base (L2.CX P w) 9 fU (spShorter CR CN)) : FnOk P w K mg base CX0 10 f fd ["_law_record"] (spLS CR) := by
  have sc : FnScope ["_law_record", "_law_told", "e"] ["_law_record"] (defScope sShorter) := ⟨rfl, rfl, rfl, by decide +kernel, rfl, by decide +kernel, by decide +kernel⟩
  refine F.ok sc (fun vs H Q E h => ?_) (fun cdv A outer s H vs Q E hr h => ?_)
  · obtain ⟨x, wd, os, rfl, _⟩ := h
    rfl
  · obtain ⟨x, wd, os, rfl, hR, q1, q2⟩ := h
    refine ⟨_, pss_cons (ps_try_as (i := 2)
        (tb := fun W => tAsg (tTup (tCons (tC (.str "made")) (tCons (tFld K (tMethE CR "shorter" (spShorter CR CN) (WE W) (tVar 0) tNil) "rows") tNil))) (gName 1))
        (ts := fun a cls d => tAsg (tTup (tCons (tC (.str "refused")) (tCons (tXf a cls d CN "number" (tVar 2)) tNil))) (gName 1))
        (Wout := fun _ _ _ _ => False) rfl rfl sc.nd rfl rfl ⟨rfl, by decide, .inl N.gl⟩ takes0
        (fun W pn xe tk _ => pss_one (ps_set (i := 1) sc.nd rfl (.inl rfl) (pe_tup (pa_cons pe_str (pa_cons (pe_fld (pe_methE0 (pv 0) T.cl mt ok hr (fun σ => passAt tk σ)) rfl) pa_nil)))))
        (fun a oe cls d pn hz hf => pss_one (ps_set (i := 1) sc.nd rfl (.inl rfl) (pe_tup (pa_cons pe_str (pa_cons (pe_xf N.xf N.nN hz hf (pv 2)) pa_nil))))))
      (pss_one (ps_ret (pv 1))), ?_⟩
    obtain ⟨dx, ar, ap, af, ab, aw, ac, al, b, hx, hD⟩ := id hR.at_
    refine ⟨_, rfl, x, dx, _, rfl, hx, rfl, x, wd, os, rfl, hR, fun e H1 y s1 hV => ?_, fun e H1 d nd hd s1 => ?_⟩
    · obtain ⟨dx2, ar2, _, _, _, _, _, _, _, hx2, hD2⟩ := id hV.at_
      refine ⟨y, CR, dx2, _, _, rfl, hx2, T.cl, T.nRows, rfl, (by show 2 ≤ sizeLine; decide), fun u nu => ?_⟩
      have s3 := same_upd (o := .tup [.str "made", .ref ar2]) nu
      exact ⟨_, rfl, q1 e _ u (s1.trans s3) (.tup trivial upd_same (.cons (.str "made" (by decide) (by decide +kernel)) (.cons (hD2.same s3) .nil)))⟩
    · refine ⟨true, N.ex, fun _ a0 na0 => ?_, fun z => by cases z⟩
      refine ⟨_, rfl, rfl, rfl, d, _, _, rfl, hd, rfl, (by show 2 ≤ sizeLine; decide), fun u nu => ?_⟩
      exact ⟨_, rfl, q2 e _ u (s1.trans (same_upd nu)) upd_same⟩
end
end K04

/-! what the law asks in a try: after -/
namespace K04
open PySem PySem.Spec PyProof.Rows L2
def spLA (CR : Addr) : Sp := fun vs H Q _ => ∃ (x l : Addr) (wd : Int) (os os2 : List (Option Rw)) (ys : List V) (es : List PyData), vs = [.ref x, .ref l] ∧ RecV CR H x wd os ∧ H l = some (.lst ys) ∧ DtAll Any H ys es ∧ RowsD es os2 ∧ os.length ≤ 900 ∧ ys.length ≤ 2 ∧
  (faultO wd Bk.new 0 (os ++ os2) = none → ∀ (H' : Hp) (z : Addr), Same H H' → Dt Any H' (.ref z) (madeD (os ++ os2)) → Q (.ref z) H') ∧
  ∀ i y, faultO wd Bk.new 0 (os ++ os2) = some (i, y) → ∀ (H' : Hp) (z : Addr), Same H H' → H' z = some (.tup [.str "refused", .int (i : Int), .str y]) → Q (.ref z) H'
/-- BadRecord, caught -/
structure BadX (K : PySem.W.Frag) (mg : Str → Option Value) (CE : Addr) : Prop where
  gl : mg "BadRecord" = some (.ref CE)
  xf : XfC K CE
  nI : PySem.W.findIn K (.ref CE) "index" = some none
  nW : PySem.W.findIn K (.ref CE) "what" = some none
  ex : PySem.W.exmOne K (.ref CE) (.ref CE) = some true
section
variable {P : Program} {w : World} {K : PySem.W.Frag} {mg : Str → Option Value} {base : Heap}
theorem ok_la {f CR CE fA : Addr} {fd : FuncData} (F : FnP K "_law_after" sAfter f fd) (z_len : mg "len" = none) (N : BadX K mg CE) (T : RecC K CR) (mt : Meth K CR "after" fA) (ok : FnR P w K mg base (L2.CX P w) 9 fA (spAfter CR CE)) :
    FnOk P w K mg base CX0 10 f fd ["_law_record", "_law_rows"] (spLA CR) := by
  have sc : FnScope ["_law_record", "_law_rows", "_law_told", "e"] ["_law_record", "_law_rows"] (defScope sAfter) := ⟨rfl, rfl, rfl, by decide +kernel, rfl, by decide +kernel, by decide +kernel⟩
  refine F.ok sc (fun vs H Q E h => ?_) (fun cdv A outer s H vs Q E hr h => ?_)
  · obtain ⟨x, l, wd, os, os2, ys, es, rfl, _⟩ := h
    rfl
  · obtain ⟨x, l, wd, os, os2, ys, es, rfl, hR, hl, hys, hrows, o9, y2, q1, q2⟩ := h
    refine ⟨_, pss_cons (ps_try_as (i := 3)
        (tb := fun W => tIfS (tTest (tOp rEq (tCB (fun xs H Q => ∃ p ys, xs = [.ref p] ∧ (SqL K H p ys ∨ SqT K H p ys) ∧ Q (.int ys.length) H) (tCons (tVar 1) tNil)) (tC (.int 0))))
            (tAsg (tTup (tCons (tC (.str "made")) (tCons (tFld K (tMethE CR "after" (spAfter CR CE) (WE W) (tVar 0) tNil) "rows") tNil))) (gName 2))
          (tIfS (tTest (tOp rEq (tCB (fun xs H Q => ∃ p ys, xs = [.ref p] ∧ (SqL K H p ys ∨ SqT K H p ys) ∧ Q (.int ys.length) H) (tCons (tVar 1) tNil)) (tC (.int 1))))
            (tAsg (tTup (tCons (tC (.str "made")) (tCons (tFld K (tMethE CR "after" (spAfter CR CE) (WE W) (tVar 0) (tCons (tOp rSq (tVar 1) (tC (.int 0))) tNil)) "rows") tNil))) (gName 2))
            (tAsg (tTup (tCons (tC (.str "made")) (tCons (tFld K (tMethE CR "after" (spAfter CR CE) (WE W) (tVar 0) (tCons (tOp rSq (tVar 1) (tC (.int 0))) (tCons (tOp rSq (tVar 1) (tC (.int 1))) tNil))) "rows") tNil))) (gName 2))))
        (ts := fun a cls d => tAsg (tTup (tCons (tC (.str "refused")) (tCons (tXf a cls d CE "index" (tVar 3)) (tCons (tXf a cls d CE "what" (tVar 3)) tNil)))) (gName 2))
        (Wout := fun _ _ _ _ => False) rfl rfl sc.nd rfl rfl ⟨rfl, by decide, .inl N.gl⟩ takes0
        (fun W pn xe tk _ => pss_one (ps_if (pt_cmpR op_eq (pe_callB call_len_seq (by rfl) z_len boot_len (pa_cons (pv 1) pa_nil)) pe_int (nomark _))
          (pss_one (ps_set (i := 2) sc.nd rfl (.inl rfl) (pe_tup (pa_cons pe_str (pa_cons (pe_fld (pe_methE0 (pv 0) T.cl mt ok hr (fun σ => passAt tk σ)) rfl) pa_nil)))))
          (pss_one (ps_if (pt_cmpR op_eq (pe_callB call_len_seq (by rfl) z_len boot_len (pa_cons (pv 1) pa_nil)) pe_int (nomark _))
            (pss_one (ps_set (i := 2) sc.nd rfl (.inl rfl) (pe_tup (pa_cons pe_str (pa_cons (pe_fld (pe_methE (pv 0) T.cl mt ok hr (fun σ => passAt tk σ) (pa_cons (pe_ix ixS (pv 1) pe_int (fun _ _ => rfl)) pa_nil)) rfl) pa_nil)))))
            (pss_one (ps_set (i := 2) sc.nd rfl (.inl rfl) (pe_tup (pa_cons pe_str (pa_cons (pe_fld (pe_methE (pv 0) T.cl mt ok hr (fun σ => passAt tk σ) (pa_cons (pe_ix ixS (pv 1) pe_int (fun _ _ => rfl)) (pa_cons (pe_ix ixS (pv 1) pe_int (fun _ _ => rfl)) pa_nil))) rfl) pa_nil)))))))))
        (fun a oe cls d pn hz hf => pss_one (ps_set (i := 2) sc.nd rfl (.inl rfl) (pe_tup (pa_cons pe_str (pa_cons (pe_xf N.xf N.nI hz hf (pv 3)) (pa_cons (pe_xf N.xf N.nW hz hf (pv 3)) pa_nil)))))))
      (pss_one (ps_ret (pv 2))), ?_⟩
    obtain ⟨dx, ar, ap, af, ab, aw, ac, al, b, hx, hD⟩ := id hR.at_
    have hS : Sq H l ys := .inl hl
    match ys, y2 with
    | [], _ =>
      refine ⟨_, rfl, l, _, rfl, .inl (SqL.of hl), rfl, _, rfl, iteT ?_⟩
      refine ⟨_, rfl, x, dx, _, rfl, hx, rfl, ?_⟩
      refine ⟨[.ref x], [], rfl, rfl, (by show 0 ≤ sizeLine; decide), fun p np => ?_⟩
      have s0 := same_upd (o := .tup []) np
      refine ⟨x, p, wd, os, os2, _, es, rfl, hR.same s0, upd_same, hys.same s0, hrows, by show os.length + 0 ≤ 1000; omega, fun ef H1 y s1 hV => ?_, fun i z ef H1 d nd hd s1 => ?_⟩
      · obtain ⟨dx2, ar2, _, _, _, _, _, _, _, hx2, hD2⟩ := id hV.at_
        refine ⟨y, CR, dx2, _, _, rfl, hx2, T.cl, T.nRows, rfl, (by show 2 ≤ sizeLine; decide), fun u nu => ?_⟩
        have s3 := same_upd (o := .tup [.str "made", .ref ar2]) nu
        exact ⟨_, rfl, q1 ef _ u ((s0.trans s1).trans s3) (.tup trivial upd_same (.cons (.str "made" (by decide) (by decide +kernel)) (.cons (hD2.same s3) .nil)))⟩
      · refine ⟨true, N.ex, fun _ a0 na0 => ?_, fun z => by cases z⟩
        refine ⟨_, rfl, rfl, rfl, d, _, _, rfl, hd, rfl, _, rfl, rfl, rfl, d, _, _, rfl, hd, rfl, (by show 3 ≤ sizeLine; decide), fun u nu => ?_⟩
        exact ⟨_, rfl, q2 i z ef _ u ((s0.trans s1).trans (same_upd nu)) upd_same⟩
    | [v1], _ =>
      refine ⟨_, rfl, l, _, rfl, .inl (SqL.of hl), rfl, _, rfl, iteF ?_⟩
      refine ⟨_, rfl, l, _, rfl, .inl (SqL.of hl), rfl, _, rfl, iteT ?_⟩
      refine ⟨_, rfl, x, dx, _, rfl, hx, rfl, _, rfl, _, _, _, _, rfl, rfl, hS, atI_nat (j := 0) rfl, ?_⟩
      refine ⟨[.ref x], [v1], rfl, rfl, (by show 1 ≤ sizeLine; decide), fun p np => ?_⟩
      have s0 := same_upd (o := .tup [v1]) np
      refine ⟨x, p, wd, os, os2, _, es, rfl, hR.same s0, upd_same, hys.same s0, hrows, by show os.length + 1 ≤ 1000; omega, fun ef H1 y s1 hV => ?_, fun i z ef H1 d nd hd s1 => ?_⟩
      · obtain ⟨dx2, ar2, _, _, _, _, _, _, _, hx2, hD2⟩ := id hV.at_
        refine ⟨y, CR, dx2, _, _, rfl, hx2, T.cl, T.nRows, rfl, (by show 2 ≤ sizeLine; decide), fun u nu => ?_⟩
        have s3 := same_upd (o := .tup [.str "made", .ref ar2]) nu
        exact ⟨_, rfl, q1 ef _ u ((s0.trans s1).trans s3) (.tup trivial upd_same (.cons (.str "made" (by decide) (by decide +kernel)) (.cons (hD2.same s3) .nil)))⟩
      · refine ⟨true, N.ex, fun _ a0 na0 => ?_, fun z => by cases z⟩
        refine ⟨_, rfl, rfl, rfl, d, _, _, rfl, hd, rfl, _, rfl, rfl, rfl, d, _, _, rfl, hd, rfl, (by show 3 ≤ sizeLine; decide), fun u nu => ?_⟩
        exact ⟨_, rfl, q2 i z ef _ u ((s0.trans s1).trans (same_upd nu)) upd_same⟩
    | [v1, v2], _ =>
      refine ⟨_, rfl, l, _, rfl, .inl (SqL.of hl), rfl, _, rfl, iteF ?_⟩
      refine ⟨_, rfl, l, _, rfl, .inl (SqL.of hl), rfl, _, rfl, iteF ?_⟩
      refine ⟨_, rfl, x, dx, _, rfl, hx, rfl, _, rfl, _, _, _, _, rfl, rfl, hS, atI_nat (j := 0) rfl, _, rfl, _, _, _, _, rfl, rfl, hS, atI_nat (j := 1) rfl, ?_⟩
      refine ⟨[.ref x], [v1, v2], rfl, rfl, (by show 2 ≤ sizeLine; decide), fun p np => ?_⟩
      have s0 := same_upd (o := .tup [v1, v2]) np
      refine ⟨x, p, wd, os, os2, _, es, rfl, hR.same s0, upd_same, hys.same s0, hrows, by show os.length + 2 ≤ 1000; omega, fun ef H1 y s1 hV => ?_, fun i z ef H1 d nd hd s1 => ?_⟩
      · obtain ⟨dx2, ar2, _, _, _, _, _, _, _, hx2, hD2⟩ := id hV.at_
        refine ⟨y, CR, dx2, _, _, rfl, hx2, T.cl, T.nRows, rfl, (by show 2 ≤ sizeLine; decide), fun u nu => ?_⟩
        have s3 := same_upd (o := .tup [.str "made", .ref ar2]) nu
        exact ⟨_, rfl, q1 ef _ u ((s0.trans s1).trans s3) (.tup trivial upd_same (.cons (.str "made" (by decide) (by decide +kernel)) (.cons (hD2.same s3) .nil)))⟩
      · refine ⟨true, N.ex, fun _ a0 na0 => ?_, fun z => by cases z⟩
        refine ⟨_, rfl, rfl, rfl, d, _, _, rfl, hd, rfl, _, rfl, rfl, rfl, d, _, _, rfl, hd, rfl, (by show 3 ≤ sizeLine; decide), fun u nu => ?_⟩
        exact ⟨_, rfl, q2 i z ef _ u ((s0.trans s1).trans (same_upd nu)) upd_same⟩
    | _ :: _ :: _ :: _, h => exact absurd h (by simp)
end
end K04

/-! the law's own judge is the book's -/
namespace K04
open PySem PySem.Spec PyProof.Rows L2
structure St where
  kinds : List (Str × Str)
  dead : List Str
  mates : List (Str × Str)
  pairs : List (Str × Str)
abbrev St.new : St := ⟨[], [], [], []⟩
def hasMate (Z : St) (x : Str) : Bool := match look Z.mates x with
  | none => false
  | some y => !decide (y ∈ Z.dead)
def jLc (Z : St) (wd : Int) (l : Str) (hs : List Int) : Option Str := if (look Z.kinds l).isSome = true then some ("label" : Str) else if (hs.length : Int) = wd then none else some ("width" : Str)
def jLd (Z : St) (l : Str) : Option Str := if (look Z.kinds l).isNone = true then some ("person" : Str) else if l ∈ Z.dead then some ("dead" : Str) else none
def jLb (Z : St) (f m l : Str) : Option Str := if ((look Z.kinds f).isNone || (look Z.kinds m).isNone) = true then some ("person" : Str) else if ¬ (f, m) ∈ Z.pairs ∨ f ∈ Z.dead ∨ m ∈ Z.dead then some ("couple" : Str) else if (look Z.kinds l).isSome = true then some ("label" : Str) else none
def jLw (Z : St) (f m : Str) : Option Str := if ((look Z.kinds f).isNone || (look Z.kinds m).isNone) = true then some ("person" : Str) else if look Z.kinds f ≠ some sonK ∨ look Z.kinds m ≠ some dauK then some ("kind" : Str) else if f ∈ Z.dead ∨ m ∈ Z.dead then some ("dead" : Str) else if (hasMate Z f || hasMate Z m) = true then some ("wed" : Str) else none
def jL (Z : St) (wd : Int) : Rw → Option Str
  | .comes l _ _ hs => jLc Z wd l hs
  | .weds f m => jLw Z f m
  | .born f m _ l _ => jLb Z f m l
  | .dies l => jLd Z l
/-- a dict's store, as lists of pairs -/
def putS (l : List (Str × Str)) (x k : Str) : List (Str × Str) := if (look l x).isSome = true then l.map (fun p => if p.1 = x then (p.1, k) else p) else l ++ [(x, k)]
def eL (Z : St) : Rw → St
  | .comes l k _ _ => { Z with kinds := putS Z.kinds l k }
  | .weds f m => { Z with mates := putS (putS Z.mates f m) m f, pairs := Z.pairs ++ [(f, m)] }
  | .born _ _ k l _ => { Z with kinds := putS Z.kinds l k }
  | .dies l => { Z with dead := Z.dead ++ [l] }
theorem look_put {l : List (Str × Str)} {x k y : Str} : look (putS l x k) y = if y = x then some k else look l y := by
  unfold putS
  split
  · rename_i h
    induction l with
    | nil => cases h
    | cons p l ih =>
      rw [List.map_cons]
      unfold look at ih h ⊢
      rw [List.find?_cons, List.find?_cons]
      by_cases h1 : p.1 = x
      · rw [if_pos h1]
        by_cases h2 : y = x
        · rw [if_pos h2, decide_eq_true (show p.1 = y by rw [h1, h2])]
          rfl
        · rw [if_neg h2, decide_eq_false (show ¬ p.1 = y from fun e => h2 (e.symm.trans h1))]
          by_cases h3 : (look l x).isSome = true
          · have z := ih h3
            rw [if_neg h2] at z
            exact z
          · have e : l.map (fun p => if p.1 = x then (p.1, k) else p) = l := by
              refine (List.map_congr_left (g := id) fun q hq => ?_).trans (List.map_id _)
              refine if_neg fun e => h3 ?_
              unfold look
              rw [Option.isSome_map]
              exact List.find?_isSome.mpr ⟨q, hq, decide_eq_true e⟩
            show ((l.map _).find? _).map _ = _
            rw [e]
      · rw [if_neg h1]
        rw [List.find?_cons, decide_eq_false h1] at h
        by_cases h4 : p.1 = y
        · rw [decide_eq_true h4, if_neg (fun e => h1 (h4.trans e))]
        · rw [decide_eq_false h4]
          exact ih h
  · rename_i h
    rw [look_app]
    by_cases h1 : y = x
    · rw [if_pos h1, h1]
      cases e : look l x with
      | some z => rw [e] at h; exact absurd rfl h
      | none => exact if_pos rfl
    · rw [if_neg h1]
      cases e : look l y with
      | some z => rfl
      | none => exact if_neg (Ne.symm h1)
theorem put_enc2 (l : List (Str × Str)) (x k : Str) : putK (encK l) (Sum.inr x) (.str k) = encK (putS l x k) := by
  unfold putS
  split
  · rename_i h
    have hany : (encK l).any (fun kv => decide (kv.1 = Sum.inr x)) = true := by
      have e : (valV (encK l) (Sum.inr x)).isSome = true := by rw [valV_enc, Option.isSome_map]; exact h
      obtain ⟨kv, hkv, ek⟩ := List.mem_map.mp (valV_out e)
      exact List.any_eq_true.mpr ⟨kv, hkv, decide_eq_true ek⟩
    unfold putK
    rw [if_pos hany]
    unfold encK
    rw [List.map_map, List.map_map]
    refine List.map_congr_left fun p _ => ?_
    show (if (Sum.inr p.1 : Key) = Sum.inr x then ((Sum.inr p.1 : Key), V.str k) else ((Sum.inr p.1 : Key), V.str p.2)) = _
    by_cases h1 : p.1 = x
    · rw [if_pos (by rw [h1])]
      show _ = ((Sum.inr (if p.1 = x then (p.1, k) else p).1 : Key), V.str (if p.1 = x then (p.1, k) else p).2)
      rw [if_pos h1]
    · rw [if_neg (fun e => h1 (Sum.inr.inj e))]
      show _ = ((Sum.inr (if p.1 = x then (p.1, k) else p).1 : Key), V.str (if p.1 = x then (p.1, k) else p).2)
      rw [if_neg h1]
  · rename_i h
    exact put_enc k (by
      cases e : look l x with
      | none => rfl
      | some z => rw [e] at h; exact absurd rfl h)
/-- the book and the law's state tell the same -/
structure Rel (B : Bk) (Z : St) : Prop where
  kinds : B.kinds = Z.kinds
  dead : B.dead = Z.dead
  pairs : B.pairs = Z.pairs
  now : ∀ x y, look B.now x = some y ↔ (look Z.mates x = some y ∧ ¬ x ∈ Z.dead ∧ ¬ y ∈ Z.dead)
  wed : ∀ f m, (f, m) ∈ Z.pairs → ¬ f ∈ Z.dead → ¬ m ∈ Z.dead → look Z.mates f = some m
theorem Rel.new : Rel Bk.new St.new := ⟨rfl, rfl, rfl, fun x y => ⟨fun h => (by cases h), fun h => (by cases h.1)⟩, fun f m h => by cases h⟩
theorem Rel.mate {B : Bk} {Z : St} (R : Rel B Z) {x : Str} (hx : ¬ x ∈ Z.dead) : (look B.now x).isSome = hasMate Z x := by
  unfold hasMate
  cases e : look Z.mates x with
  | none =>
    cases e2 : look B.now x with
    | none => rfl
    | some y =>
      have z := ((R.now x y).mp e2).1
      rw [e] at z
      cases z
  | some y =>
    by_cases h : y ∈ Z.dead
    · show (look B.now x).isSome = !decide (y ∈ Z.dead)
      rw [decide_eq_true h]
      cases e2 : look B.now x with
      | none => rfl
      | some y' =>
        obtain ⟨z1, _, z3⟩ := (R.now x y').mp e2
        rw [e] at z1
        cases z1
        exact absurd h z3
    · show (look B.now x).isSome = !decide (y ∈ Z.dead)
      rw [decide_eq_false h, (R.now x y).mpr ⟨e, hx, h⟩]
      rfl
theorem Rel.couple {B : Bk} {Z : St} (R : Rel B Z) (f m : Str) : coupleB B f m = true ↔ ¬ (¬ (f, m) ∈ Z.pairs ∨ f ∈ Z.dead ∨ m ∈ Z.dead) := by
  unfold coupleB
  rw [R.pairs]
  refine ⟨fun h => ?_, fun h => ?_⟩
  · obtain ⟨a, b⟩ := Bool.and_eq_true_iff.mp h
    obtain ⟨_, h2, h3⟩ := (R.now f m).mp (of_decide_eq_true b)
    exact fun z => z.elim (fun y => y (of_decide_eq_true a)) fun y => y.elim h2 h3
  · have h1 : (f, m) ∈ Z.pairs := Decidable.byContradiction fun z => h (.inl z)
    have h2 : ¬ f ∈ Z.dead := fun z => h (.inr (.inl z))
    have h3 : ¬ m ∈ Z.dead := fun z => h (.inr (.inr z))
    exact Bool.and_eq_true_iff.mpr ⟨decide_eq_true h1, decide_eq_true ((R.now f m).mpr ⟨R.wed f m h1 h2 h3, h2, h3⟩)⟩
theorem Rel.judge {B : Bk} {Z : St} (R : Rel B Z) (wd : Int) (r : Rw) : jP B wd r = jL Z wd r := by
  have hk := R.kinds
  have hd := R.dead
  cases r with
  | comes l k n hs =>
    show jPc B wd l hs = jLc Z wd l hs
    unfold jPc jLc lacks
    rw [hk]
    cases look Z.kinds l <;> rfl
  | dies l =>
    show jPd B l = jLd Z l
    unfold jPd jLd lacks
    rw [hk, hd]
  | born f m k l n =>
    show jPb B f m l = jLb Z f m l
    unfold jPb jLb lacks
    rw [hk]
    by_cases h1 : ((look Z.kinds f).isNone || (look Z.kinds m).isNone) = true
    · rw [if_pos h1, if_pos h1]
    · rw [if_neg h1, if_neg h1]
      by_cases h2 : coupleB B f m = true
      · rw [if_pos h2, if_neg ((R.couple f m).mp h2)]
        cases look Z.kinds l <;> rfl
      · rw [if_neg h2, if_pos (Decidable.byContradiction fun z => h2 ((R.couple f m).mpr z))]
  | weds f m =>
    show jPw B f m = jLw Z f m
    unfold jPw jLw lacks
    rw [hk, hd]
    by_cases h1 : ((look Z.kinds f).isNone || (look Z.kinds m).isNone) = true
    · rw [if_pos h1, if_pos h1]
    rw [if_neg h1, if_neg h1]
    by_cases h2 : look Z.kinds f ≠ some sonK ∨ look Z.kinds m ≠ some dauK
    · rw [if_pos h2, if_pos h2]
    rw [if_neg h2, if_neg h2]
    by_cases h3 : f ∈ Z.dead ∨ m ∈ Z.dead
    · rw [if_pos h3, if_pos h3]
    rw [if_neg h3, if_neg h3, R.mate (fun z => h3 (.inl z)), R.mate (fun z => h3 (.inr z))]
theorem put_new {l : List (Str × Str)} {x k : Str} (h : look l x = none) : putS l x k = l ++ [(x, k)] := by
  unfold putS
  rw [h]
  rfl
theorem Rel.step {B : Bk} {Z : St} {wd : Int} {r : Rw} (R : Rel B Z) (o : BkOk B) (h : jP B wd r = none) : Rel (wP B r) (eL Z r) := by
  cases r with
  | comes l k n hs =>
    have e := (jP_comes h).1
    refine ⟨?_, R.dead, R.pairs, R.now, R.wed⟩
    show B.kinds ++ [(l, k)] = putS Z.kinds l k
    rw [← R.kinds, put_new e]
  | born f m k l n =>
    have e := (jP_born h).2.2
    refine ⟨?_, R.dead, R.pairs, R.now, R.wed⟩
    show B.kinds ++ [(l, k)] = putS Z.kinds l k
    rw [← R.kinds, put_new e]
  | weds f m =>
    obtain ⟨_, _, _, _, df, dm, nf, nm, fm⟩ := jP_weds h
    have df : ¬ f ∈ Z.dead := R.dead ▸ df
    have dm : ¬ m ∈ Z.dead := R.dead ▸ dm
    have new : ¬ (f, m) ∈ Z.pairs := fun z => by
      have y := (R.now f m).mpr ⟨R.wed f m z df dm, df, dm⟩
      rw [nf] at y
      cases y
    have keyN : ∀ x, look (B.now ++ [(f, m)] ++ [(m, f)]) x = if x = f then some m else if x = m then some f else look B.now x := fun x => by
      rw [look_app, look_app]
      by_cases h1 : x = f
      · rw [h1, nf, if_pos rfl, if_pos rfl]
      · rw [if_neg h1]
        by_cases h2 : x = m
        · rw [h2, nm, if_neg (fun e => fm e), if_pos rfl]
        · rw [if_neg h2]
          cases e : look B.now x with
          | some z => rfl
          | none => rw [if_neg (Ne.symm h1), if_neg (Ne.symm h2)]
    have keyM : ∀ x, look (putS (putS Z.mates f m) m f) x = if x = f then some m else if x = m then some f else look Z.mates x := fun x => by
      rw [look_put, look_put]
      by_cases h1 : x = f
      · rw [if_pos h1, if_pos h1, if_neg (fun e => fm (h1.symm.trans e))]
      · rw [if_neg h1, if_neg h1]
    refine ⟨R.kinds, R.dead, ?_, fun x y => ?_, fun f' m' hp d1 d2 => ?_⟩
    · show (if (f, m) ∈ B.pairs then B.pairs else B.pairs ++ [(f, m)]) = Z.pairs ++ [(f, m)]
      rw [R.pairs, if_neg new]
    · show look (B.now ++ [(f, m)] ++ [(m, f)]) x = some y ↔ (look (putS (putS Z.mates f m) m f) x = some y ∧ ¬ x ∈ Z.dead ∧ ¬ y ∈ Z.dead)
      rw [keyN, keyM]
      by_cases h1 : x = f
      · rw [if_pos h1, if_pos h1]
        exact ⟨(fun z => by cases z; exact ⟨rfl, h1 ▸ df, dm⟩), fun z => z.1⟩
      · rw [if_neg h1, if_neg h1]
        by_cases h2 : x = m
        · rw [if_pos h2, if_pos h2]
          exact ⟨(fun z => by cases z; exact ⟨rfl, h2 ▸ dm, df⟩), fun z => z.1⟩
        · rw [if_neg h2, if_neg h2]
          exact R.now x y
    · show look (putS (putS Z.mates f m) m f) f' = some m'
      rw [keyM]
      have d1 : ¬ f' ∈ Z.dead := d1
      have d2 : ¬ m' ∈ Z.dead := d2
      rcases List.mem_append.mp (show (f', m') ∈ Z.pairs ++ [(f, m)] from hp) with hp | hp
      · have e := R.wed f' m' hp d1 d2
        have y := (R.now f' m').mpr ⟨e, d1, d2⟩
        rw [if_neg (fun q => by rw [q, nf] at y; cases y), if_neg (fun q => by rw [q, nm] at y; cases y)]
        exact e
      · rw [List.mem_singleton] at hp
        cases hp
        rw [if_pos rfl]
  | dies l =>
    refine ⟨R.kinds, ?_, R.pairs, fun x y => ?_, fun f m hp d1 d2 => R.wed f m hp (fun z => d1 (List.mem_append.mpr (.inl z))) fun z => d2 (List.mem_append.mpr (.inl z))⟩
    · show B.dead ++ [l] = Z.dead ++ [l]
      rw [R.dead]
    · have sp : ∀ z, ¬ z ∈ Z.dead ++ [l] ↔ (¬ z ∈ Z.dead ∧ z ≠ l) := fun z => ⟨fun q => ⟨fun w => q (List.mem_append.mpr (.inl w)), fun w => q (List.mem_append.mpr (.inr (List.mem_singleton.mpr w)))⟩, fun q w => (List.mem_append.mp w).elim q.1 fun w => q.2 (List.mem_singleton.mp w)⟩
      show look (match look B.now l with | none => B.now | some y => without (without B.now y) l) x = some y ↔ (look Z.mates x = some y ∧ ¬ x ∈ Z.dead ++ [l] ∧ ¬ y ∈ Z.dead ++ [l])
      rw [sp, sp]
      cases e : look B.now l with
      | none =>
        refine (R.now x y).trans ⟨fun q => ⟨q.1, ⟨q.2.1, fun w => ?_⟩, q.2.2, fun w => ?_⟩, fun q => ⟨q.1, q.2.1.1, q.2.2.1⟩⟩
        · have z := (R.now x y).mpr q
          rw [w, e] at z
          cases z
        · have z := o.sym x y ((R.now x y).mpr q)
          rw [w, e] at z
          cases z
      | some v =>
        show look (without (without B.now v) l) x = some y ↔ _
        rw [look_without, look_without]
        by_cases h1 : x = l
        · rw [if_pos h1]
          exact ⟨(fun z => by cases z), fun z => absurd h1 z.2.1.2⟩
        rw [if_neg h1]
        by_cases h2 : x = v
        · rw [if_pos h2]
          refine ⟨(fun z => by cases z), fun z => ?_⟩
          have back := o.sym l v e
          have w := (R.now x y).mpr ⟨z.1, z.2.1.1, z.2.2.1⟩
          rw [h2, back] at w
          cases w
          exact absurd rfl z.2.2.2
        · rw [if_neg h2]
          refine (R.now x y).trans ⟨fun q => ⟨q.1, ⟨q.2.1, h1⟩, q.2.2, fun w => ?_⟩, fun q => ⟨q.1, q.2.1.1, q.2.2.1⟩⟩
          have z := o.sym x y ((R.now x y).mpr q)
          rw [w, e] at z
          exact h2 (Option.some.inj z).symm
/-- the law's own count -/
def jLO (Z : St) (wd : Int) : Option Rw → Option Str
  | none => some "row"
  | some r => jL Z wd r
def eLO (Z : St) : Option Rw → St
  | none => Z
  | some r => eL Z r
def dueO (wd : Int) : St → Nat → List (Option Rw) → Option (Nat × Str)
  | _, _, [] => none
  | Z, i, o :: os => match jLO Z wd o with
    | some z => some (i, z)
    | none => dueO wd (eLO Z o) (i + 1) os
theorem due_is {wd : Int} : ∀ (os : List (Option Rw)) {B : Bk} {Z : St} {i : Nat}, Rel B Z → BkOk B → faultO wd B i os = dueO wd Z i os
  | [], _, _, _, _, _ => rfl
  | none :: os, B, Z, i, R, o => rfl
  | some r :: os, B, Z, i, R, o => by
    show (match jP B wd r with | some z => some (i, z) | none => faultO wd (wP B r) (i + 1) os) = (match jL Z wd r with | some z => some (i, z) | none => dueO wd (eL Z r) (i + 1) os)
    rw [← R.judge wd r]
    cases e : jP B wd r with
    | some z => rfl
    | none => exact due_is os (R.step o e) (o.step e)
theorem due_new {wd : Int} (os : List (Option Rw)) : faultO wd Bk.new 0 os = dueO wd St.new 0 os := due_is os Rel.new BkOk.new
end K04

/-! the law's labels -/
namespace K04
open PySem PySem.Spec PyProof.Rows L2
/-- three letters at most, the last one is the k-th -/
def EndsAt (x : Str) (k : Nat) : Prop := x.length ≤ 3 ∧ x.cps.toList.getLast? = some (97 + k)
theorem EndsAt.inj {x : Str} {j k : Nat} (h : EndsAt x j) (g : EndsAt x k) : j = k := by
  have h := h.2
  have g := g.2
  rw [h] at g
  have := Option.some.inj g
  omega
theorem letter_is {k : Nat} (h1 : k < 26) : atI lettersS.cps.toList (k : Int) = some (97 + k) ∧ lowC (97 + k) = true := by
  have e : lettersS.cps.toList[k]? = some (97 + k) := by
    rw [letters_are, List.getElem?_map, List.getElem?_range (by omega)]
    show some (k + 97) = _
    rw [Nat.add_comm]
  refine ⟨atI_nat e, ?_⟩
  unfold lowC
  rw [lt_one, lt_one, decide_eq_false (by omega), decide_eq_false (by omega)]
  rfl
def spLbl : Sp := fun vs H Q _ => ∃ (p l : Addr) (k : Nat), vs = [.ref p, .int (k : Int)] ∧ Hand p l H ∧ k < 26 ∧ ∀ (x : Str) (H' : Hp), Lab x → EndsAt x k → Kept p H H' → Hand p l H' → Q (.str x) H'
section
variable {P : Program} {w : World} {K : PySem.W.Frag} {mg : Str → Option Value} {base : Heap}
theorem ok_lbl {f fD : Addr} {fd fdD : FuncData} (F : FnP K "_law_label" sLabel f fd) (z_range : mg "range" = none) (dD : Df P w K mg base "_law_draw" 2 ["_law_hand_here", "_law_many"] spDr fD fdD) : FnOk P w K mg base CX0 3 f fd ["_law_hand_here", "_law_k"] spLbl := by
  have sc : FnScope ["_law_hand_here", "_law_k", "_law_letters", "_law_word", "_law_j"] ["_law_hand_here", "_law_k"] (defScope sLabel) := ⟨rfl, rfl, rfl, by decide +kernel, rfl, by decide +kernel, by decide +kernel⟩
  refine F.ok sc (fun vs H Q E h => ?_) (fun cdv A outer s H vs Q E hr2 h => ?_)
  · obtain ⟨p, l, k, rfl, _⟩ := h
    rfl
  · obtain ⟨p, l, k, rfl, hp, k26, q⟩ := h
    refine ⟨_, PSs.nox (pss_cons (ps_set (i := 2) sc.nd rfl (.inl rfl) pe_str)
    (pss_cons (ps_set (i := 3) sc.nd rfl (.inl rfl) pe_str)
    (pss_cons (ps_for PassesOwn.never rfl (pi_range1 (by rfl) z_range (pa_cons (pe_call dD.ok hr2 (by rfl) dD.gl dD.kp dD.bi .nil pass0 (pa_cons (pv 0) (pa_cons pe_int pa_nil))) pa_nil)) (pg_name (i := 4) sc.nd rfl (.inl rfl))
      (pss_one (ps_set (i := 3) sc.nd rfl (.inl rfl) (pe_op op_add_str (pv 3) (pe_ix ix_str (pv 2) (pe_call dD.ok hr2 (by rfl) dD.gl dD.kp dD.bi .nil pass0 (pa_cons (pv 0) (pa_cons pe_int pa_nil))) (fun _ _ => rfl))))))
    (pss_one (ps_ret (pe_op op_add_str (pv 3) (pe_ix ix_str (pv 2) (pv 1) (fun _ _ => rfl)))))))), ?_⟩
    refine ⟨_, rfl, p, l, 3, rfl, hp, by decide, by decide, fun d H1 d0 d1 k1 h1 => ⟨d, rfl, by omega, by omega, for_it walk_range (fun i σ H' => ∃ (x : Str) (x4 : Option V), σ = [some (.ref p), some (.int (k : Int)), some (.str lettersS), some (.str x), x4] ∧ Wd x i ∧ Kept p H H' ∧ Hand p l H') ⟨"", none, rfl, ⟨Nat.le_refl _, rfl, by unfold layS; decide +kernel⟩, k1, h1⟩ (fun _ _ _ _ _ => trivial) ?_ ?_⟩⟩
    · rintro i y σ H2 H3 hi ⟨x, x4, rfl, hx, k2, h2⟩ ⟨rfl, rfl⟩
      have hi' : i < 3 := by omega
      refine ⟨_, rfl, _, rfl, _, rfl, p, l, 26, rfl, h2, by decide, by decide, fun e H4 e0 e1 k4 h4 => ?_⟩
      obtain ⟨c, ec, hc⟩ := letter_at e0 e1
      refine ⟨_, _, c, rfl, rfl, by decide +kernel, ec, _, _, rfl, rfl, ?_, ?_⟩
      · show x.length + 1 ≤ sizeLine
        exact Nat.le_trans (Nat.succ_le_succ (Nat.le_trans hx.len (Nat.le_of_lt hi'))) (by decide)
      · exact ⟨_, _, rfl, hx.snoc hc, k2.trans k4, h4⟩
    · rintro σ H2 ⟨x, x4, rfl, hx, k2, h2⟩
      have hd : d.toNat ≤ 2 := by omega
      obtain ⟨ec, hc⟩ := letter_is k26
      refine ⟨_, rfl, _, rfl, _, rfl, _, _, 97 + k, rfl, rfl, by decide +kernel, ec, _, _, rfl, rfl, ?_, ?_⟩
      · show x.length + 1 ≤ sizeLine
        exact Nat.le_trans (Nat.succ_le_succ (Nat.le_trans hx.len hd)) (by decide)
      · refine q _ _ (hx.lab (by omega) hc) ⟨?_, ?_⟩ k2 h2
        · rw [len_app]
          have := hx.len
          omega
        show (x.cps ++ #[97 + k]).toList.getLast? = _
        rw [Array.toList_append]
        simp
end
end K04

/-! what the law keeps of its own record, as a model -/
namespace K04
open PySem PySem.Spec PyProof.Rows L2
/-- a dict with the keys of kinds -/
def dic (f : Str → V) (L : List (Str × Str)) : List (Key × V) := L.map fun q => (Sum.inr q.1, f q.1)
theorem valV_dic (f : Str → V) (x : Str) : ∀ L : List (Str × Str), valV (dic f L) (Sum.inr x) = if (look L x).isSome = true then some (f x) else none
  | [] => rfl
  | q :: L => by
    show valV ((Sum.inr q.1, f q.1) :: dic f L) (Sum.inr x) = _
    by_cases h : q.1 = x
    · rw [valV_pos (by rw [h])]
      have e : (look (q :: L) x).isSome = true := by
        unfold look
        rw [List.find?_cons, decide_eq_true h]
        rfl
      rw [if_pos e, h]
    · rw [valV_neg (fun z => h (Sum.inr.inj z)), valV_dic f x L]
      have e : look (q :: L) x = look L x := by
        unfold look
        rw [List.find?_cons, decide_eq_false h]
      rw [e]
theorem dic_any (f : Str → V) (x : Str) (L : List (Str × Str)) : ((dic f L).any fun kv => decide (kv.1 = (Sum.inr x : Key))) = (look L x).isSome := by
  induction L with
  | nil => rfl
  | cons q L ih =>
    show (decide ((Sum.inr q.1 : Key) = Sum.inr x) || (dic f L).any fun kv => decide (kv.1 = (Sum.inr x : Key))) = _
    unfold look
    rw [List.find?_cons]
    by_cases h : q.1 = x
    · rw [decide_eq_true (show (Sum.inr q.1 : Key) = Sum.inr x by rw [h]), decide_eq_true h]
      rfl
    · rw [decide_eq_false (fun z => h (Sum.inr.inj z)), decide_eq_false h, Bool.false_or]
      exact ih
theorem put_old {f : Str → V} {x : Str} {L : List (Str × Str)} {v : V} (h : (look L x).isSome = true) : putK (dic f L) (Sum.inr x) v = dic (fun y => if y = x then v else f y) L := by
  unfold putK
  rw [if_pos (by rw [dic_any]; exact h)]
  unfold dic
  rw [List.map_map]
  refine List.map_congr_left fun q _ => ?_
  show (if (Sum.inr q.1 : Key) = Sum.inr x then ((Sum.inr q.1 : Key), v) else ((Sum.inr q.1 : Key), f q.1)) = ((Sum.inr q.1 : Key), if q.1 = x then v else f q.1)
  by_cases z : q.1 = x
  · rw [if_pos (by rw [z]), if_pos z]
  · rw [if_neg (fun e => z (Sum.inr.inj e)), if_neg z]
theorem put_fresh {f : Str → V} {x : Str} {L : List (Str × Str)} {v : V} (h : look L x = none) : putK (dic f L) (Sum.inr x) v = dic f L ++ [(Sum.inr x, v)] := by
  unfold putK
  rw [if_neg (by rw [dic_any, h]; exact Bool.false_ne_true)]
theorem dic_congr {f g : Str → V} {L : List (Str × Str)} (h : ∀ x, (look L x).isSome = true → f x = g x) : dic f L = dic g L := by
  unfold dic
  refine List.map_congr_left fun q hq => ?_
  have e : (look L q.1).isSome = true := by
    unfold look
    rw [Option.isSome_map]
    exact List.find?_isSome.mpr ⟨q, hq, decide_eq_true rfl⟩
  rw [h q.1 e]
def fA (Z : St) (x : Str) : V := .bl (!decide (x ∈ Z.dead))
def fM (Z : St) (x : Str) : V := optV (look Z.mates x)
def pairD (p : Str × Str) : PyData := .tuple [.str p.1, .str p.2]
theorem noL_pairs : ∀ ps : List (Str × Str), noLAll (ps.map pairD) = true
  | [] => rfl
  | p :: ps => noL_pairs ps
/-- what holds of it after n rows -/
structure FrOk (Z : St) (n : Nat) : Prop where
  km : ∀ x k, look Z.kinds x = some k → k = sonK ∨ k = dauK
  ma : ∀ x y, look Z.mates x = some y → (look Z.kinds x).isSome = true ∧ (look Z.kinds y).isSome = true
  pk : ∀ q ∈ Z.pairs, (look Z.kinds q.1).isSome = true ∧ (look Z.kinds q.2).isSome = true
  dk : ∀ x ∈ Z.dead, (look Z.kinds x).isSome = true
  lb : ∀ x, (look Z.kinds x).isSome = true → Lab x ∧ ∃ j, j < n ∧ EndsAt x j
  sk : Z.kinds.length ≤ n
  sp : Z.pairs.length ≤ n
theorem FrOk.new : FrOk St.new 0 := ⟨fun _ _ h => (by cases h), fun _ _ h => (by cases h), fun _ h => (by cases h), fun _ h => (by cases h), fun _ h => (by cases h), Nat.le_refl _, Nat.le_refl _⟩
theorem FrOk.fresh {Z : St} {n : Nat} (h : FrOk Z n) {x : Str} (e : EndsAt x n) : look Z.kinds x = none := by
  cases z : look Z.kinds x with
  | none => rfl
  | some k =>
    obtain ⟨_, j, hj, ej⟩ := h.lb x (by rw [z]; rfl)
    have := e.inj ej
    omega
theorem FrOk.come {Z : St} {n : Nat} (h : FrOk Z n) {x k : Str} (hk : k = sonK ∨ k = dauK) (lx : Lab x) (e : EndsAt x n) : FrOk { Z with kinds := Z.kinds ++ [(x, k)] } (n + 1) := by
  have fr := h.fresh e
  have lk : ∀ y, look (Z.kinds ++ [(x, k)]) y = match look Z.kinds y with | some z => some z | none => if x = y then some k else none := fun y => look_app ..
  have old : ∀ y, (look Z.kinds y).isSome = true → (look (Z.kinds ++ [(x, k)]) y).isSome = true := fun y hy => by
    rw [lk y]
    cases z : look Z.kinds y with
    | none => rw [z] at hy; cases hy
    | some u => rfl
  refine ⟨fun y u hy => ?_, fun a b hab => ⟨old _ (h.ma a b hab).1, old _ (h.ma a b hab).2⟩, fun q hq => ⟨old _ (h.pk q hq).1, old _ (h.pk q hq).2⟩, fun y hy => old _ (h.dk y hy), fun y hy => ?_, ?_, Nat.le_succ_of_le h.sp⟩
  · have hy : look (Z.kinds ++ [(x, k)]) y = some u := hy
    rw [lk y] at hy
    cases z : look Z.kinds y with
    | some u' => rw [z] at hy; cases hy; exact h.km y _ z
    | none =>
      rw [z] at hy
      have hy : (if x = y then some k else none) = some u := hy
      split at hy
      · cases hy; exact hk
      · cases hy
  · have hy : (look (Z.kinds ++ [(x, k)]) y).isSome = true := hy
    rw [lk y] at hy
    cases z : look Z.kinds y with
    | some u' =>
      obtain ⟨l1, j, hj, ej⟩ := h.lb y (by rw [z]; rfl)
      exact ⟨l1, j, by omega, ej⟩
    | none =>
      rw [z] at hy
      have hy : (if x = y then some k else none).isSome = true := hy
      split at hy
      · rename_i xy
        exact ⟨xy ▸ lx, n, by omega, xy ▸ e⟩
      · cases hy
  · show (Z.kinds ++ [(x, k)]).length ≤ n + 1
    rw [List.length_append]
    exact Nat.succ_le_succ h.sk
theorem FrOk.die {Z : St} {n : Nat} (h : FrOk Z n) {x : Str} (hx : (look Z.kinds x).isSome = true) : FrOk { Z with dead := Z.dead ++ [x] } (n + 1) :=
  ⟨h.km, h.ma, h.pk, fun y hy => by
    rcases List.mem_append.mp hy with hy | hy
    · exact h.dk y hy
    · rw [List.mem_singleton.mp hy]; exact hx, fun y hy => by obtain ⟨l1, j, hj, ej⟩ := h.lb y hy; exact ⟨l1, j, by omega, ej⟩, Nat.le_succ_of_le h.sk, Nat.le_succ_of_le h.sp⟩
theorem FrOk.wed {Z : St} {n : Nat} (h : FrOk Z n) {f m : Str} (hf : (look Z.kinds f).isSome = true) (hm : (look Z.kinds m).isSome = true) : FrOk (eL Z (.weds f m)) (n + 1) := by
  refine ⟨h.km, fun a b hab => ?_, fun q hq => ?_, h.dk, fun y hy => by obtain ⟨l1, j, hj, ej⟩ := h.lb y hy; exact ⟨l1, j, by omega, ej⟩, Nat.le_succ_of_le h.sk, ?_⟩
  · have hab : look (putS (putS Z.mates f m) m f) a = some b := hab
    rw [look_put, look_put] at hab
    split at hab
    · rename_i z; cases hab; exact ⟨z ▸ hm, hf⟩
    · split at hab
      · rename_i z; cases hab; exact ⟨z ▸ hf, hm⟩
      · exact h.ma a b hab
  · have hq : q ∈ Z.pairs ++ [(f, m)] := hq
    rcases List.mem_append.mp hq with hq | hq
    · exact h.pk q hq
    · rw [List.mem_singleton.mp hq]; exact ⟨hf, hm⟩
  · show (Z.pairs ++ [(f, m)]).length ≤ n + 1
    rw [List.length_append]
    exact Nat.succ_le_succ h.sp
end K04

/-! where the law's own record stands while it is made -/
namespace K04
open PySem PySem.Spec PyProof.Rows L2
def forBody : Stmt → List Stmt
  | .For _ _ b _ _ => b
  | _ => []
abbrev sFr : List Stmt := forBody ((defBody sFreeRecord).getD 1 (.Pass ⟨0, 0, 0, 0⟩))
abbrev nmF : List Str := ["_law_hand_here", "_law_many", "_law_width", "_law_rows", "_law_kinds", "_law_alive", "_law_mates", "_law_pairs", "_law_k", "_law_label_here", "_law_sort", "_law_unwed", "_law_one", "_law_sons", "_law_daughters", "_law_couples", "_law_pair", "_law_living", "_law_row", "_law_kind", "_law_j"]
theorem scFree : FnScope nmF ["_law_hand_here", "_law_many", "_law_width"] (defScope sFreeRecord) := ⟨rfl, rfl, rfl, by decide +kernel, rfl, by decide +kernel, by decide +kernel⟩
/-- the places -/
structure Fp where
  p : Addr
  l : Addr
  D : Addr
  k : Addr
  a : Addr
  m : Addr
  p2 : Addr
structure FpOk' (F : Fp) : Prop where
  Dp : F.D ≠ F.p
  Dl : F.D ≠ F.l
  D2 : F.D ≠ F.p2
  p2p : F.p2 ≠ F.p
  p2l : F.p2 ≠ F.l
  ka : F.k ≠ F.a
  km : F.k ≠ F.m
  am : F.a ≠ F.m
/-- the dicts as they stand: ks the entries of kinds, ls those of the two others -/
structure FrAt (F : Fp) (H : Hp) (ks ls : List (Str × Str)) (Z : St) (vs : List V) (os : List (Option Rw)) : Prop where
  hand : Hand F.p F.l H
  hD : H F.D = some (.lst vs)
  its : DtAll Any H vs (os.map datO)
  hk : H F.k = some (.dK (encK ks))
  ha : H F.a = some (.dK (dic (fA Z) ls))
  hm : H F.m = some (.dK (dic (fM Z) ls))
  hp : ∃ ts, H F.p2 = some (.lst ts) ∧ DtAll Any H ts (Z.pairs.map pairD)
section
variable {F : Fp} {H H' : Hp} {ks ls : List (Str × Str)} {Z : St} {vs : List V} {os : List (Option Rw)}
theorem FrAt.same (h : FrAt F H ks ls Z vs os) (s : Same H H') : FrAt F H' ks ls Z vs os := by
  obtain ⟨ts, e, d⟩ := h.hp
  exact ⟨h.hand.same s, s _ _ h.hD, h.its.same s, s _ _ h.hk, s _ _ h.ha, s _ _ h.hm, ts, s _ _ e, d.same s⟩
theorem FrAt.kept (h : FrAt F H ks ls Z vs os) (o : FpOk' F) (kk : Kept F.p H H') (hh : Hand F.p F.l H') : FrAt F H' ks ls Z vs os := by
  obtain ⟨ts, e, d⟩ := h.hp
  obtain ⟨xs, ep⟩ := h.hand.at_
  have t : ∀ a ys, H a = some (.tup ys) → H' a = some (.tup ys) := fun a ys ea => kk _ _ (ne_of ea ep (by intro z; cases z)) ea
  exact ⟨hh, kk _ _ o.Dp h.hD, h.its.tups (noL_dat os) fun a ys _ ea => t a ys ea, kk _ _ (ne_of h.hk ep (by intro z; cases z)) h.hk, kk _ _ (ne_of h.ha ep (by intro z; cases z)) h.ha, kk _ _ (ne_of h.hm ep (by intro z; cases z)) h.hm, ts, kk _ _ o.p2p e, d.tups (noL_pairs _) fun a ys _ ea => t a ys ea⟩
/-- one place written: what the tuples say stays -/
theorem upd_tups {b : Addr} {u o : HO} (hb : H b = some u) (nt : ∀ ys, u ≠ .tup ys) : ∀ a ys, H a = some (.tup ys) → upd H b o a = some (.tup ys) := fun a ys ea => (upd_ne (ne_of ea hb (nt ys).symm)).trans ea
theorem Hand.upd_other {b : Addr} {o : HO} {p l : Addr} (h : Hand p l H) (n1 : b ≠ p) (n2 : b ≠ l) : Hand p l (upd H b o) := h.app n1 n2
theorem FrAt.nk (h : FrAt F H ks ls Z vs os) : (F.k ≠ F.p ∧ F.k ≠ F.l ∧ F.k ≠ F.D ∧ F.k ≠ F.p2) ∧ (F.a ≠ F.p ∧ F.a ≠ F.l ∧ F.a ≠ F.D ∧ F.a ≠ F.p2) ∧ (F.m ≠ F.p ∧ F.m ≠ F.l ∧ F.m ≠ F.D ∧ F.m ≠ F.p2) := by
  obtain ⟨ts, e, d⟩ := h.hp
  obtain ⟨cells, i, r, t, h1, h2, h3⟩ := h.hand
  refine ⟨⟨ne_of h.hk h1 (by intro z; cases z), ne_of h.hk h2 (by intro z; cases z), ne_of h.hk h.hD (by intro z; cases z), ne_of h.hk e (by intro z; cases z)⟩,
    ⟨ne_of h.ha h1 (by intro z; cases z), ne_of h.ha h2 (by intro z; cases z), ne_of h.ha h.hD (by intro z; cases z), ne_of h.ha e (by intro z; cases z)⟩,
    ⟨ne_of h.hm h1 (by intro z; cases z), ne_of h.hm h2 (by intro z; cases z), ne_of h.hm h.hD (by intro z; cases z), ne_of h.hm e (by intro z; cases z)⟩⟩
theorem FrAt.put_k (h : FrAt F H ks ls Z vs os) (o : FpOk' F) (ks' : List (Str × Str)) : FrAt F (upd H F.k (.dK (encK ks'))) ks' ls Z vs os := by
  obtain ⟨⟨n1, n2, n3, n4⟩, _, _⟩ := h.nk
  obtain ⟨ts, e, d⟩ := h.hp
  have t := upd_tups (o := .dK (encK ks')) h.hk (fun ys z => by cases z)
  exact ⟨h.hand.app n1 n2, (upd_ne (Ne.symm n3)).trans h.hD, h.its.tups (noL_dat os) fun a ys _ ea => t a ys ea, upd_same, (upd_ne (Ne.symm o.ka)).trans h.ha, (upd_ne (Ne.symm o.km)).trans h.hm, ts, (upd_ne (Ne.symm n4)).trans e, d.tups (noL_pairs _) fun a ys _ ea => t a ys ea⟩
theorem FrAt.push (h : FrAt F H ks ls Z vs os) (o : FpOk' F) {t : Addr} {r : Rw} (ht : Dt Any H (.ref t) r.data) : FrAt F (upd H F.D (.lst (vs ++ [.ref t]))) ks ls Z (vs ++ [.ref t]) (os ++ [some r]) := by
  obtain ⟨⟨_, _, n3, _⟩, ⟨_, _, m3, _⟩, ⟨_, _, q3, _⟩⟩ := h.nk
  obtain ⟨ts, e, d⟩ := h.hp
  have tt := upd_tups (o := .lst (vs ++ [.ref t])) h.hD (fun ys z => by cases z)
  refine ⟨h.hand.app o.Dp o.Dl, upd_same, ?_, (upd_ne n3).trans h.hk, (upd_ne m3).trans h.ha, (upd_ne q3).trans h.hm, ts, (upd_ne (Ne.symm o.D2)).trans e, d.tups (noL_pairs _) fun a ys _ ea => tt a ys ea⟩
  rw [List.map_append]
  refine (h.its.tups (noL_dat os) fun a ys _ ea => tt a ys ea).app (.cons (ht.tups (Rw.noL r) fun a ys _ ea => tt a ys ea) .nil)
end
end K04

/-! the end of a turn of the law's own record -/
namespace K04
open PySem PySem.Spec PyProof.Rows L2
def wordR : Rw → Str
  | .comes _ _ _ _ => "comes"
  | .weds _ _ => "weds"
  | .born _ _ _ _ _ => "born"
  | .dies _ => "dies"
def newR : Rw → Bool
  | .comes _ _ _ _ => true
  | .born _ _ _ _ _ => true
  | _ => false
theorem word_at {H : Hp} {t : Addr} {r : Rw} (h : Dt Any H (.ref t) r.data) : ∃ xs, H t = some (.tup (.str (wordR r) :: xs)) := by
  cases r with
  | comes a b c d =>
    cases h with | tup _ e rs =>
    cases rs with | cons g0 rs =>
    obtain rfl := g0.str_inv.1
    exact ⟨_, e⟩
  | weds a b =>
    cases h with | tup _ e rs =>
    cases rs with | cons g0 rs =>
    obtain rfl := g0.str_inv.1
    exact ⟨_, e⟩
  | born a b c d e' =>
    cases h with | tup _ e rs =>
    cases rs with | cons g0 rs =>
    obtain rfl := g0.str_inv.1
    exact ⟨_, e⟩
  | dies a =>
    cases h with | tup _ e rs =>
    cases rs with | cons g0 rs =>
    obtain rfl := g0.str_inv.1
    exact ⟨_, e⟩
/-- between two turns: n rows -/
def FrI (F : Fp) (wd many n : Nat) (σ : L2.St) (H : Hp) : Prop := ∃ (y : Fin 13 → Option V) (Z : St) (vs : List V) (os : List (Option Rw)),
  σ = [some (.ref F.p), some (.int (many : Int)), some (.int (wd : Int)), some (.ref F.D), some (.ref F.k), some (.ref F.a), some (.ref F.m), some (.ref F.p2), y 0, y 1, y 2, y 3, y 4, y 5, y 6, y 7, y 8, y 9, y 10, y 11, y 12] ∧
  FrAt F H Z.kinds Z.kinds Z vs os ∧ FrOk Z n ∧ vs.length = n ∧ dueO wd St.new 0 os = none ∧ os.foldl eLO St.new = Z ∧ RowsD (os.map datO) os ∧ ∀ o ∈ os, ∃ r, o = some r
/-- the row is made -/
def FrU (F : Fp) (wd many n : Nat) (σ : L2.St) (H : Hp) : Prop := ∃ (y : Fin 11 → Option V) (x : Str) (t : Addr) (r : Rw) (Z Z' : St) (ls : List (Str × Str)) (vs : List V) (os : List (Option Rw)),
  σ = [some (.ref F.p), some (.int (many : Int)), some (.int (wd : Int)), some (.ref F.D), some (.ref F.k), some (.ref F.a), some (.ref F.m), some (.ref F.p2), y 0, some (.str x), y 2, y 3, y 4, y 5, y 6, y 7, y 8, y 9, some (.ref t), y 1, y 10] ∧
  FrAt F H Z'.kinds ls Z' vs os ∧ (if newR r = true then (∃ kk, Z'.kinds = ls ++ [(x, kk)]) ∧ look ls x = none ∧ ¬ x ∈ Z'.dead ∧ look Z'.mates x = none else ls = Z'.kinds) ∧
  FrOk Z' (n + 1) ∧ vs.length = n ∧ dueO wd St.new 0 os = none ∧ os.foldl eLO St.new = Z ∧ RowsD (os.map datO) os ∧ (∀ o ∈ os, ∃ r, o = some r) ∧ Dt Any H (.ref t) r.data ∧ jL Z wd r = none ∧ eL Z r = Z' ∧ RowD r.data (some r) ∧ okD r.data
theorem due_snoc {wd : Int} {os : List (Option Rw)} {o : Option Rw} {Z : St} (h : dueO wd St.new 0 os = none) (e : os.foldl eLO St.new = Z) (j : jLO Z wd o = none) : dueO wd St.new 0 (os ++ [o]) = none := by
  have key : ∀ (os : List (Option Rw)) (Y : St) (i : Nat), dueO wd Y i os = none → jLO (os.foldl eLO Y) wd o = none → dueO wd Y i (os ++ [o]) = none := by
    intro os
    induction os with
    | nil =>
      intro Y i _ hj
      show (match jLO Y wd o with | some z => some (i, z) | none => none) = none
      rw [show jLO Y wd o = none from hj]
    | cons a os ih =>
      intro Y i h hj
      have h : (match jLO Y wd a with | some z => some (i, z) | none => dueO wd (eLO Y a) (i + 1) os) = none := h
      show (match jLO Y wd a with | some z => some (i, z) | none => dueO wd (eLO Y a) (i + 1) (os ++ [o])) = none
      cases e : jLO Y wd a with
      | some z => rw [e] at h; cases h
      | none =>
        rw [e] at h
        exact ih _ _ h hj
  exact key os _ _ h (by rw [e]; exact j)
section
variable {P : Program} {w : World} {K : PySem.W.Frag} {mg : Str → Option Value} {base : Heap}
theorem tFrT {f : Addr} {cdv : Value} {A : Around} {outer : List Env} {s0 : Shared} {H0 : Hp} {E : XK} (hr : Room 3 (A.deeper (envOfC "_law_free_record" (defScope sFreeRecord) s0.heap.objs.size f cdv))) :
    ∃ u, PSs (cxOf CX0 P w K mg base nmF "_law_free_record" (defScope sFreeRecord) f cdv A outer s0 H0 E).nox (sFr.drop 7) u ∧
      ∀ (F : Fp) (wd many n : Nat) (σ : L2.St) (H : Hp) (T : Ends), FpOk' F → n < 26 → FrU F wd many n σ H → (∀ σ' H', FrI F wd many (n + 1) σ' H' → T.nx σ' H') → u T σ H := by
  have hu := hu_of hr
  refine ⟨_, (pss_cons (ps_if (pt_cmpR op_in_seq (pe_ix ixS (pv 18) pe_int (fun _ _ => rfl)) (pe_tup (pa_cons pe_str (pa_cons pe_str pa_nil))) (by rfl))
      (pss_cons (ps_dput hu (pv 5) (pv 9) pe_bl rfl)
      (pss_one (ps_dput hu (pv 6) (pv 9) pe_non rfl)))
      pss_nil)
    (pss_one (ps_expr (pe_bm PySem.F.plainAttrs_list PySem.F.slot_list_append PySem.F.type_list_append mt_append (pv 3) (pa_cons (pv 18) pa_nil))))), ?_⟩
  rintro F wd many n σ H T o hn ⟨y, x, t, r, Z, Z', ls, vs, os, rfl, I, hnew, hok, hvs, hdue, hZ, hrows, hsome, ht, hj, he, hrd, hod⟩ q
  obtain ⟨xs, et⟩ := word_at ht
  have hS : Sq H t _ := .inr et
  refine ⟨_, rfl, _, _, _, _, rfl, rfl, hS, atI_nat (j := 0) rfl, (by show 2 ≤ sizeLine; decide), fun u nu => ?_⟩
  have su := same_upd (o := .tup [.str "comes", .str "born"]) nu
  have I1 := I.same su
  have ht1 := ht.same su
  have fin : ∀ (H2 : Hp), FrAt F H2 Z'.kinds Z'.kinds Z' vs os → Dt Any H2 (.ref t) r.data → H2 F.D = some (.lst vs) ∧ vs.length < sizeLine ∧ T.nx [some (.ref F.p), some (.int (many : Int)), some (.int (wd : Int)), some (.ref F.D), some (.ref F.k), some (.ref F.a), some (.ref F.m), some (.ref F.p2), y 0, some (.str x), y 2, y 3, y 4, y 5, y 6, y 7, y 8, y 9, some (.ref t), y 1, y 10] (upd H2 F.D (.lst (vs ++ [.ref t]))) := fun H2 I2 h2 => by
    refine ⟨I2.hD, lt_line (Nat.le_of_eq hvs) (by omega), q _ _ ⟨fun i => ([y 0, some (.str x), y 2, y 3, y 4, y 5, y 6, y 7, y 8, y 9, some (.ref t), y 1, y 10] : List (Option V)).getD i.val none, Z', _, _, rfl, I2.push o h2, hok, by rw [List.length_append, hvs]; rfl, due_snoc hdue hZ hj, by rw [List.foldl_append, hZ]; exact he, ?_, fun o' ho' => ?_⟩⟩
    · rw [List.map_append]
      exact hrows.app (.cons hrd hod .nil)
    · rcases List.mem_append.mp ho' with h | h
      · exact hsome o' h
      · exact ⟨r, List.mem_singleton.mp h⟩
  have old : newR r = false → FrAt F (upd H u (.tup [.str "comes", .str "born"])) Z'.kinds Z'.kinds Z' vs os := fun e => by
    rw [if_neg (by rw [e]; exact Bool.false_ne_true)] at hnew
    rw [hnew] at I1
    exact I1
  have new_ : newR r = true → ∃ H2 H3, DPut (upd H u (.tup [.str "comes", .str "born"])) F.a (.str x) (.bl true) H2 ∧ DPut H2 F.m (.str x) .non H3 ∧ FrAt F H3 Z'.kinds Z'.kinds Z' vs os ∧ Dt Any H3 (.ref t) r.data := fun e => by
    rw [if_pos e] at hnew
    obtain ⟨⟨kk, ek⟩, hx, hdx, hmx⟩ := hnew
    have ll : ls.length ≤ 26 := by
      have z := hok.sk
      rw [ek, List.length_append] at z
      omega
    have ld : ∀ f : Str → V, (dic f ls).length < sizeLine := fun f => by
      rw [show (dic f ls).length = ls.length from List.length_map ..]
      exact lt_line ll (by omega)
    obtain ⟨⟨n1, n2, n3, n4⟩, ⟨m1, m2, m3, m4⟩, ⟨q1, q2, q3, q4⟩⟩ := I1.nk
    generalize upd H u (.tup [.str "comes", .str "born"]) = Hu at I1 ht1 ⊢
    obtain ⟨ts, ep, dp⟩ := I1.hp
    have a1 : ∀ a ys, Hu a = some (.tup ys) → upd (upd Hu F.a (.dK (putK (dic (fA Z') ls) (Sum.inr x) (.bl true)))) F.m (.dK (putK (dic (fM Z') ls) (Sum.inr x) .non)) a = some (.tup ys) := fun a ys ea => by
      rw [upd_ne (ne_of ea I1.hm (by intro z; cases z)), upd_ne (ne_of ea I1.ha (by intro z; cases z))]
      exact ea
    refine ⟨_, _, DPut.k (k := Sum.inr x) I1.ha (ld _), DPut.k (k := Sum.inr x) ((upd_ne (Ne.symm o.am)).trans I1.hm) (ld _), ⟨(I1.hand.app m1 m2).app q1 q2, ?_, I1.its.tups (noL_dat os) fun a ys _ ea => a1 a ys ea, ?_, ?_, ?_, ts, ?_, dp.tups (noL_pairs _) fun a ys _ ea => a1 a ys ea⟩, ht1.tups (Rw.noL r) fun a ys _ ea => a1 a ys ea⟩
    · rw [upd_ne (Ne.symm q3), upd_ne (Ne.symm m3)]; exact I1.hD
    · rw [upd_ne o.km, upd_ne o.ka]; exact I1.hk
    · rw [upd_ne o.am, upd_same, put_fresh hx, ek]
      have e2 : fA Z' x = .bl true := by unfold fA; rw [decide_eq_false hdx]; rfl
      unfold dic
      rw [List.map_append, List.map_singleton, e2]
    · rw [upd_same, put_fresh hx, ek]
      have e2 : fM Z' x = .non := by unfold fM; rw [hmx]; rfl
      unfold dic
      rw [List.map_append, List.map_singleton, e2]
    · rw [upd_ne (Ne.symm q4), upd_ne (Ne.symm m4)]; exact ep
  refine ⟨u, _, rfl, .inr (SqT.of upd_same), rfl, rfl, _, rfl, ?_⟩
  cases r with
  | comes l1 k1 n1 hs =>
    obtain ⟨H2, H3, p1, p2, I3, h3⟩ := new_ rfl
    refine iteT ⟨_, rfl, _, rfl, F.a, H2, rfl, p1, _, rfl, _, rfl, F.m, H3, rfl, p2, ?_⟩
    exact ⟨_, rfl, .inl ⟨rfl, _, SqL.of I3.hD⟩, _, rfl, F.D, vs, _, rfl, rfl, fin H3 I3 h3⟩
  | born f1 m1 k1 l1 n1 =>
    obtain ⟨H2, H3, p1, p2, I3, h3⟩ := new_ rfl
    refine iteT ⟨_, rfl, _, rfl, F.a, H2, rfl, p1, _, rfl, _, rfl, F.m, H3, rfl, p2, ?_⟩
    exact ⟨_, rfl, .inl ⟨rfl, _, SqL.of I3.hD⟩, _, rfl, F.D, vs, _, rfl, rfl, fin H3 I3 h3⟩
  | weds f1 m1 =>
    have I3 := old rfl
    exact iteF ⟨_, rfl, .inl ⟨rfl, _, SqL.of I3.hD⟩, _, rfl, F.D, vs, _, rfl, rfl, fin _ I3 ht1⟩
  | dies l1 =>
    have I3 := old rfl
    exact iteF ⟨_, rfl, .inl ⟨rfl, _, SqL.of I3.hD⟩, _, rfl, F.D, vs, _, rfl, rfl, fin _ I3 ht1⟩
end
end K04

/-! a turn of the law's own record: someone comes -/
namespace K04
open PySem PySem.Spec PyProof.Rows L2
def elseOf : Stmt → List Stmt
  | .If _ _ e _ => e
  | _ => []
def hd1 : List Stmt → Stmt
  | s :: _ => s
  | [] => .Pass ⟨0, 0, 0, 0⟩
abbrev sCh : Stmt := sFr.getD 6 (.Pass ⟨0, 0, 0, 0⟩)
/-- the lists of a turn, and the label -/
structure FrL (F : Fp) (wd many n : Nat) (x : Str) (j : Int) (sS sD sC sL : Addr) (σ : L2.St) (H : Hp) (Z : St) (vs : List V) (os : List (Option Rw)) (ss dd ll : List Str) (cs : List V) (cps : List (Str × Str)) : Prop where
  sg : ∃ (y : Fin 7 → Option V), σ = [some (.ref F.p), some (.int (many : Int)), some (.int (wd : Int)), some (.ref F.D), some (.ref F.k), some (.ref F.a), some (.ref F.m), some (.ref F.p2), y 0, some (.str x), some (.int j), y 1, y 2, some (.ref sS), some (.ref sD), some (.ref sC), y 3, some (.ref sL), y 4, y 5, y 6]
  I : FrAt F H Z.kinds Z.kinds Z vs os
  ok : FrOk Z n
  hvs : vs.length = n
  due : dueO wd St.new 0 os = none
  hZ : os.foldl eLO St.new = Z
  rows : RowsD (os.map datO) os
  some_ : ∀ o ∈ os, ∃ r, o = some r
  lab : Lab x
  ends : EndsAt x n
  hS : H sS = some (.lst (ss.map V.str))
  hD : H sD = some (.lst (dd.map V.str))
  hC : H sC = some (.lst cs)
  hc : DtAll Any H cs (cps.map pairD)
  hL : H sL = some (.lst (ll.map V.str))
  nS : sS ≠ F.p
  nD : sD ≠ F.p
  nC : sC ≠ F.p
  nL : sL ≠ F.p
  gS : ∀ z ∈ ss, look Z.kinds z = some sonK ∧ ¬ z ∈ Z.dead ∧ hasMate Z z = false
  gD : ∀ z ∈ dd, look Z.kinds z = some dauK ∧ ¬ z ∈ Z.dead ∧ hasMate Z z = false
  gC : ∀ q ∈ cps, q ∈ Z.pairs ∧ ¬ q.1 ∈ Z.dead ∧ ¬ q.2 ∈ Z.dead
  gL : ∀ z ∈ ll, (look Z.kinds z).isSome = true ∧ ¬ z ∈ Z.dead
  zS : ss.length ≤ 26
  zD : dd.length ≤ 26
  zC : cps.length ≤ 26
  zL : ll.length ≤ 26
section
variable {F : Fp} {wd many n : Nat} {x : Str} {j : Int} {sS sD sC sL : Addr} {σ : L2.St} {H H' : Hp} {Z : St} {vs : List V} {os : List (Option Rw)} {ss dd ll : List Str} {cs : List V} {cps : List (Str × Str)}
theorem FrL.same (L : FrL F wd many n x j sS sD sC sL σ H Z vs os ss dd ll cs cps) (s : Same H H') : FrL F wd many n x j sS sD sC sL σ H' Z vs os ss dd ll cs cps :=
  { L with I := L.I.same s, hS := s _ _ L.hS, hD := s _ _ L.hD, hC := s _ _ L.hC, hc := L.hc.same s, hL := s _ _ L.hL }
theorem FrL.kept (L : FrL F wd many n x j sS sD sC sL σ H Z vs os ss dd ll cs cps) (o : FpOk' F) (kk : Kept F.p H H') (hh : Hand F.p F.l H') : FrL F wd many n x j sS sD sC sL σ H' Z vs os ss dd ll cs cps := by
  obtain ⟨xs, ep⟩ := L.I.hand.at_
  exact { L with I := L.I.kept o kk hh, hS := kk _ _ L.nS L.hS, hD := kk _ _ L.nD L.hD, hC := kk _ _ L.nC L.hC, hc := L.hc.tups (noL_pairs _) (fun a ys _ ea => kk _ _ (ne_of ea ep (by intro z; cases z)) ea), hL := kk _ _ L.nL L.hL }
end
theorem names_tup {S : Addr → Prop} {H : Hp} (hs : List Int) : DtAll S H (hs.map V.int) (hs.map PyData.int) := dt_ints hs
section
variable {P : Program} {w : World} {K : PySem.W.Frag} {mg : Str → Option Value} {base : Heap}
theorem tFrD1 {f fD : Addr} {fdD : FuncData} {cdv : Value} {A : Around} {outer : List Env} {s0 : Shared} {H0 : Hp} {E : XK} (z_len : mg "len" = none) (z_range : mg "range" = none) (z_tuple : mg "tuple" = none) (hr : Room 3 (A.deeper (envOfC "_law_free_record" (defScope sFreeRecord) s0.heap.objs.size f cdv)))
    (dD : Df P w K mg base "_law_draw" 2 ["_law_hand_here", "_law_many"] spDr fD fdD) :
    ∃ u, PSs (cxOf CX0 P w K mg base nmF "_law_free_record" (defScope sFreeRecord) f cdv A outer s0 H0 E).nox ((elseOf (hd1 (elseOf (hd1 (elseOf sCh))))).drop 1) u ∧
      ∀ (F : Fp) (wd many n : Nat) (x kk : Str) (j : Int) (sS sD sC sL : Addr) (σ : L2.St) (H : Hp) (T : Ends) (Z : St) (vs : List V) (os : List (Option Rw)) (ss dd ll : List Str) (cs : List V) (cps : List (Str × Str)), FpOk' F → n < 26 → wd ≤ 2 → (kk = sonK ∨ kk = dauK) → σ[19]? = some (some (.str kk)) →
        FrL F wd many n x j sS sD sC sL σ H Z vs os ss dd ll cs cps → (∀ σ' H', FrU F wd many n σ' H' → T.nx σ' H') → u T σ H := by
  have hu := hu_of hr
  have hr2 := hr.mono (show 2 ≤ 3 by decide)
  refine ⟨_, (pss_cons (ps_set (i := 18) scFree.nd rfl (.inl rfl) (pe_tup (pa_cons pe_str (pa_cons (pv 9) (pa_cons (pv 19) (pa_cons (pe_call dD.ok hr2 (by rfl) dD.gl dD.kp dD.bi .nil pass0 (pa_cons (pv 0) (pa_cons (pe_op op_add (pe_op op_pow pe_int pe_int) pe_int) pa_nil))) (pa_cons (pe_callTy call_tuple_of (by rfl) z_tuple (by decide +kernel) (pa_cons (pe_lc (own := [("_law_j", 20)]) (g := gName 20) (tt := tYes) rfl scFree.nd (pi_range1 (by rfl) z_range (pa_cons (pv 2) pa_nil)) (blkOk_by (N := ["_law_hand_here", "_law_many", "_law_width", "_law_rows", "_law_kinds", "_law_alive", "_law_mates", "_law_pairs", "_law_k", "_law_label_here", "_law_sort", "_law_unwed", "_law_one", "_law_sons", "_law_daughters", "_law_couples", "_law_pair", "_law_living", "_law_row", "_law_kind", "_law_j"]) (sc := defScope sFreeRecord) (by decide +kernel)) (fun _ _ _ _ _ => pg_name (i := 20) scFree.nd rfl (Or.inl rfl)) (fun _ _ _ _ _ => pts_nil) (fun _ _ _ _ _ => (pe_call dD.ok hr2 (by rfl) dD.gl dD.kp dD.bi .nil pass0 (pa_cons (pv 0) (pa_cons (pe_op op_add (pe_op op_pow pe_int pe_int) pe_int) pa_nil))))) pa_nil)) pa_nil)))))))
    (pss_one (ps_dput hu (pv 4) (pv 9) (pv 19) rfl))), ?_⟩
  intro F wd many n x kk j sS sD sC sL σ H T Z vs os ss dd ll cs cps o hn w2 hkk h19 L q
  obtain ⟨y, rfl⟩ := L.sg
  have h19 : y 5 = some (.str kk) := Option.some.inj h19
  refine ⟨_, rfl, _, congrArg some h19, _, rfl, _, _, rfl, rfl, ⟨by decide, by decide, by decide⟩, _, _, rfl, rfl, F.p, F.l, _, rfl, L.I.hand, by decide, by decide, fun nn H1 n0 n1 k1 h1 => ?_⟩
  have L1 := L.kept o k1 h1
  refine ⟨_, rfl, (wd : Int), rfl, by omega, by omega, fun Dn nDn => lc_it walk_range (fun i H' => ∃ hs : List Int, hs.length = i ∧ (∀ z ∈ hs, nameI z) ∧ H' Dn = some (.lst (hs.map V.int)) ∧ Kept F.p H1 H' ∧ Hand F.p F.l H') ⟨[], rfl, (fun z hz => by cases hz), upd_same, Kept.same (same_upd nDn), h1.same (same_upd nDn)⟩ (fun _ _ _ _ => trivial) ?_ ?_⟩
  · rintro i yv H2 H3 hi ⟨hs, hl, hnm, eD, k2, h2⟩ ⟨rfl, rfl⟩
    have hi' : i < 2 := by omega
    refine ⟨rfl, ?_⟩
    refine ⟨_, rfl, _, _, rfl, rfl, ⟨by decide, by decide, by decide⟩, _, _, rfl, rfl, F.p, F.l, _, rfl, h2, by decide, by decide, fun zz H4 z0 z1 k4 h4 => ?_⟩
    have nDp : Dn ≠ F.p := h1.nn nDn
    have nDl : Dn ≠ F.l := h1.nl nDn
    refine ⟨hs.map V.int, k4 _ _ nDp eD, lt_line (by rw [List.length_map, hl]; exact Nat.le_of_lt hi') (by decide), hs ++ [zz], by rw [List.length_append, hl]; rfl, fun z hz => ?_, by rw [List.map_append]; exact upd_same, fun b ub nb eb => ?_, h4.app nDp nDl⟩
    · rcases List.mem_append.mp hz with hz | hz
      · exact hnm z hz
      · rw [List.mem_singleton.mp hz]; exact ⟨z0, Int.lt_add_one_iff.mp z1⟩
    · rw [upd_ne (ne_of_none eb nDn)]
      exact k4 _ _ nb (k2 _ _ nb eb)
  rintro H2 ⟨hs, hl, hnm, eD, k2, h2⟩
  have hl : hs.length = wd := by rw [hl]; omega
  have L2 := L1.kept o k2 h2
  refine ⟨Dn, hs.map V.int, rfl, .inl ⟨SqL.of eD, fun th nth => ?_⟩⟩
  refine ⟨(by show 5 ≤ sizeLine; decide), fun t nt => ?_⟩
  have s1 := same_upd (o := .tup (hs.map V.int)) nth
  have s2 := same_upd (o := .tup [.str "comes", .str x, .str kk, .int nn, .ref th]) nt
  have L4 := (L2.same s1).same s2
  have eth : upd (upd H2 th (.tup (hs.map V.int))) t (.tup [.str "comes", .str x, .str kk, .int nn, .ref th]) th = some (.tup (hs.map V.int)) := s2 _ _ upd_same
  have et : upd (upd H2 th (.tup (hs.map V.int))) t (.tup [.str "comes", .str x, .str kk, .int nn, .ref th]) t = some (.tup [.str "comes", .str x, .str kk, .int nn, .ref th]) := upd_same
  generalize upd (upd H2 th (.tup (hs.map V.int))) t (.tup [.str "comes", .str x, .str kk, .int nn, .ref th]) = H5 at L4 eth et ⊢
  have okk : okS kk = true := by rcases hkk with rfl | rfl <;> decide +kernel
  have vkk : kindV (.str kk) = true := by rcases hkk with rfl | rfl <;> decide +kernel
  have dt : Dt Any H5 (.ref t) (Rw.data (.comes x kk nn hs)) := .tup trivial et (.cons (.str "comes" (by decide) (by decide +kernel)) (.cons (okS_dt L.lab.2) (.cons (okS_dt okk) (.cons (.int nn) (.cons (.tup trivial eth (dt_ints hs)) .nil)))))
  have fr := L.ok.fresh L.ends
  have lk : (encK Z.kinds).length < sizeLine := by
    rw [show (encK Z.kinds).length = Z.kinds.length from List.length_map ..]
    exact lt_line L.ok.sk (by omega)
  refine ⟨_, congrArg some h19, _, rfl, _, rfl, F.k, _, rfl, DPut.k (k := Sum.inr x) L4.I.hk lk, ?_⟩
  rw [put_enc2, put_new fr]
  have I6 := L4.I.put_k o (Z.kinds ++ [(x, kk)])
  have e2 : eL Z (.comes x kk nn hs) = { Z with kinds := Z.kinds ++ [(x, kk)] } := by
    show { Z with kinds := putS Z.kinds x kk } = _
    rw [put_new fr]
  have rd : RowD (Rw.data (.comes x kk nn hs)) (some (.comes x kk nn hs)) := .row rfl (.comes L.lab.1 vkk ⟨n0, Int.lt_add_one_iff.mp n1⟩ rfl hnm)
  refine q _ _ ⟨fun i => ([y 0, some (.str kk), some (.int j), y 1, y 2, some (.ref sS), some (.ref sD), some (.ref sC), y 3, some (.ref sL), y 6] : List (Option V)).getD i.val none, x, t, .comes x kk nn hs, Z, { Z with kinds := Z.kinds ++ [(x, kk)] }, Z.kinds, vs, os, ?_, ⟨I6.hand, I6.hD, I6.its, I6.hk, I6.ha, I6.hm, I6.hp⟩, ?_, L.ok.come hkk L.lab L.ends, L.hvs, L.due, L.hZ, L.rows, L.some_, ?_, ?_, e2, rd, ?_⟩
  · show _ = [_, _, _, _, _, _, _, _, _, _, _, _, _, _, _, _, _, _, _, some (V.str kk), _]
    rw [← h19]
    rfl
  · rw [if_pos (show newR (.comes x kk nn hs) = true from rfl)]
    refine ⟨⟨kk, rfl⟩, fr, fun hd => ?_, ?_⟩
    · have z := L.ok.dk x hd; rw [fr] at z; cases z
    · cases e : look Z.mates x with
      | none => rfl
      | some u => have z := (L.ok.ma x u e).1; rw [fr] at z; cases z
  · exact dt.tups (Rw.noL _) fun a ys _ ea => upd_tups (o := .dK (encK (Z.kinds ++ [(x, kk)]))) L4.I.hk (fun ys z => by cases z) a ys ea
  · show jLc Z wd x hs = none
    unfold jLc
    rw [if_neg (by rw [fr]; exact Bool.false_ne_true), if_pos (by rw [hl])]
  · intro ys eys
    cases eys
    refine ⟨by simp, fun d hd ys eys => ?_⟩
    simp only [List.mem_cons, List.not_mem_nil, or_false] at hd
    rcases hd with rfl | rfl | rfl | rfl | rfl
    · cases eys
    · cases eys
    · cases eys
    · cases eys
    · cases eys
      rw [List.length_map]
      omega
theorem tFrD {f fD : Addr} {fdD : FuncData} {cdv : Value} {A : Around} {outer : List Env} {s0 : Shared} {H0 : Hp} {E : XK} (z_len : mg "len" = none) (z_range : mg "range" = none) (z_tuple : mg "tuple" = none) (hr : Room 3 (A.deeper (envOfC "_law_free_record" (defScope sFreeRecord) s0.heap.objs.size f cdv)))
    (dD : Df P w K mg base "_law_draw" 2 ["_law_hand_here", "_law_many"] spDr fD fdD) :
    ∃ u, PSs (cxOf CX0 P w K mg base nmF "_law_free_record" (defScope sFreeRecord) f cdv A outer s0 H0 E).nox (elseOf (hd1 (elseOf (hd1 (elseOf sCh))))) u ∧
      ∀ (F : Fp) (wd many n : Nat) (x : Str) (j : Int) (sS sD sC sL : Addr) (σ : L2.St) (H : Hp) (T : Ends) (Z : St) (vs : List V) (os : List (Option Rw)) (ss dd ll : List Str) (cs : List V) (cps : List (Str × Str)), FpOk' F → n < 26 → wd ≤ 2 →
        FrL F wd many n x j sS sD sC sL σ H Z vs os ss dd ll cs cps → (∀ σ' H', FrU F wd many n σ' H' → T.nx σ' H') → u T σ H := by
  have hu := hu_of hr
  have hr2 := hr.mono (show 2 ≤ 3 by decide)
  obtain ⟨u1, p1, r1⟩ := tFrD1 (P := P) (w := w) (base := base) (f := f) (cdv := cdv) (outer := outer) (H0 := H0) (E := E) z_len z_range z_tuple hr dD
  refine ⟨_, (pss_cons (ps_set (i := 19) scFree.nd rfl (.inl rfl) (pe_ifExp (PW.pt (pw_or (pt_cmpR op_lt (pe_callB call_len_seq (by rfl) z_len boot_len (pa_cons (pv 13) pa_nil)) (pe_callB call_len_seq (by rfl) z_len boot_len (pa_cons (pv 14) pa_nil)) (nomark _)) (pw_or1 (PW.pt (pw_and (pt_cmpR op_eq (pe_callB call_len_seq (by rfl) z_len boot_len (pa_cons (pv 13) pa_nil)) (pe_callB call_len_seq (by rfl) z_len boot_len (pa_cons (pv 14) pa_nil)) (nomark _)) (pw_and1 (pt_cmpR op_eq (pe_call dD.ok hr2 (by rfl) dD.gl dD.kp dD.bi .nil pass0 (pa_cons (pv 0) (pa_cons pe_int pa_nil))) pe_int (nomark _)))))))) pe_str pe_str))
    p1), ?_⟩
  intro F wd many n x j sS sD sC sL σ H T Z vs os ss dd ll cs cps o hn w2 L q
  obtain ⟨y, rfl⟩ := L.sg
  have set19 : ∀ (kk : Str) (H2 : Hp), FrL F wd many n x j sS sD sC sL [some (.ref F.p), some (.int (many : Int)), some (.int (wd : Int)), some (.ref F.D), some (.ref F.k), some (.ref F.a), some (.ref F.m), some (.ref F.p2), y 0, some (.str x), some (.int j), y 1, y 2, some (.ref sS), some (.ref sD), some (.ref sC), y 3, some (.ref sL), y 4, y 5, y 6] H2 Z vs os ss dd ll cs cps →
      FrL F wd many n x j sS sD sC sL [some (.ref F.p), some (.int (many : Int)), some (.int (wd : Int)), some (.ref F.D), some (.ref F.k), some (.ref F.a), some (.ref F.m), some (.ref F.p2), y 0, some (.str x), some (.int j), y 1, y 2, some (.ref sS), some (.ref sD), some (.ref sC), y 3, some (.ref sL), y 4, some (.str kk), y 6] H2 Z vs os ss dd ll cs cps := fun kk H2 L => { L with sg := ⟨fun i => ([y 0, y 1, y 2, y 3, y 4, some (.str kk), y 6] : List (Option V)).getD i.val none, rfl⟩ }
  refine ⟨_, rfl, sS, _, rfl, .inl (SqL.of L.hS), _, rfl, sD, _, rfl, .inl (SqL.of L.hD), _, _, rfl, rfl, _, rfl, ite2 (fun g => ?_) (fun g => ?_)⟩
  · refine iteT ?_
    exact r1 F wd many n x sonK j sS sD sC sL _ _ _ Z vs os ss dd ll cs cps o hn w2 (.inl rfl) rfl (set19 _ _ L) q
  · refine ⟨_, rfl, sS, _, rfl, .inl (SqL.of L.hS), _, rfl, sD, _, rfl, .inl (SqL.of L.hD), rfl, _, rfl, ite2 (fun g2 => ?_) (fun g2 => ?_)⟩
    · refine ⟨_, rfl, F.p, F.l, 2, rfl, L.I.hand, by decide, by decide, fun c H1 c0 c1 k1 h1 => ?_⟩
      have L1 := L.kept o k1 h1
      refine ⟨rfl, _, rfl, ite2 (fun g3 => ?_) (fun g3 => ?_)⟩
      · exact r1 F wd many n x sonK j sS sD sC sL _ _ _ Z vs os ss dd ll cs cps o hn w2 (.inl rfl) rfl (set19 _ _ L1) q
      · exact r1 F wd many n x dauK j sS sD sC sL _ _ _ Z vs os ss dd ll cs cps o hn w2 (.inr rfl) rfl (set19 _ _ L1) q
    · refine iteF ?_
      exact r1 F wd many n x dauK j sS sD sC sL _ _ _ Z vs os ss dd ll cs cps o hn w2 (.inr rfl) rfl (set19 _ _ L) q
end
end K04

/-! a turn of the law's own record: someone dies -/
namespace K04
open PySem PySem.Spec PyProof.Rows L2
theorem strs_dt {S : Addr → Prop} {H : Hp} : ∀ {ll : List Str}, (∀ z ∈ ll, okS z = true) → DtAll S H (ll.map V.str) (ll.map PyData.str)
  | [], _ => .nil
  | z :: ll, h => .cons (okS_dt (h z (by simp))) (strs_dt fun y hy => h y (List.mem_cons_of_mem _ hy))
theorem strs_depth : ∀ ll : List Str, PyData.depthAll (ll.map PyData.str) = 0
  | [] => rfl
  | _ :: ll => by
    show max (PyData.depth (.str _)) (PyData.depthAll (ll.map PyData.str)) = 0
    rw [strs_depth ll]
    rfl
theorem eqv_nil (ds : List PyData) : PyData.eqv (.list ds) (.list []) = ds.isEmpty := by cases ds <;> rfl
/-- != [] -/
theorem ne_nil {K : PySem.W.Frag} {H : Hp} {a e : Addr} {vs : List V} {ds : List PyData} {Q : VK} (ha : H a = some (.lst vs)) (hd : DtAll Any H vs ds) (dep : PyData.depthAll ds ≤ 60) (ne : H e = none) (q : Q (.bl (!ds.isEmpty)) (upd H e (.lst []))) : rNeD K (.ref a) (.ref e) (upd H e (.lst [])) Q := by
  have s := same_upd (o := .lst []) ne
  have d1 : Dt Any (upd H e (.lst [])) (.ref a) (.list ds) := .lst trivial (s _ _ ha) (hd.same s)
  have d2 : Dt Any (upd H e (.lst [])) (.ref e) (.list []) := .lst trivial upd_same .nil
  refine ⟨_, _, d1.dp, d2.dp, shaped_of d1.lay (by show PyData.depthAll ds + 1 ≤ 64; omega), shaped_of d2.lay (show (1 : Nat) ≤ 64 by decide), ?_⟩
  rw [eqv_nil]
  exact q
section
variable {P : Program} {w : World} {K : PySem.W.Frag} {mg : Str → Option Value} {base : Heap}
theorem tFrC {f fD fP : Addr} {fdD fdP : FuncData} {cdv : Value} {A : Around} {outer : List Env} {s0 : Shared} {H0 : Hp} {E : XK} (z_len : mg "len" = none) (z_range : mg "range" = none) (z_tuple : mg "tuple" = none) (hr : Room 3 (A.deeper (envOfC "_law_free_record" (defScope sFreeRecord) s0.heap.objs.size f cdv)))
    (dD : Df P w K mg base "_law_draw" 2 ["_law_hand_here", "_law_many"] spDr fD fdD) (dP : Df P w K mg base "_law_pick" 3 ["_law_hand_here", "_law_things"] spPk fP fdP) :
    ∃ u, PSs (cxOf CX0 P w K mg base nmF "_law_free_record" (defScope sFreeRecord) f cdv A outer s0 H0 E).nox (elseOf (hd1 (elseOf sCh))) u ∧
      ∀ (F : Fp) (wd many n : Nat) (x : Str) (j : Int) (sS sD sC sL : Addr) (σ : L2.St) (H : Hp) (T : Ends) (Z : St) (vs : List V) (os : List (Option Rw)) (ss dd ll : List Str) (cs : List V) (cps : List (Str × Str)), FpOk' F → n < 26 → wd ≤ 2 →
        FrL F wd many n x j sS sD sC sL σ H Z vs os ss dd ll cs cps → (∀ σ' H', FrU F wd many n σ' H' → T.nx σ' H') → u T σ H := by
  obtain ⟨u1, p1, r1⟩ := tFrD (P := P) (w := w) (base := base) (f := f) (cdv := cdv) (outer := outer) (H0 := H0) (E := E) z_len z_range z_tuple hr dD
  have hu := hu_of hr
  have hr3 := hr
  refine ⟨_, pss_one (ps_if (PW.pt (pw_and (pt_cmpR (op_neD hr.units) (pv 17) (pe_lst pa_nil) (nomark _)) (pw_and1 (pt_cmpR op_eq (pv 10) pe_int (nomark _)))))
    (pss_cons (ps_set (i := 18) scFree.nd rfl (.inl rfl) (pe_tup (pa_cons pe_str (pa_cons (pe_call dP.ok hr3 (by rfl) dP.gl dP.kp dP.bi .nil pass0 (pa_cons (pv 0) (pa_cons (pv 17) pa_nil))) pa_nil))))
    (pss_one (ps_dput hu (pv 5) (pe_ix ixS (pv 18) pe_int (fun _ _ => rfl)) pe_bl rfl))) p1), ?_⟩
  intro F wd many n x j sS sD sC sL σ H T Z vs os ss dd ll cs cps o hn w2 L q
  obtain ⟨y, rfl⟩ := L.sg
  have okL : ∀ z ∈ ll, okS z = true := fun z hz => (L.ok.lb z (L.gL z hz).1).1.2
  refine ⟨_, rfl, (by show 0 ≤ sizeLine; decide), fun e ne => ne_nil L.hL (strs_dt okL) (by rw [strs_depth]; decide) ne ⟨_, rfl, ?_⟩⟩
  have L1 := L.same (same_upd (o := .lst []) ne)
  generalize upd H e (.lst []) = H1 at L1 ⊢
  clear L
  cases ll with
  | nil => exact iteF (r1 F wd many n x j sS sD sC sL _ _ _ Z vs os ss dd [] cs cps o hn w2 L1 q)
  | cons l0 ll =>
    refine iteT ⟨_, rfl, rfl, _, rfl, ite2 (fun g => ?_) (fun g => ?_)⟩
    · refine ⟨_, rfl, _, rfl, F.p, F.l, sL, _, rfl, L1.I.hand, L1.hL, L1.nL, by simp, by rw [List.length_map]; exact Nat.le_trans L1.zL (by decide), fun v H2 hv k2 h2 => ?_⟩
      obtain ⟨z, hz, rfl⟩ := List.mem_map.mp hv
      have L2 := L1.kept o k2 h2
      refine ⟨(by show 2 ≤ sizeLine; decide), fun t nt => ?_⟩
      have s3 := same_upd (o := .tup [.str "dies", .str z]) nt
      have L3 := L2.same s3
      have et : upd H2 t (.tup [.str "dies", .str z]) t = some (.tup [.str "dies", .str z]) := upd_same
      generalize upd H2 t (.tup [.str "dies", .str z]) = H3 at L3 et ⊢
      have hS : Sq H3 t _ := .inr et
      have okz := okL z hz
      have dt : Dt Any H3 (.ref t) (Rw.data (.dies z)) := .tup trivial et (.cons (.str "dies" (by decide) (by decide +kernel)) (.cons (okS_dt okz) .nil))
      obtain ⟨kz, dz⟩ := L3.gL z hz
      have lz := (L3.ok.lb z kz).1
      have la : (dic (fA Z) Z.kinds).length < sizeLine := by
        rw [show (dic (fA Z) Z.kinds).length = Z.kinds.length from List.length_map ..]
        exact lt_line L3.ok.sk (by omega)
      refine ⟨_, rfl, _, rfl, _, _, _, _, rfl, rfl, hS, atI_nat (j := 1) rfl, F.a, _, rfl, DPut.k (k := Sum.inr z) L3.I.ha la, ?_⟩
      rw [put_old kz]
      have ef : dic (fun b => if b = z then V.bl false else fA Z b) Z.kinds = dic (fA { Z with dead := Z.dead ++ [z] }) Z.kinds := dic_congr fun b _ => by
        show (if b = z then V.bl false else fA Z b) = V.bl (!decide (b ∈ Z.dead ++ [z]))
        by_cases hb : b = z
        · rw [if_pos hb, decide_eq_true (by rw [hb]; simp)]; rfl
        · rw [if_neg hb]
          unfold fA
          congr 2
          exact decide_eq_decide.mpr ⟨fun h => List.mem_append_left _ h, fun h => (List.mem_append.mp h).elim id fun h => absurd (List.mem_singleton.mp h) hb⟩
      rw [ef]
      obtain ⟨⟨n1, n2, n3, n4⟩, ⟨m1, m2, m3, m4⟩, ⟨q1, q2, q3, q4⟩⟩ := L3.I.nk
      obtain ⟨ts, ep, dp⟩ := L3.I.hp
      have a1 := upd_tups (o := .dK (dic (fA { Z with dead := Z.dead ++ [z] }) Z.kinds)) L3.I.ha (fun ys z => by cases z)
      refine q _ _ ⟨fun i => ([y 0, y 5, some (.int j), y 1, y 2, some (.ref sS), some (.ref sD), some (.ref sC), y 3, some (.ref sL), y 6] : List (Option V)).getD i.val none, x, t, .dies z, Z, { Z with dead := Z.dead ++ [z] }, Z.kinds, vs, os, rfl,
        ⟨L3.I.hand.app m1 m2, (upd_ne (Ne.symm m3)).trans L3.I.hD, L3.I.its.tups (noL_dat os) fun a ys _ ea => a1 a ys ea, (upd_ne o.ka).trans L3.I.hk, upd_same, (upd_ne (Ne.symm o.am)).trans L3.I.hm, ts, (upd_ne (Ne.symm m4)).trans ep, dp.tups (noL_pairs _) fun a ys _ ea => a1 a ys ea⟩,
        rfl, L3.ok.die kz, L3.hvs, L3.due, L3.hZ, L3.rows, L3.some_, dt.tups (Rw.noL _) fun a ys _ ea => a1 a ys ea, ?_, rfl, .row rfl (.dies lz.1), ?_⟩
      · show jLd Z z = none
        unfold jLd
        rw [if_neg (by cases e : look Z.kinds z with | none => rw [e] at kz; cases kz | some u => exact Bool.false_ne_true), if_neg dz]
      · intro ys eys
        cases eys
        refine ⟨by simp, fun d hd ys eys => ?_⟩
        simp only [List.mem_cons, List.not_mem_nil, or_false] at hd
        rcases hd with rfl | rfl <;> cases eys
    · exact r1 F wd many n x j sS sD sC sL _ _ _ Z vs os ss dd (l0 :: ll) cs cps o hn w2 L1 q
end
end K04

/-! a turn of the law's own record: a birth -/
namespace K04
open PySem PySem.Spec PyProof.Rows L2
def kindsD : List PyData := [.str "s", .str "d"]
theorem kinds_menu : DtE (tLst (tCons (tC (.str "s")) (tCons (tC (.str "d")) tNil))) (.list kindsD) := deL (daK (deS (by decide +kernel)) (daK (deS (by decide +kernel)) daN)) (by decide)
theorem kind_mem {d : PyData} (h : d ∈ kindsD) : ∃ k, d = .str k ∧ (k = sonK ∨ k = dauK) := by
  unfold kindsD at h
  simp only [List.mem_cons, List.not_mem_nil, or_false] at h
  rcases h with rfl | rfl
  · exact ⟨_, rfl, .inl rfl⟩
  · exact ⟨_, rfl, .inr rfl⟩
theorem depth_pairs : ∀ ps : List (Str × Str), PyData.depthAll (ps.map pairD) ≤ 1
  | [] => Nat.zero_le _
  | p :: ps => by
    show max (PyData.depth (pairD p)) (PyData.depthAll (ps.map pairD)) ≤ 1
    exact Nat.max_le.mpr ⟨Nat.le_refl _, depth_pairs ps⟩
section
variable {P : Program} {w : World} {K : PySem.W.Frag} {mg : Str → Option Value} {base : Heap}
theorem tFrB {f fD fP : Addr} {fdD fdP : FuncData} {cdv : Value} {A : Around} {outer : List Env} {s0 : Shared} {H0 : Hp} {E : XK} (z_len : mg "len" = none) (z_range : mg "range" = none) (z_tuple : mg "tuple" = none) (hr : Room 3 (A.deeper (envOfC "_law_free_record" (defScope sFreeRecord) s0.heap.objs.size f cdv)))
    (dD : Df P w K mg base "_law_draw" 2 ["_law_hand_here", "_law_many"] spDr fD fdD) (dP : Df P w K mg base "_law_pick" 3 ["_law_hand_here", "_law_things"] spPk fP fdP) :
    ∃ u, PSs (cxOf CX0 P w K mg base nmF "_law_free_record" (defScope sFreeRecord) f cdv A outer s0 H0 E).nox (elseOf sCh) u ∧
      ∀ (F : Fp) (wd many n : Nat) (x : Str) (j : Int) (sS sD sC sL : Addr) (σ : L2.St) (H : Hp) (T : Ends) (Z : St) (vs : List V) (os : List (Option Rw)) (ss dd ll : List Str) (cs : List V) (cps : List (Str × Str)), FpOk' F → n < 26 → wd ≤ 2 →
        FrL F wd many n x j sS sD sC sL σ H Z vs os ss dd ll cs cps → (∀ σ' H', FrU F wd many n σ' H' → T.nx σ' H') → u T σ H := by
  obtain ⟨u1, p1, r1⟩ := tFrC (P := P) (w := w) (base := base) (f := f) (cdv := cdv) (outer := outer) (H0 := H0) (E := E) z_len z_range z_tuple hr dD dP
  have hu := hu_of hr
  have hr2 := hr.mono (show 2 ≤ 3 by decide)
  have hr3 := hr
  refine ⟨_, pss_one (ps_if (PW.pt (pw_and (pt_cmpR (op_neD hr.units) (pv 15) (pe_lst pa_nil) (nomark _)) (pw_and1 (pt_cmpR op_lt (pv 10) pe_int (nomark _)))))
    (pss_cons (ps_set (i := 16) scFree.nd rfl (.inl rfl) (pe_call dP.ok hr3 (by rfl) dP.gl dP.kp dP.bi .nil pass0 (pa_cons (pv 0) (pa_cons (pv 15) pa_nil))))
    (pss_cons (ps_set (i := 18) scFree.nd rfl (.inl rfl) (pe_tup (pa_cons pe_str (pa_cons (pe_ix ixS (pv 16) pe_int (fun _ _ => rfl)) (pa_cons (pe_ix ixS (pv 16) pe_int (fun _ _ => rfl)) (pa_cons (pe_call dP.ok hr3 (by rfl) dP.gl dP.kp dP.bi .nil pass0 (pa_cons (pv 0) (pa_cons (pe_lst (pa_cons pe_str (pa_cons pe_str pa_nil))) pa_nil))) (pa_cons (pv 9) (pa_cons (pe_call dD.ok hr2 (by rfl) dD.gl dD.kp dD.bi .nil pass0 (pa_cons (pv 0) (pa_cons (pe_op op_add (pe_op op_pow pe_int pe_int) pe_int) pa_nil))) pa_nil))))))))
    (pss_one (ps_dput hu (pv 4) (pv 9) (pe_ix ixS (pv 18) pe_int (fun _ _ => rfl)) rfl)))) p1), ?_⟩
  intro F wd many n x j sS sD sC sL σ H T Z vs os ss dd ll cs cps o hn w2 L q
  obtain ⟨y, rfl⟩ := L.sg
  refine ⟨_, rfl, (by show 0 ≤ sizeLine; decide), fun e ne => ne_nil L.hC L.hc (Nat.le_trans (depth_pairs _) (by decide)) ne ⟨_, rfl, ?_⟩⟩
  have L1 := L.same (same_upd (o := .lst []) ne)
  generalize upd H e (.lst []) = H1 at L1 ⊢
  clear L
  cases hcps : cps with
  | nil =>
    refine iteF (r1 F wd many n x j sS sD sC sL _ _ _ Z vs os ss dd ll cs cps o hn w2 L1 q)
  | cons c0 cps' =>
    refine iteT ⟨_, rfl, _, _, rfl, rfl, _, rfl, ite2 (fun g => ?_) (fun g => ?_)⟩
    · have lc := L1.hc.len
      refine ⟨_, rfl, _, rfl, F.p, F.l, sC, cs, rfl, L1.I.hand, L1.hC, L1.nC, by rw [lc, List.length_map, hcps]; simp, by rw [lc, List.length_map]; exact Nat.le_trans L1.zC (by decide), fun v H2 hv k2 h2 => ?_⟩
      have L2 := L1.kept o k2 h2
      obtain ⟨d, hd, hvd⟩ := L2.hc.mem hv
      obtain ⟨⟨f1, m1⟩, hq, rfl⟩ := List.mem_map.mp hd
      obtain ⟨qp, qf, qm⟩ := L2.gC _ hq
      obtain ⟨kf, km⟩ := L2.ok.pk _ qp
      have lf := (L2.ok.lb _ kf).1
      have lm := (L2.ok.lb _ km).1
      obtain ⟨a, rfl, ea⟩ : ∃ a, v = .ref a ∧ H2 a = some (.tup [.str f1, .str m1]) := by
        cases hvd with
        | tup _ e r =>
          cases r with | cons g0 r => cases r with | cons g1 r =>
          cases r
          obtain rfl := g0.str_inv.1
          obtain rfl := g1.str_inv.1
          exact ⟨_, rfl, e⟩
      have hSa : Sq H2 a _ := .inr ea
      refine ⟨_, rfl, _, _, _, _, rfl, rfl, hSa, atI_nat (j := 0) rfl, _, rfl, _, _, _, _, rfl, rfl, hSa, atI_nat (j := 1) rfl, ?_⟩
      refine pick_menu (j := 0) rfl L2.I.hand kinds_menu (by decide) (by decide) fun kv d H3 hd hkv k3 h3 => ?_
      obtain ⟨kk, rfl, hkk⟩ := kind_mem hd
      obtain rfl := hkv.str_inv.1
      have L3 := L2.kept o k3 h3
      refine ⟨_, rfl, _, rfl, _, _, rfl, rfl, ⟨by decide, by decide, by decide⟩, _, _, rfl, rfl, F.p, F.l, _, rfl, h3, by decide, by decide, fun nn H4 n0 n1 k4 h4 => ?_⟩
      have L4 := L3.kept o k4 h4
      refine ⟨(by show 6 ≤ sizeLine; decide), fun t nt => ?_⟩
      have s5 := same_upd (o := .tup [.str "born", .str f1, .str m1, .str kk, .str x, .int nn]) nt
      have L5 := L4.same s5
      have et : upd H4 t (.tup [.str "born", .str f1, .str m1, .str kk, .str x, .int nn]) t = some (.tup [.str "born", .str f1, .str m1, .str kk, .str x, .int nn]) := upd_same
      generalize upd H4 t (.tup [.str "born", .str f1, .str m1, .str kk, .str x, .int nn]) = H5 at L5 et ⊢
      have okk : okS kk = true := by rcases hkk with rfl | rfl <;> decide +kernel
      have vkk : kindV (.str kk) = true := by rcases hkk with rfl | rfl <;> decide +kernel
      have dt : Dt Any H5 (.ref t) (Rw.data (.born f1 m1 kk x nn)) := .tup trivial et (.cons (.str "born" (by decide) (by decide +kernel)) (.cons (okS_dt lf.2) (.cons (okS_dt lm.2) (.cons (okS_dt okk) (.cons (okS_dt L5.lab.2) (.cons (.int nn) .nil))))))
      have hS : Sq H5 t _ := .inr et
      have fr := L5.ok.fresh L5.ends
      have lk : (encK Z.kinds).length < sizeLine := by
        rw [show (encK Z.kinds).length = Z.kinds.length from List.length_map ..]
        exact lt_line L5.ok.sk (by omega)
      refine ⟨_, rfl, _, _, _, _, rfl, rfl, hS, atI_nat (j := 3) rfl, _, rfl, _, rfl, F.k, _, rfl, DPut.k (k := Sum.inr x) L5.I.hk lk, ?_⟩
      rw [put_enc2, put_new fr]
      have I6 := L5.I.put_k o (Z.kinds ++ [(x, kk)])
      have e2 : eL Z (.born f1 m1 kk x nn) = { Z with kinds := Z.kinds ++ [(x, kk)] } := by
        show { Z with kinds := putS Z.kinds x kk } = _
        rw [put_new fr]
      refine q _ _ ⟨fun i => ([y 0, y 5, some (.int j), y 1, y 2, some (.ref sS), some (.ref sD), some (.ref sC), some (.ref a), some (.ref sL), y 6] : List (Option V)).getD i.val none, x, t, .born f1 m1 kk x nn, Z, { Z with kinds := Z.kinds ++ [(x, kk)] }, Z.kinds, vs, os, rfl, ⟨I6.hand, I6.hD, I6.its, I6.hk, I6.ha, I6.hm, I6.hp⟩, ?_, L5.ok.come hkk L5.lab L5.ends, L5.hvs, L5.due, L5.hZ, L5.rows, L5.some_, ?_, ?_, e2, .row rfl (.born lf.1 lm.1 vkk L5.lab.1 ⟨n0, Int.lt_add_one_iff.mp n1⟩), ?_⟩
      · rw [if_pos (show newR (.born f1 m1 kk x nn) = true from rfl)]
        refine ⟨⟨kk, rfl⟩, fr, fun hd => ?_, ?_⟩
        · have z := L5.ok.dk x hd; rw [fr] at z; cases z
        · cases e : look Z.mates x with
          | none => rfl
          | some u => have z := (L5.ok.ma x u e).1; rw [fr] at z; cases z
      · exact dt.tups (Rw.noL _) fun a ys _ ea => upd_tups (o := .dK (encK (Z.kinds ++ [(x, kk)]))) L5.I.hk (fun ys z => by cases z) a ys ea
      · show jLb Z f1 m1 x = none
        unfold jLb
        have nf : (look Z.kinds f1).isNone = false := by
          cases e : look Z.kinds f1 with
          | none => have kf : (look Z.kinds f1).isSome = true := kf; rw [e] at kf; cases kf
          | some u => rfl
        have nm : (look Z.kinds m1).isNone = false := by
          cases e : look Z.kinds m1 with
          | none => have km : (look Z.kinds m1).isSome = true := km; rw [e] at km; cases km
          | some u => rfl
        rw [nf, nm, if_neg (by exact Bool.false_ne_true), if_neg (fun h => ?_), if_neg (by rw [fr]; exact Bool.false_ne_true)]
        rcases h with h | h | h
        · exact h qp
        · exact qf h
        · exact qm h
      · intro ys eys
        cases eys
        refine ⟨by simp, fun d hd ys eys => ?_⟩
        simp only [List.mem_cons, List.not_mem_nil, or_false] at hd
        rcases hd with rfl | rfl | rfl | rfl | rfl | rfl <;> cases eys
    · exact r1 F wd many n x j sS sD sC sL _ _ _ Z vs os ss dd ll cs cps o hn w2 L1 q
end
end K04

/-! a turn of the law's own record: a wedding -/
namespace K04
open PySem PySem.Spec PyProof.Rows L2
/-- == [] -/
theorem eq_nil {K : PySem.W.Frag} {H : Hp} {a e : Addr} {vs : List V} {ds : List PyData} {Q : VK} (ha : H a = some (.lst vs)) (hd : DtAll Any H vs ds) (dep : PyData.depthAll ds ≤ 60) (ne : H e = none) (q : Q (.bl ds.isEmpty) (upd H e (.lst []))) : rEqD K (.ref a) (.ref e) (upd H e (.lst [])) Q := by
  have s := same_upd (o := .lst []) ne
  have d1 : Dt Any (upd H e (.lst [])) (.ref a) (.list ds) := .lst trivial (s _ _ ha) (hd.same s)
  have d2 : Dt Any (upd H e (.lst [])) (.ref e) (.list []) := .lst trivial upd_same .nil
  refine ⟨_, _, d1.dp, d2.dp, shaped_of d1.lay (by show PyData.depthAll ds + 1 ≤ 64; omega), shaped_of d2.lay (show (1 : Nat) ≤ 64 by decide), ?_⟩
  rw [eqv_nil]
  exact q
section
variable {P : Program} {w : World} {K : PySem.W.Frag} {mg : Str → Option Value} {base : Heap}
theorem tFrA {f fD fP : Addr} {fdD fdP : FuncData} {cdv : Value} {A : Around} {outer : List Env} {s0 : Shared} {H0 : Hp} {E : XK} (z_len : mg "len" = none) (z_range : mg "range" = none) (z_tuple : mg "tuple" = none) (hr : Room 3 (A.deeper (envOfC "_law_free_record" (defScope sFreeRecord) s0.heap.objs.size f cdv)))
    (dD : Df P w K mg base "_law_draw" 2 ["_law_hand_here", "_law_many"] spDr fD fdD) (dP : Df P w K mg base "_law_pick" 3 ["_law_hand_here", "_law_things"] spPk fP fdP) :
    ∃ u, PSs (cxOf CX0 P w K mg base nmF "_law_free_record" (defScope sFreeRecord) f cdv A outer s0 H0 E).nox (sFr.drop 6) u ∧
      ∀ (F : Fp) (wd many n : Nat) (x : Str) (j : Int) (sS sD sC sL : Addr) (σ : L2.St) (H : Hp) (T : Ends) (Z : St) (vs : List V) (os : List (Option Rw)) (ss dd ll : List Str) (cs : List V) (cps : List (Str × Str)), FpOk' F → n < 26 → wd ≤ 2 →
        FrL F wd many n x j sS sD sC sL σ H Z vs os ss dd ll cs cps → (∀ σ' H', FrI F wd many (n + 1) σ' H' → T.nx σ' H') → u T σ H := by
  obtain ⟨u1, p1, r1⟩ := tFrB (P := P) (w := w) (base := base) (f := f) (cdv := cdv) (outer := outer) (H0 := H0) (E := E) z_len z_range z_tuple hr dD dP
  obtain ⟨u7, p7, r7⟩ := tFrT (P := P) (w := w) (K := K) (mg := mg) (base := base) (f := f) (cdv := cdv) (outer := outer) (H0 := H0) (E := E) hr
  have hu := hu_of hr
  have hr2 := hr.mono (show 2 ≤ 3 by decide)
  have hr3 := hr
  refine ⟨_, pss_cons (ps_if (PW.pt (pw_and (pt_cmpR (op_neD hr.units) (pv 13) (pe_lst pa_nil) (nomark _)) (pw_and (pt_cmpR (op_neD hr.units) (pv 14) (pe_lst pa_nil) (nomark _)) (pw_and1 (PW.pt (pw_or (pt_cmpR op_lt (pv 10) pe_int (nomark _)) (pw_or1 (pt_cmpR (op_eqD hr.units) (pv 15) (pe_lst pa_nil) (nomark _)))))))))
    (pss_cons (ps_set (i := 18) scFree.nd rfl (.inl rfl) (pe_tup (pa_cons pe_str (pa_cons (pe_call dP.ok hr3 (by rfl) dP.gl dP.kp dP.bi .nil pass0 (pa_cons (pv 0) (pa_cons (pv 13) pa_nil))) (pa_cons (pe_call dP.ok hr3 (by rfl) dP.gl dP.kp dP.bi .nil pass0 (pa_cons (pv 0) (pa_cons (pv 14) pa_nil))) pa_nil)))))
    (pss_cons (ps_dput hu (pv 6) (pe_ix ixS (pv 18) pe_int (fun _ _ => rfl)) (pe_ix ixS (pv 18) pe_int (fun _ _ => rfl)) rfl)
    (pss_cons (ps_dput hu (pv 6) (pe_ix ixS (pv 18) pe_int (fun _ _ => rfl)) (pe_ix ixS (pv 18) pe_int (fun _ _ => rfl)) rfl)
    (pss_one (ps_expr (pe_bm PySem.F.plainAttrs_list PySem.F.slot_list_append PySem.F.type_list_append mt_append (pv 7) (pa_cons (pe_tup (pa_cons (pe_ix ixS (pv 18) pe_int (fun _ _ => rfl)) (pa_cons (pe_ix ixS (pv 18) pe_int (fun _ _ => rfl)) pa_nil))) pa_nil))))))) p1) p7, ?_⟩
  intro F wd many n x j sS sD sC sL σ H T Z vs os ss dd ll cs cps o hn w2 L q
  have q7 : ∀ σ' H', FrU F wd many n σ' H' → u7 T σ' H' := fun σ' H' hU => r7 F wd many n σ' H' T o hn hU q
  have okG : ∀ {z : Str} {k : Str}, look Z.kinds z = some k → okS z = true := fun h => (L.ok.lb _ (by rw [h]; rfl)).1.2
  have okS1 : ∀ z ∈ ss, okS z = true := fun z hz => okG (L.gS z hz).1
  have okD1 : ∀ z ∈ dd, okS z = true := fun z hz => okG (L.gD z hz).1
  obtain ⟨y, rfl⟩ := L.sg
  refine ⟨_, rfl, (by show 0 ≤ sizeLine; decide), fun e ne => ne_nil L.hS (strs_dt okS1) (by rw [strs_depth]; decide) ne ⟨_, rfl, ?_⟩⟩
  have L1 := L.same (same_upd (o := .lst []) ne)
  generalize upd H e (.lst []) = H1 at L1 ⊢
  clear L
  cases ss with
  | nil => exact iteF (r1 F wd many n x j sS sD sC sL _ _ _ Z vs os [] dd ll cs cps o hn w2 L1 q7)
  | cons s1 ss' =>
  refine iteT ⟨_, rfl, (by show 0 ≤ sizeLine; decide), fun e2 ne2 => ne_nil L1.hD (strs_dt okD1) (by rw [strs_depth]; decide) ne2 ⟨_, rfl, ?_⟩⟩
  have L2 := L1.same (same_upd (o := .lst []) ne2)
  generalize upd H1 e2 (.lst []) = H2 at L2 ⊢
  clear L1
  cases dd with
  | nil => exact iteF (r1 F wd many n x j sS sD sC sL _ _ _ Z vs os (s1 :: ss') [] ll cs cps o hn w2 L2 q7)
  | cons d1 dd' =>
  have main : ∀ H3, FrL F wd many n x j sS sD sC sL [some (.ref F.p), some (.int (many : Int)), some (.int (wd : Int)), some (.ref F.D), some (.ref F.k), some (.ref F.a), some (.ref F.m), some (.ref F.p2), y 0, some (.str x), some (.int j), y 1, y 2, some (.ref sS), some (.ref sD), some (.ref sC), y 3, some (.ref sL), y 4, y 5, y 6] H3 Z vs os (s1 :: ss') (d1 :: dd') ll cs cps →
      (tSeq (tAsg (tTup (tCons (tC (.str "weds")) (tCons (tCall spPk [] E0 (tCons (tVar 0) (tCons (tVar 13) tNil))) (tCons (tCall spPk [] E0 (tCons (tVar 0) (tCons (tVar 14) tNil))) tNil)))) (gName 18))
        (tSeq (sDPut (tVar 6) (tOp rSq (tVar 18) (tC (.int 1))) (tOp rSq (tVar 18) (tC (.int 2))))
          (tSeq (sDPut (tVar 6) (tOp rSq (tVar 18) (tC (.int 2))) (tOp rSq (tVar 18) (tC (.int 1))))
            (tDrop (tBM K "list" rAppend (tVar 7) (tCons (tTup (tCons (tOp rSq (tVar 18) (tC (.int 1))) (tCons (tOp rSq (tVar 18) (tC (.int 2))) tNil))) tNil))))))
        { T with nx := u7 T } [some (.ref F.p), some (.int (many : Int)), some (.int (wd : Int)), some (.ref F.D), some (.ref F.k), some (.ref F.a), some (.ref F.m), some (.ref F.p2), y 0, some (.str x), some (.int j), y 1, y 2, some (.ref sS), some (.ref sD), some (.ref sC), y 3, some (.ref sL), y 4, y 5, y 6] H3 := by
    intro H3 L3
    refine ⟨_, rfl, _, rfl, F.p, F.l, sS, _, rfl, L3.I.hand, L3.hS, L3.nS, by simp, by rw [List.length_map]; exact Nat.le_trans L3.zS (by decide), fun v H4 hv k4 h4 => ?_⟩
    obtain ⟨f1, hf, rfl⟩ := List.mem_map.mp hv
    have L4 := L3.kept o k4 h4
    refine ⟨_, rfl, _, rfl, F.p, F.l, sD, _, rfl, L4.I.hand, L4.hD, L4.nD, by simp, by rw [List.length_map]; exact Nat.le_trans L4.zD (by decide), fun v H5 hv k5 h5 => ?_⟩
    obtain ⟨m1, hm, rfl⟩ := List.mem_map.mp hv
    have L5 := L4.kept o k5 h5
    obtain ⟨f2, f3, f4⟩ := L5.gS f1 hf
    obtain ⟨m2, m3, m4⟩ := L5.gD m1 hm
    have kf : (look Z.kinds f1).isSome = true := by rw [f2]; rfl
    have km : (look Z.kinds m1).isSome = true := by rw [m2]; rfl
    have lf := (L5.ok.lb _ kf).1
    have lm := (L5.ok.lb _ km).1
    refine ⟨(by show 3 ≤ sizeLine; decide), fun t nt => ?_⟩
    have s6 := same_upd (o := .tup [.str "weds", .str f1, .str m1]) nt
    have L6 := L5.same s6
    have et : upd H5 t (.tup [.str "weds", .str f1, .str m1]) t = some (.tup [.str "weds", .str f1, .str m1]) := upd_same
    generalize upd H5 t (.tup [.str "weds", .str f1, .str m1]) = H6 at L6 et ⊢
    have dt : Dt Any H6 (.ref t) (Rw.data (.weds f1 m1)) := .tup trivial et (.cons (.str "weds" (by decide) (by decide +kernel)) (.cons (okS_dt lf.2) (.cons (okS_dt lm.2) .nil)))
    have hS : Sq H6 t _ := .inr et
    have lk : ∀ g : Str → V, (dic g Z.kinds).length < sizeLine := fun g => by
      rw [show (dic g Z.kinds).length = Z.kinds.length from List.length_map ..]
      exact lt_line L6.ok.sk (by omega)
    obtain ⟨⟨n1, n2, n3, n4⟩, ⟨a1, a2, a3, a4⟩, ⟨q1, q2, q3, q4⟩⟩ := L6.I.nk
    obtain ⟨ts, ep, dp⟩ := L6.I.hp
    refine ⟨_, rfl, _, _, _, _, rfl, rfl, hS, atI_nat (j := 2) rfl, _, rfl, _, rfl, _, _, _, _, rfl, rfl, hS, atI_nat (j := 1) rfl, F.m, _, rfl, DPut.k (k := Sum.inr f1) L6.I.hm (lk _), ?_⟩
    rw [put_old kf]
    have t7 := upd_tups (o := .dK (dic (fun b => if b = f1 then V.str m1 else fM Z b) Z.kinds)) L6.I.hm (fun ys z => by cases z)
    have hS7 : Sq (upd H6 F.m (.dK (dic (fun b => if b = f1 then V.str m1 else fM Z b) Z.kinds))) t _ := .inr (t7 _ _ et)
    refine ⟨_, rfl, _, _, _, _, rfl, rfl, hS7, atI_nat (j := 1) rfl, _, rfl, _, rfl, _, _, _, _, rfl, rfl, hS7, atI_nat (j := 2) rfl, F.m, _, rfl, DPut.k (k := Sum.inr m1) upd_same (lk _), ?_⟩
    rw [put_old km, upd_upd]
    have ef : dic (fun b => if b = m1 then V.str f1 else if b = f1 then V.str m1 else fM Z b) Z.kinds = dic (fM (eL Z (.weds f1 m1))) Z.kinds := dic_congr fun b _ => by
      show (if b = m1 then V.str f1 else if b = f1 then V.str m1 else fM Z b) = optV (look (putS (putS Z.mates f1 m1) m1 f1) b)
      rw [look_put, look_put]
      by_cases h1 : b = m1
      · rw [if_pos h1, if_pos h1]; rfl
      · rw [if_neg h1, if_neg h1]
        by_cases h2 : b = f1
        · rw [if_pos h2, if_pos h2]; rfl
        · rw [if_neg h2, if_neg h2]; rfl
    rw [ef]
    have t8 := upd_tups (o := .dK (dic (fM (eL Z (.weds f1 m1))) Z.kinds)) L6.I.hm (fun ys z => by cases z)
    have hp8 : upd H6 F.m (.dK (dic (fM (eL Z (.weds f1 m1))) Z.kinds)) F.p2 = some (.lst ts) := (upd_ne (Ne.symm q4)).trans ep
    have dp8 : DtAll Any (upd H6 F.m (.dK (dic (fM (eL Z (.weds f1 m1))) Z.kinds))) ts (Z.pairs.map pairD) := dp.tups (noL_pairs _) fun a ys _ ea => t8 a ys ea
    have hS8 : Sq (upd H6 F.m (.dK (dic (fM (eL Z (.weds f1 m1))) Z.kinds))) t _ := .inr (t8 _ _ et)
    have hand8 := L6.I.hand.app q1 q2 (o := .dK (dic (fM (eL Z (.weds f1 m1))) Z.kinds))
    have hD8 : upd H6 F.m (.dK (dic (fM (eL Z (.weds f1 m1))) Z.kinds)) F.D = some (.lst vs) := (upd_ne (Ne.symm q3)).trans L6.I.hD
    have its8 : DtAll Any (upd H6 F.m (.dK (dic (fM (eL Z (.weds f1 m1))) Z.kinds))) vs (os.map datO) := L6.I.its.tups (noL_dat os) fun a ys _ ea => t8 a ys ea
    have hk8 : upd H6 F.m (.dK (dic (fM (eL Z (.weds f1 m1))) Z.kinds)) F.k = some (.dK (encK Z.kinds)) := (upd_ne o.km).trans L6.I.hk
    have ha8 : upd H6 F.m (.dK (dic (fM (eL Z (.weds f1 m1))) Z.kinds)) F.a = some (.dK (dic (fA Z) Z.kinds)) := (upd_ne o.am).trans L6.I.ha
    have hm8 : upd H6 F.m (.dK (dic (fM (eL Z (.weds f1 m1))) Z.kinds)) F.m = some (.dK (dic (fM (eL Z (.weds f1 m1))) Z.kinds)) := upd_same
    have dt8 := dt.tups (Rw.noL _) fun a ys _ ea => t8 a ys ea
    generalize upd H6 F.m (.dK (dic (fM (eL Z (.weds f1 m1))) Z.kinds)) = H8 at hp8 dp8 hS8 hand8 hD8 its8 hk8 ha8 hm8 dt8 ⊢
    have lts : ts.length < sizeLine := by
      rw [dp8.len, List.length_map]
      exact lt_line L6.ok.sp (by omega)
    refine ⟨_, rfl, .inl ⟨rfl, _, SqL.of hp8⟩, _, rfl, _, _, _, _, rfl, rfl, hS8, atI_nat (j := 1) rfl, _, rfl, _, _, _, _, rfl, rfl, hS8, atI_nat (j := 2) rfl, (by show 2 ≤ sizeLine; decide), fun b nb => ?_⟩
    have s9 := same_upd (o := .tup [.str f1, .str m1]) nb
    have eb : upd H8 b (.tup [.str f1, .str m1]) b = some (.tup [.str f1, .str m1]) := upd_same
    generalize upd H8 b (.tup [.str f1, .str m1]) = H9 at s9 eb ⊢
    have dp9 := dp8.same s9
    refine ⟨F.p2, ts, _, rfl, rfl, s9 _ _ hp8, lts, ?_⟩
    have tA := upd_tups (o := .lst (ts ++ [.ref b])) (s9 _ _ hp8) (fun ys z => by cases z)
    have db : Dt Any H9 (.ref b) (pairD (f1, m1)) := .tup trivial eb (.cons (okS_dt lf.2) (.cons (okS_dt lm.2) .nil))
    refine q7 _ _ ⟨fun i => ([y 0, y 5, some (.int j), y 1, y 2, some (.ref sS), some (.ref sD), some (.ref sC), y 3, some (.ref sL), y 6] : List (Option V)).getD i.val none, x, t, .weds f1 m1, Z, eL Z (.weds f1 m1), Z.kinds, vs, os, rfl,
      ⟨(hand8.same s9).app o.p2p o.p2l, (upd_ne o.D2).trans (s9 _ _ hD8), (its8.same s9).tups (noL_dat os) fun a ys _ ea => tA a ys ea, (upd_ne n4).trans (s9 _ _ hk8), (upd_ne a4).trans (s9 _ _ ha8), (upd_ne q4).trans (s9 _ _ hm8), _, upd_same, ?_⟩,
      rfl, L6.ok.wed kf km, L6.hvs, L6.due, L6.hZ, L6.rows, L6.some_, (dt8.same s9).tups (Rw.noL _) fun a ys _ ea => tA a ys ea, ?_, rfl, .row rfl (.weds lf.1 lm.1), ?_⟩
    · show DtAll Any _ (ts ++ [V.ref b]) ((Z.pairs ++ [(f1, m1)]).map pairD)
      rw [List.map_append]
      exact (dp9.tups (noL_pairs _) fun a ys _ ea => tA a ys ea).app (.cons (db.tups rfl fun a ys _ ea => tA a ys ea) .nil)
    · show jLw Z f1 m1 = none
      unfold jLw
      have nf : (look Z.kinds f1).isNone = false := by rw [f2]; rfl
      have nm : (look Z.kinds m1).isNone = false := by rw [m2]; rfl
      rw [nf, nm, if_neg (by exact Bool.false_ne_true), if_neg (fun h => h.elim (fun h => h f2) fun h => h m2), if_neg (fun h => h.elim (fun h => f3 h) fun h => m3 h), f4, m4]
      rfl
    · intro ys eys
      cases eys
      refine ⟨by simp, fun d hd ys eys => ?_⟩
      simp only [List.mem_cons, List.not_mem_nil, or_false] at hd
      rcases hd with rfl | rfl | rfl <;> cases eys
  refine iteT ⟨_, rfl, _, _, rfl, rfl, _, rfl, ite2 (fun g => ?_) (fun g => ?_)⟩
  · exact main H2 L2
  · refine ⟨_, rfl, (by show 0 ≤ sizeLine; decide), fun e3 ne3 => eq_nil L2.hC L2.hc (Nat.le_trans (depth_pairs _) (by decide)) ne3 ⟨_, rfl, ?_⟩⟩
    have L3 := L2.same (same_upd (o := .lst []) ne3)
    generalize upd H2 e3 (.lst []) = H3 at L3 ⊢
    clear L2
    cases cps with
    | nil => exact iteT (main H3 L3)
    | cons c0 cps' => exact iteF (r1 F wd many n x j sS sD sC sL _ _ _ Z vs os (s1 :: ss') (d1 :: dd') ll cs (c0 :: cps') o hn w2 L3 q7)
end
end K04

/-! a turn of the law's own record: its lists -/
namespace K04
open PySem PySem.Spec PyProof.Rows L2
theorem dget_dic {H : Hp} {a : Addr} {f : Str → V} {L : List (Str × Str)} {x : Str} (h : H a = some (.dK (dic f L))) (hx : (look L x).isSome = true) : DGet H a (.str x) (some (f x)) := by
  have z := DGet.k (k := Sum.inr x) h
  rw [valV_dic, if_pos hx] at z
  exact z
theorem dget_enc {H : Hp} {a : Addr} {L : List (Str × Str)} {x k : Str} (h : H a = some (.dK (encK L))) (hx : look L x = some k) : DGet H a (.str x) (some (.str k)) := by
  have z := DGet.k (k := Sum.inr x) h
  rw [valV_enc, hx] at z
  exact z
theorem key_in {L : List (Str × Str)} {i : Nat} {k : Key} {v : V} (e : (encK L)[i]? = some (k, v)) : ∃ x, k = Sum.inr x ∧ (look L x).isSome = true := by
  unfold encK at e
  rw [List.getElem?_map] at e
  cases z : L[i]? with
  | none => rw [z] at e; cases e
  | some q =>
    rw [z] at e
    cases e
    refine ⟨q.1, rfl, ?_⟩
    unfold look
    rw [Option.isSome_map]
    exact List.find?_isSome.mpr ⟨q, List.mem_of_getElem? z, decide_eq_true rfl⟩
theorem keep_one {H0 H6 : Hp} {D : Addr} {i : Nat} {acc : List Str} {z : Str} {g : Str → Prop} (nD : H0 D = none) (s6 : Same H0 H6) (ha : acc.length ≤ i) (hi : i < 26) (eD : H6 D = some (.lst (acc.map V.str))) (hg : ∀ y ∈ acc, g y) (hz : g z) :
    ∃ acc' : List V, H6 D = some (.lst acc') ∧ acc'.length < sizeLine ∧ Same H0 (upd H6 D (.lst (acc' ++ [V.str z]))) ∧ ∃ acc1 : List Str, acc1.length ≤ i + 1 ∧ upd H6 D (.lst (acc' ++ [V.str z])) D = some (.lst (acc1.map V.str)) ∧ ∀ y ∈ acc1, g y := by
  refine ⟨_, eD, lt_line (by rw [List.length_map]; exact ha) (by omega), fun y o e => ?_, acc ++ [z], by rw [List.length_append]; exact Nat.succ_le_succ ha, by rw [upd_same, List.map_append]; rfl, fun y hy => ?_⟩
  · rw [upd_ne (ne_of_none e nD)]
    exact s6 _ _ e
  · rcases List.mem_append.mp hy with hy | hy
    · exact hg y hy
    · rw [List.mem_singleton.mp hy]; exact hz
section
variable {P : Program} {w : World} {K : PySem.W.Frag} {mg : Str → Option Value} {base : Heap}
theorem tFrS {f fD fP fL : Addr} {fdD fdP fdL : FuncData} {cdv : Value} {A : Around} {outer : List Env} {s0 : Shared} {H0 : Hp} {E : XK} (z_len : mg "len" = none) (z_range : mg "range" = none) (z_tuple : mg "tuple" = none) (hr : Room 3 (A.deeper (envOfC "_law_free_record" (defScope sFreeRecord) s0.heap.objs.size f cdv)))
    (dD : Df P w K mg base "_law_draw" 2 ["_law_hand_here", "_law_many"] spDr fD fdD) (dP : Df P w K mg base "_law_pick" 3 ["_law_hand_here", "_law_things"] spPk fP fdP) (dL : Df P w K mg base "_law_label" 3 ["_law_hand_here", "_law_k"] spLbl fL fdL) :
    ∃ u, PSs (cxOf CX0 P w K mg base nmF "_law_free_record" (defScope sFreeRecord) f cdv A outer s0 H0 E).nox sFr u ∧
      ∀ (F : Fp) (wd many n : Nat) (σ : L2.St) (H : Hp) (T : Ends), FpOk' F → n < 26 → wd ≤ 2 → σ[8]? = some (some (.int (n : Int))) → FrI F wd many n σ H → (∀ σ' H', FrI F wd many (n + 1) σ' H' → T.nx σ' H') → u T σ H := by
  obtain ⟨u6, p6, r6⟩ := tFrA (P := P) (w := w) (base := base) (f := f) (cdv := cdv) (outer := outer) (H0 := H0) (E := E) z_len z_range z_tuple hr dD dP
  have hu := hu_of hr
  have hr2 := hr.mono (show 2 ≤ 3 by decide)
  have hr3 := hr
  refine ⟨_, (pss_cons (ps_par (i := 9) (j := 10) rfl scFree.nd rfl rfl (by decide) rfl rfl (pa_cons (pe_call dL.ok hr3 (by rfl) dL.gl dL.kp dL.bi .nil pass0 (pa_cons (pv 0) (pa_cons (pv 8) pa_nil))) (pa_cons (pe_call dD.ok hr2 (by rfl) dD.gl dD.kp dD.bi .nil pass0 (pa_cons (pv 0) (pa_cons pe_int pa_nil))) pa_nil)) rfl)
    (pss_cons (ps_lock (ps_setLc (i := 11) (own := [("_law_one", 12)]) (g := gName 12) rfl scFree.nd rfl rfl (sw_true rfl rfl rfl (by decide +kernel)) (pi_keys (pv 4)) (blkOk_by (N := ["_law_hand_here", "_law_many", "_law_width", "_law_rows", "_law_kinds", "_law_alive", "_law_mates", "_law_pairs", "_law_k", "_law_label_here", "_law_sort", "_law_unwed", "_law_one", "_law_sons", "_law_daughters", "_law_couples", "_law_pair", "_law_living", "_law_row", "_law_kind", "_law_j"]) (sc := defScope sFreeRecord) (by decide +kernel)) (fun _ _ _ _ _ => pg_name (i := 12) scFree.nd rfl (Or.inl rfl)) (fun _ _ _ _ _ => pts_one (PW.pt (pw_and (pt_val (pe_dget hu (pv 5) (pv 12) (fun _ _ => rfl))) (pw_and1 (PW.pt (pw_or (pt_cmpR op_isN (pe_dget hu (pv 6) (pv 12) (fun _ _ => rfl)) pe_non (nomark _)) (pw_or1 (pt_not (pt_val (pe_dget hu (pv 5) (pe_dget hu (pv 6) (pv 12) (fun _ _ => rfl)) (fun _ _ => rfl))))))))))) (fun _ _ _ _ _ => (pv 12))))
    (pss_cons (ps_setLc (i := 13) (own := [("_law_one", 12)]) (g := gName 12) rfl scFree.nd rfl rfl (sw_true rfl rfl rfl (by decide +kernel)) (pi_list (pv 11)) (blkOk_by (N := ["_law_hand_here", "_law_many", "_law_width", "_law_rows", "_law_kinds", "_law_alive", "_law_mates", "_law_pairs", "_law_k", "_law_label_here", "_law_sort", "_law_unwed", "_law_one", "_law_sons", "_law_daughters", "_law_couples", "_law_pair", "_law_living", "_law_row", "_law_kind", "_law_j"]) (sc := defScope sFreeRecord) (by decide +kernel)) (fun _ _ _ _ _ => pg_name (i := 12) scFree.nd rfl (Or.inl rfl)) (fun _ _ _ _ _ => pts_one (pt_cmpR op_eq (pe_dget hu (pv 4) (pv 12) (fun _ _ => rfl)) pe_str (nomark _))) (fun _ _ _ _ _ => (pv 12)))
    (pss_cons (ps_setLc (i := 14) (own := [("_law_one", 12)]) (g := gName 12) rfl scFree.nd rfl rfl (sw_true rfl rfl rfl (by decide +kernel)) (pi_list (pv 11)) (blkOk_by (N := ["_law_hand_here", "_law_many", "_law_width", "_law_rows", "_law_kinds", "_law_alive", "_law_mates", "_law_pairs", "_law_k", "_law_label_here", "_law_sort", "_law_unwed", "_law_one", "_law_sons", "_law_daughters", "_law_couples", "_law_pair", "_law_living", "_law_row", "_law_kind", "_law_j"]) (sc := defScope sFreeRecord) (by decide +kernel)) (fun _ _ _ _ _ => pg_name (i := 12) scFree.nd rfl (Or.inl rfl)) (fun _ _ _ _ _ => pts_one (pt_cmpR op_eq (pe_dget hu (pv 4) (pv 12) (fun _ _ => rfl)) pe_str (nomark _))) (fun _ _ _ _ _ => (pv 12)))
    (pss_cons (ps_setLc (i := 15) (own := [("_law_pair", 16)]) (g := gName 16) rfl scFree.nd rfl rfl (sw_true rfl rfl rfl (by decide +kernel)) (pi_list (pv 7)) (blkOk_by (N := ["_law_hand_here", "_law_many", "_law_width", "_law_rows", "_law_kinds", "_law_alive", "_law_mates", "_law_pairs", "_law_k", "_law_label_here", "_law_sort", "_law_unwed", "_law_one", "_law_sons", "_law_daughters", "_law_couples", "_law_pair", "_law_living", "_law_row", "_law_kind", "_law_j"]) (sc := defScope sFreeRecord) (by decide +kernel)) (fun _ _ _ _ _ => pg_name (i := 16) scFree.nd rfl (Or.inl rfl)) (fun _ _ _ _ _ => pts_one (PW.pt (pw_and (pt_val (pe_dget hu (pv 5) (pe_ix ixS (pv 16) pe_int (fun _ _ => rfl)) (fun _ _ => rfl))) (pw_and1 (pt_val (pe_dget hu (pv 5) (pe_ix ixS (pv 16) pe_int (fun _ _ => rfl)) (fun _ _ => rfl))))))) (fun _ _ _ _ _ => (pv 16)))
    (pss_cons (ps_lock (ps_setLc (i := 17) (own := [("_law_one", 12)]) (g := gName 12) rfl scFree.nd rfl rfl (sw_true rfl rfl rfl (by decide +kernel)) (pi_keys (pv 4)) (blkOk_by (N := ["_law_hand_here", "_law_many", "_law_width", "_law_rows", "_law_kinds", "_law_alive", "_law_mates", "_law_pairs", "_law_k", "_law_label_here", "_law_sort", "_law_unwed", "_law_one", "_law_sons", "_law_daughters", "_law_couples", "_law_pair", "_law_living", "_law_row", "_law_kind", "_law_j"]) (sc := defScope sFreeRecord) (by decide +kernel)) (fun _ _ _ _ _ => pg_name (i := 12) scFree.nd rfl (Or.inl rfl)) (fun _ _ _ _ _ => pts_one (pt_val (pe_dget hu (pv 5) (pv 12) (fun _ _ => rfl)))) (fun _ _ _ _ _ => (pv 12))))
    p6)))))), ?_⟩
  rintro F wd many n σ H T o hn w2 h8 ⟨y, Z, vs, os, rfl, I, ok, hvs, due, hZ, rows, some_⟩ q
  have h8 : y 0 = some (.int (n : Int)) := Option.some.inj h8
  refine ⟨_, rfl, _, congrArg some h8, F.p, F.l, n, rfl, I.hand, hn, fun x H1 lx ex k1 h1 => ?_⟩
  have I1 := I.kept o k1 h1
  refine ⟨_, rfl, F.p, F.l, 8, rfl, h1, by decide, by decide, fun j H2 j0 j8 k2 h2 => ⟨_, _, rfl, ?_⟩⟩
  have I2 := I1.kept o k2 h2
  clear I I1 k1 h1 k2 h2
  obtain ⟨⟨n1, n2, n3, n4⟩, ⟨a1, a2, a3, a4⟩, ⟨q1, q2, q3, q4⟩⟩ := I2.nk
  refine ⟨F.k, _, I2.hk, trivial, fun od => ?_⟩
  have haL : upd H2 F.k (.frz od (.dK (encK Z.kinds))) F.a = some (.dK (dic (fA Z) Z.kinds)) := (upd_ne (Ne.symm o.ka)).trans I2.ha
  have hmL : upd H2 F.k (.frz od (.dK (encK Z.kinds))) F.m = some (.dK (dic (fM Z) Z.kinds)) := (upd_ne (Ne.symm o.km)).trans I2.hm
  refine ⟨_, rfl, F.k, od, rfl, .inl ⟨_, upd_same, fun D nD => lc_it walk_keys (fun i H' => Same (upd H2 F.k (.frz od (.dK (encK Z.kinds)))) H' ∧ ∃ acc : List Str, acc.length ≤ i ∧ H' D = some (.lst (acc.map V.str)) ∧ ∀ z ∈ acc, (look Z.kinds z).isSome = true ∧ ¬ z ∈ Z.dead ∧ hasMate Z z = false) ⟨same_upd nD, [], Nat.le_refl _, upd_same, fun z hz => by cases hz⟩ (fun i H' _ h => h.1 _ _ upd_same) ?_ ?_⟩⟩
  · rintro i v H6 H7 hi ⟨s6, acc, ha, eD, hg⟩ ⟨rfl, kk, vv, ek, rfl⟩
    obtain ⟨z, rfl, hz⟩ := key_in ek
    have hi' : i < 26 := by
      have z := ok.sk
      rw [show (encK Z.kinds).length = Z.kinds.length from List.length_map ..] at hi
      omega
    have haH := s6 _ _ haL
    have hmH := s6 _ _ hmL
    refine ⟨rfl, _, rfl, _, rfl, F.a, _, rfl, dget_dic haH hz, _, rfl, ?_⟩
    by_cases hd : z ∈ Z.dead
    · rw [decide_eq_true hd]
      exact iteF ⟨s6, acc, Nat.le_succ_of_le ha, eD, hg⟩
    · rw [decide_eq_false hd]
      refine iteT ⟨_, rfl, _, rfl, F.m, _, rfl, dget_dic hmH hz, rfl, _, rfl, ?_⟩
      cases em : look Z.mates z with
      | none =>
        have e2 : fM Z z = .non := by unfold fM; rw [em]; rfl
        rw [e2]
        exact iteT (iteT ⟨_, rfl, keep_one nD s6 ha hi' eD hg ⟨hz, hd, by unfold hasMate; rw [em]⟩⟩)
      | some u =>
        have e2 : fM Z z = .str u := by unfold fM; rw [em]; rfl
        have hu2 := (ok.ma z u em).2
        rw [e2]
        refine iteF ⟨_, rfl, _, rfl, _, rfl, F.m, _, rfl, dget_dic hmH hz, F.a, _, rfl, by rw [e2]; exact dget_dic haH hu2, _, rfl, ?_⟩
        by_cases hud : u ∈ Z.dead
        · rw [decide_eq_true hud]
          exact iteT ⟨_, rfl, keep_one nD s6 ha hi' eD hg ⟨hz, hd, by unfold hasMate; rw [em]; show (!decide (u ∈ Z.dead)) = false; rw [decide_eq_true hud]; rfl⟩⟩
        · rw [decide_eq_false hud]
          exact iteF ⟨s6, acc, Nat.le_succ_of_le ha, eD, hg⟩
  rintro H3 ⟨s3, uw, luw, euw, guw⟩
  have luw : uw.length ≤ 25 + 1 := Nat.le_trans luw (by rw [show (encK Z.kinds).length = Z.kinds.length from List.length_map ..]; have := ok.sk; omega)
  refine ⟨s3 _ _ upd_same, ?_⟩
  have sl := unlock I2.hk s3
  have nDk : D ≠ F.k := Ne.symm (ne_of_none upd_same nD)
  have I3 := I2.same sl
  have eU : upd H3 F.k (.dK (encK Z.kinds)) D = some (.lst (uw.map V.str)) := (upd_ne nDk).trans euw
  have nD2 : H2 D = none := by rw [upd_ne nDk] at nD; exact nD
  have nDp : D ≠ F.p := I2.hand.nn nD2
  generalize upd H3 F.k (.dK (encK Z.kinds)) = H4 at I3 eU sl ⊢
  clear nD nDk euw s3 haL hmL
  refine ⟨_, rfl, D, rfl, ⟨_, SqL.of eU⟩, fun DS nDS => lc_it walk_list (fun i H' => Same H4 H' ∧ ∃ acc : List Str, acc.length ≤ i ∧ H' DS = some (.lst (acc.map V.str)) ∧ ∀ z ∈ acc, look Z.kinds z = some sonK ∧ ¬ z ∈ Z.dead ∧ hasMate Z z = false) ⟨same_upd nDS, [], Nat.le_refl _, upd_same, fun z hz => by cases hz⟩ (fun i H' _ h => SqL.of (h.1 _ _ eU)) ?_ ?_⟩
  · rintro i v H6 H7 hi ⟨s6, acc, ha, eD, hg⟩ ⟨rfl, hv⟩
    have hi' : i < 26 := by rw [List.length_map] at hi; omega
    obtain ⟨z, hz, rfl⟩ := List.mem_map.mp (List.mem_of_getElem? hv)
    obtain ⟨g1, g2, g3⟩ := guw z hz
    cases ek : look Z.kinds z with
    | none => rw [ek] at g1; cases g1
    | some k =>
      refine ⟨rfl, _, rfl, _, rfl, F.k, _, rfl, dget_enc (s6 _ _ I3.hk) ek, rfl, _, rfl, ite2 (fun g => ?_) (fun g => ⟨s6, acc, Nat.le_succ_of_le ha, eD, hg⟩)⟩
      have ek2 : k = sonK := V.str.inj (of_decide_eq_true g)
      exact ⟨_, rfl, keep_one nDS s6 ha hi' eD hg ⟨by rw [ek, ek2], g2, g3⟩⟩
  rintro H5 ⟨s5, ss, lss, ess, gss⟩
  have lss : ss.length ≤ 26 := by rw [List.length_map] at lss; omega
  have I5 := I3.same s5
  have eU5 := s5 _ _ eU
  have nSp : DS ≠ F.p := I3.hand.nn nDS
  refine ⟨_, rfl, D, rfl, ⟨_, SqL.of eU5⟩, fun DT nDT => lc_it walk_list (fun i H' => Same H5 H' ∧ ∃ acc : List Str, acc.length ≤ i ∧ H' DT = some (.lst (acc.map V.str)) ∧ ∀ z ∈ acc, look Z.kinds z = some dauK ∧ ¬ z ∈ Z.dead ∧ hasMate Z z = false) ⟨same_upd nDT, [], Nat.le_refl _, upd_same, fun z hz => by cases hz⟩ (fun i H' _ h => SqL.of (h.1 _ _ eU5)) ?_ ?_⟩
  · rintro i v H6 H7 hi ⟨s6, acc, ha, eD, hg⟩ ⟨rfl, hv⟩
    have hi' : i < 26 := by rw [List.length_map] at hi; omega
    obtain ⟨z, hz, rfl⟩ := List.mem_map.mp (List.mem_of_getElem? hv)
    obtain ⟨g1, g2, g3⟩ := guw z hz
    cases ek : look Z.kinds z with
    | none => rw [ek] at g1; cases g1
    | some k =>
      refine ⟨rfl, _, rfl, _, rfl, F.k, _, rfl, dget_enc (s6 _ _ I5.hk) ek, rfl, _, rfl, ite2 (fun g => ?_) (fun g => ⟨s6, acc, Nat.le_succ_of_le ha, eD, hg⟩)⟩
      have ek2 : k = dauK := V.str.inj (of_decide_eq_true g)
      exact ⟨_, rfl, keep_one nDT s6 ha hi' eD hg ⟨by rw [ek, ek2], g2, g3⟩⟩
  rintro H6 ⟨s6, dd, ldd, edd, gdd⟩
  have ldd : dd.length ≤ 26 := by rw [List.length_map] at ldd; omega
  have I6 := I5.same s6
  have nTp : DT ≠ F.p := I5.hand.nn nDT
  have ess6 := s6 _ _ ess
  clear ess eU5 eU
  obtain ⟨ts, ep, dp⟩ := I6.hp
  have lts : ts.length ≤ 26 := by rw [dp.len, List.length_map]; have := ok.sp; omega
  refine ⟨_, rfl, F.p2, rfl, ⟨_, SqL.of ep⟩, fun DC nDC => lc_it walk_list (fun i H' => Same H6 H' ∧ ∃ (acc : List V) (cps : List (Str × Str)), acc.length ≤ i ∧ H' DC = some (.lst acc) ∧ DtAll Any H' acc (cps.map pairD) ∧ ∀ q ∈ cps, q ∈ Z.pairs ∧ ¬ q.1 ∈ Z.dead ∧ ¬ q.2 ∈ Z.dead) ⟨same_upd nDC, [], [], Nat.le_refl _, upd_same, .nil, fun q hq => by cases hq⟩ (fun i H' _ h => SqL.of (h.1 _ _ ep)) ?_ ?_⟩
  · rintro i v H7 H8 hi ⟨s7, acc, cps, ha, eD, hc, hg⟩ ⟨rfl, hv⟩
    have hi' : i < 26 := by omega
    obtain ⟨d, ed, hvd⟩ := dp.get hv
    obtain ⟨⟨f1, m1⟩, hq, rfl⟩ := List.mem_map.mp (List.mem_of_getElem? ed)
    obtain ⟨kf, km⟩ := ok.pk _ hq
    have hvd7 := hvd.same s7
    obtain ⟨a, rfl, ea⟩ : ∃ a, v = .ref a ∧ H8 a = some (.tup [.str f1, .str m1]) := by
      cases hvd7 with
      | tup _ e r =>
        cases r with | cons g0 r => cases r with | cons g1 r =>
        cases r
        obtain rfl := g0.str_inv.1
        obtain rfl := g1.str_inv.1
        exact ⟨_, rfl, e⟩
    have hS : Sq H8 a _ := .inr ea
    have haH := s7 _ _ I6.ha
    refine ⟨rfl, _, rfl, _, rfl, _, _, _, _, rfl, rfl, hS, atI_nat (j := 0) rfl, F.a, _, rfl, dget_dic haH kf, _, rfl, ?_⟩
    by_cases hd : f1 ∈ Z.dead
    · rw [decide_eq_true hd]
      exact iteF ⟨s7, acc, cps, Nat.le_succ_of_le ha, eD, hc, hg⟩
    · rw [decide_eq_false hd]
      refine iteT ⟨_, rfl, _, rfl, _, _, _, _, rfl, rfl, hS, atI_nat (j := 1) rfl, F.a, _, rfl, dget_dic haH km, _, rfl, ?_⟩
      by_cases hd2 : m1 ∈ Z.dead
      · rw [decide_eq_true hd2]
        exact iteF ⟨s7, acc, cps, Nat.le_succ_of_le ha, eD, hc, hg⟩
      · rw [decide_eq_false hd2]
        have tt := upd_tups (o := .lst (acc ++ [.ref a])) eD (fun ys z => by cases z)
        refine iteT ⟨_, rfl, acc, eD, lt_line ha (by omega), fun y' o' e' => ?_, acc ++ [.ref a], cps ++ [(f1, m1)], by rw [List.length_append]; exact Nat.succ_le_succ ha, upd_same, ?_, fun q' hq' => ?_⟩
        · rw [upd_ne (ne_of_none e' nDC)]
          exact s7 _ _ e'
        · rw [List.map_append]
          exact (hc.tups (noL_pairs _) fun a ys _ ea => tt a ys ea).app (.cons (hvd7.tups rfl fun a ys _ ea => tt a ys ea) .nil)
        · rcases List.mem_append.mp hq' with hq' | hq'
          · exact hg q' hq'
          · rw [List.mem_singleton.mp hq']; exact ⟨hq, hd, hd2⟩
  rintro H7 ⟨s7, cs, cps, lcs, ecs, hcs, gcs⟩
  have lcs : cs.length ≤ 26 := by omega
  have I7 := I6.same s7
  have nCp : DC ≠ F.p := I6.hand.nn nDC
  have ess7 := s7 _ _ ess6
  have edd7 := s7 _ _ edd
  refine ⟨F.k, _, I7.hk, trivial, fun od2 => ?_⟩
  have haL : upd H7 F.k (.frz od2 (.dK (encK Z.kinds))) F.a = some (.dK (dic (fA Z) Z.kinds)) := (upd_ne (Ne.symm o.ka)).trans I7.ha
  refine ⟨_, rfl, F.k, od2, rfl, .inl ⟨_, upd_same, fun DL nDL => lc_it walk_keys (fun i H' => Same (upd H7 F.k (.frz od2 (.dK (encK Z.kinds)))) H' ∧ ∃ acc : List Str, acc.length ≤ i ∧ H' DL = some (.lst (acc.map V.str)) ∧ ∀ z ∈ acc, (look Z.kinds z).isSome = true ∧ ¬ z ∈ Z.dead) ⟨same_upd nDL, [], Nat.le_refl _, upd_same, fun z hz => by cases hz⟩ (fun i H' _ h => h.1 _ _ upd_same) ?_ ?_⟩⟩
  · rintro i v H8 H9 hi ⟨s8, acc, ha, eD, hg⟩ ⟨rfl, kk, vv, ek, rfl⟩
    obtain ⟨z, rfl, hz⟩ := key_in ek
    have hi' : i < 26 := by
      have z := ok.sk
      rw [show (encK Z.kinds).length = Z.kinds.length from List.length_map ..] at hi
      omega
    refine ⟨rfl, _, rfl, _, rfl, F.a, _, rfl, dget_dic (s8 _ _ haL) hz, _, rfl, ?_⟩
    by_cases hd : z ∈ Z.dead
    · rw [decide_eq_true hd]
      exact iteF ⟨s8, acc, Nat.le_succ_of_le ha, eD, hg⟩
    · rw [decide_eq_false hd]
      exact iteT ⟨_, rfl, keep_one nDL s8 ha hi' eD hg ⟨hz, hd⟩⟩
  rintro H8 ⟨s8, ll, lll, ell, gll⟩
  have lll : ll.length ≤ 26 := Nat.le_trans lll (by rw [show (encK Z.kinds).length = Z.kinds.length from List.length_map ..]; have := ok.sk; omega)
  refine ⟨s8 _ _ upd_same, ?_⟩
  have sl2 := unlock I7.hk s8
  have nDk2 : DL ≠ F.k := Ne.symm (ne_of_none upd_same nDL)
  have nDL2 : H7 DL = none := by rw [upd_ne nDk2] at nDL; exact nDL
  have nLp : DL ≠ F.p := I7.hand.nn nDL2
  have I8 := I7.same sl2
  have eL8 : upd H8 F.k (.dK (encK Z.kinds)) DL = some (.lst (ll.map V.str)) := (upd_ne nDk2).trans ell
  refine r6 F wd many n x j DS DT DC DL _ _ _ Z vs os ss dd ll cs cps o hn w2 ⟨⟨fun i => ([some (.int (n : Int)), some (.ref D), y 4, y 8, y 10, y 11, y 12] : List (Option V)).getD i.val none, ?_⟩, I8, ok, hvs, due, hZ, rows, some_, lx, ex, sl2 _ _ ess7, sl2 _ _ edd7, sl2 _ _ ecs, hcs.same sl2, eL8, nSp, nTp, nCp, nLp, gss, gdd, gcs, gll, lss, ldd, by have := hcs.len; rw [List.length_map] at this; omega, lll⟩ q
  show _ = [_, _, _, _, _, _, _, _, some (V.int (n : Int)), _, _, _, _, _, _, _, _, _, _, _, _]
  rw [← h8]
  rfl
end
end K04

/-! the law's own record is made -/
namespace K04
open PySem PySem.Spec PyProof.Rows L2
def spFree : Sp := fun vs H Q _ => ∃ (p l : Addr) (many wd : Nat), vs = [.ref p, .int (many : Int), .int (wd : Int)] ∧ Hand p l H ∧ many ≤ 25 ∧ wd ≤ 2 ∧
  ∀ (D : Addr) (vs : List V) (os : List (Option Rw)) (H' : Hp), Hand p l H' → D ≠ p → D ≠ l → H' D = some (.lst vs) → DtAll Any H' vs (os.map datO) → vs.length = many → RowsD (os.map datO) os → faultO wd Bk.new 0 os = none → (∀ x, (look (bookO os).kinds x).isSome = true → x.length ≤ 3) → Q (.ref D) H'
theorem rel_fold {wd : Int} : ∀ (os : List (Option Rw)) {B : Bk} {Z : St} {i : Nat}, Rel B Z → BkOk B → dueO wd Z i os = none → Rel (os.foldl stepO B) (os.foldl eLO Z)
  | [], _, _, _, R, _, _ => R
  | none :: os, B, Z, i, R, o, h => by cases h
  | some r :: os, B, Z, i, R, o, h => by
    have h : (match jL Z wd r with | some z => some (i, z) | none => dueO wd (eL Z r) (i + 1) os) = none := h
    rw [← R.judge wd r] at h
    cases e : jP B wd r with
    | some z => rw [e] at h; cases h
    | none =>
      rw [e] at h
      exact rel_fold os (R.step o e) (o.step e) h
section
variable {P : Program} {w : World} {K : PySem.W.Frag} {mg : Str → Option Value} {base : Heap}
theorem ok_free {f fD fP fL : Addr} {fd fdD fdP fdL : FuncData} (F : FnP K "_law_free_record" sFreeRecord f fd) (z_range : mg "range" = none) (z_len : mg "len" = none) (z_tuple : mg "tuple" = none)
    (dD : Df P w K mg base "_law_draw" 2 ["_law_hand_here", "_law_many"] spDr fD fdD) (dP : Df P w K mg base "_law_pick" 3 ["_law_hand_here", "_law_things"] spPk fP fdP) (dL : Df P w K mg base "_law_label" 3 ["_law_hand_here", "_law_k"] spLbl fL fdL) : FnOk P w K mg base CX0 4 f fd ["_law_hand_here", "_law_many", "_law_width"] spFree := by
  refine F.ok scFree (fun vs H Q E h => ?_) (fun cdv A outer s H vs Q E hr h => ?_)
  · obtain ⟨p, l, many, wd, rfl, _⟩ := h
    rfl
  · obtain ⟨p, l, many, wd, rfl, hp, m25, w2, q⟩ := h
    obtain ⟨uS, pS, rS⟩ := tFrS (P := P) (w := w) (base := base) (f := f) (cdv := cdv) (outer := outer) (H0 := H) (E := E) z_len z_range z_tuple hr dD dP dL
    refine ⟨_, PSs.nox (pss_cons (ps_asg (pe_tup (pa_cons (pe_lst pa_nil) (pa_cons pe_dnewK (pa_cons pe_dnewK (pa_cons pe_dnewK (pa_cons (pe_lst pa_nil) pa_nil)))))) (pg_tup (by rfl) (pgs_cons (pg_name (i := 3) scFree.nd rfl (.inl rfl)) (pgs_cons (pg_name (i := 4) scFree.nd rfl (Or.inr rfl)) (pgs_cons (pg_name (i := 5) scFree.nd rfl (Or.inr rfl)) (pgs_cons (pg_name (i := 6) scFree.nd rfl (Or.inr rfl)) (pgs_cons (pg_name (i := 7) scFree.nd rfl (.inl rfl)) pgs_nil)))))))
      (pss_cons (ps_for PassesOwn.never rfl (pi_range1 (by rfl) z_range (pa_cons (pv 1) pa_nil)) (pg_name (i := 8) scFree.nd rfl (.inl rfl)) pS)
      (pss_one (ps_ret (pv 3))))), ?_⟩
    refine ⟨(by show 0 ≤ sizeLine; decide), fun D nD => ?_⟩
    intro k nk a na m nm
    refine ⟨(by show 0 ≤ sizeLine; decide), fun p2 np => ⟨(by show 5 ≤ sizeLine; decide), fun t nt => ?_⟩⟩
    have sD := same_upd (o := .lst []) nD
    have sk := same_upd (o := .dK []) nk
    have sa := same_upd (o := .dK []) na
    have sm := same_upd (o := .dK []) nm
    have sp := same_upd (o := .lst []) np
    have st := same_upd (o := .tup [.ref D, .ref k, .ref a, .ref m, .ref p2]) nt
    have eD := st _ _ (sp _ _ (sm _ _ (sa _ _ (sk _ _ (upd_same (H := H) (a := D) (o := .lst []))))))
    have ek := st _ _ (sp _ _ (sm _ _ (sa _ _ (upd_same (H := upd H D (.lst [])) (a := k) (o := .dK [])))))
    have ea := st _ _ (sp _ _ (sm _ _ (upd_same (H := upd (upd H D (.lst [])) k (.dK [])) (a := a) (o := .dK []))))
    have em := st _ _ (sp _ _ (upd_same (H := upd (upd (upd H D (.lst [])) k (.dK [])) a (.dK [])) (a := m) (o := .dK [])))
    have ep := st _ _ (upd_same (H := upd (upd (upd (upd H D (.lst [])) k (.dK [])) a (.dK [])) m (.dK [])) (a := p2) (o := .lst []))
    have hp' := (((((hp.same sD).same sk).same sa).same sm).same sp).same st
    have nDp := hp.nn nD
    have nDl := hp.nl nD
    have ka : k ≠ a := ne_of_none upd_same na
    have km : k ≠ m := ne_of_none (sa _ _ upd_same) nm
    have am : a ≠ m := ne_of_none upd_same nm
    have D2 : D ≠ p2 := ne_of_none (sm _ _ (sa _ _ (sk _ _ upd_same))) np
    have hpm := ((((hp.same sD).same sk).same sa).same sm)
    have p2p := hpm.nn np
    have p2l := hpm.nl np
    refine ⟨t, _, rfl, SqT.of upd_same, rfl, _, _, rfl, _, _, rfl, _, _, rfl, _, _, rfl, _, _, rfl, rfl, ?_⟩
    generalize upd (upd (upd (upd (upd (upd H D (.lst [])) k (.dK [])) a (.dK [])) m (.dK [])) p2 (.lst [])) t (.tup [.ref D, .ref k, .ref a, .ref m, .ref p2]) = H7 at eD ek ea em ep hp' ⊢
    clear sD sk sa sm sp st nD nk na nm np nt hpm
    have o : FpOk' ⟨p, l, D, k, a, m, p2⟩ := ⟨nDp, nDl, D2, p2p, p2l, ka, km, am⟩
    refine ⟨_, rfl, (many : Int), rfl, by omega, by omega, for_it walk_range (fun n σ H' => FrI ⟨p, l, D, k, a, m, p2⟩ wd many n σ H') ⟨fun _ => none, St.new, [], [], rfl, ⟨hp', eD, .nil, ek, ea, em, [], ep, .nil⟩, FrOk.new, rfl, rfl, rfl, .nil, fun o ho => by cases ho⟩ (fun _ _ _ _ _ => trivial) ?_ ?_⟩
    · rintro n yv σ H8 H9 hn ⟨y, Z, vs, os, rfl, I, ok, hvs, due, hZ, rows, some_⟩ ⟨rfl, rfl⟩
      show gName 8 (V.int (0 + (n : Int))) _ _ _
      rw [Int.zero_add]
      refine rS ⟨p, l, D, k, a, m, p2⟩ wd many n _ _ _ o (by omega) w2 rfl ⟨fun i => if i.val = 0 then some (.int (n : Int)) else y i, Z, vs, os, rfl, I, ok, hvs, due, hZ, rows, some_⟩ fun σ' H' z => z
    · rintro σ H8 ⟨y, Z, vs, os, rfl, I, ok, hvs, due, hZ, rows, some_⟩
      exact ⟨_, rfl, q D vs os H8 I.hand nDp nDl I.hD I.its (by omega) rows (by rw [due_new]; exact due) fun x hx => by
        rw [(rel_fold os Rel.new BkOk.new due).kinds, hZ] at hx
        obtain ⟨_, j, _, ej⟩ := ok.lb x hx
        exact ej.1⟩
end
end K04

/-! a record's own ==, with either answer -/
namespace K04
open PySem PySem.Spec PyProof.Rows L2
def spREqG (CR : Addr) : Sp := fun vs H Q _ => ∃ (a b : Addr) (wd wd2 : Int) (D D2 : PyData), vs = [.ref a, .ref b] ∧ RecAt CR H a wd D ∧ RecAt CR H b wd2 D2 ∧ D.depth ≤ 64 ∧ D2.depth ≤ 64 ∧ Q (.bl (decide (V.int wd = V.int wd2) && PyData.eqv D D2)) H
section
variable {P : Program} {w : World} {K : PySem.W.Frag} {mg : Str → Option Value} {base : Heap}
theorem ok_reqG {f CR : Addr} {fd : FuncData} (F : FunD K "__eq__" "Record.__eq__" (defArgs sREq) (defBody sREq) (defScope sREq) [] [] f fd) (T : RecC K CR) (zt : mg "type" = none) : FnOk P w K mg base CX0 1 f fd ["self", "other"] (spREqG CR) := by
  have sc : FnScope ["self", "other"] ["self", "other"] (defScope sREq) := ⟨rfl, rfl, rfl, by decide +kernel, rfl, by decide +kernel, by decide +kernel⟩
  refine F.ok sc (fun vs H Q E h => ?_) (fun cdv A outer s H vs Q E hr h => ?_)
  · obtain ⟨a, b, wd, wd2, D, D2, rfl, _⟩ := h
    rfl
  · obtain ⟨a, b, wd, wd2, D, D2, rfl, ⟨dx, ar, _, _, _, _, _, _, _, ha, hD⟩, ⟨dy, br, _, _, _, _, _, _, _, hb, hD2⟩, dep, dep2, q⟩ := h
    refine ⟨_, PSs.nox (pss_one (ps_ret (pe_and (pe_cmpR op_is_cls (pe_callTy cr_type (by rfl) zt (by decide +kernel) (pa_cons (pv 0) pa_nil)) (pe_callTy cr_type (by rfl) zt (by decide +kernel) (pa_cons (pv 1) pa_nil)) (nomark _)) (pe_and (pe_cmpR op_eq (pe_fld (pv 0) rfl) (pe_fld (pv 1) rfl) (nomark _)) (pe_one (pe_cmpR (op_eqD hr.units) (pe_fld (pv 0) rfl) (pe_fld (pv 1) rfl) (nomark _))))))), ?_⟩
    refine ⟨_, rfl, a, CR, dx, _, rfl, ha, _, rfl, b, CR, dy, _, rfl, hb, CR, CR, rfl, rfl, .inl rfl, ?_⟩
    rw [decide_eq_true rfl]
    refine ⟨_, rfl, iteT ?_⟩
    refine ⟨_, rfl, a, CR, dx, _, _, rfl, ha, T.cl, T.nWidth, rfl, _, rfl, b, CR, dy, _, _, rfl, hb, T.cl, T.nWidth, rfl, rfl, _, rfl, ?_⟩
    cases e : decide (V.int wd = V.int wd2) with
    | false =>
      rw [e, Bool.false_and] at q
      exact iteF q
    | true =>
      rw [e, Bool.true_and] at q
      exact iteT ⟨_, rfl, a, CR, dx, _, _, rfl, ha, T.cl, T.nRows, rfl, _, rfl, b, CR, dy, _, _, rfl, hb, T.cl, T.nRows, rfl, _, _, hD.dp, hD2.dp, shaped_of hD.lay dep, shaped_of hD2.lay dep2, q⟩
end
theorem eqvAll_len : ∀ {xs ys : List PyData}, PyData.eqvAll xs ys = true → xs.length = ys.length
  | [], [], _ => rfl
  | x :: xs, y :: ys, h => by
    rw [PyData.eqvAll] at h
    exact congrArg Nat.succ (eqvAll_len (Bool.and_eq_true_iff.mp h).2)
  | [], _ :: _, h => by cases h
  | _ :: _, [], h => by cases h
theorem rows_ne {os us : List (Option Rw)} (h : os.length ≠ us.length) : PyData.eqv (rowsD os) (rowsD us) = false := by
  cases e : PyData.eqv (rowsD os) (rowsD us) with
  | false => rfl
  | true =>
    have e : PyData.eqvAll (os.map datO) (us.map datO) = true := by
      unfold rowsD at e
      rw [PyData.eqv] at e
      exact e
    have z := eqvAll_len e
    rw [List.length_map, List.length_map] at z
    exact absurd z h
end K04

/-! != of two instances whose class has its own __eq__ -/
namespace K04
open PySem PySem.Spec PyProof.Rows L2
theorem slotNe : Slot "object" "__ne__" "object.__ne__" := .of (owner := "object") (n := "__ne__") (by rw [typeLookup_type, builtinLookup_eq_fast]; kernel_rfl) (by decide +kernel) (by decide +kernel) (by decide +kernel) (by first | exact .inl (by decide +kernel) | exact .inr (by decide +kernel)) (by rw [isSubtype_type]; kernel_rfl)
section
variable {prog : Program} {w : World} {A : Around} {E : Value → Shared → Prop} {s : Shared} {K : PySem.W.Frag} {x y C f : Addr} {ox oy : Obj} {od od2 : Option Obj}
theorem ne_own {Q : Value → Shared → Prop} (hu : A.units + 1 < cLine) (X : K.In s.heap) (I : PySem.W.InstAt s.heap x ox C od) (I2 : PySem.W.InstAt s.heap y oy C od2) (hne : PySem.W.findIn K (.ref C) "__ne__" = some (some (.builtin "object.__ne__")))
    (hs : PySem.W.findIn K (.ref C) "__eq__" = some (some (.ref f))) (hf : PySem.W.isFn K (.ref f) = true) (hob : PySem.W.mroIn K C (.type "object") = some true)
    (h : wpAny (model prog w) A.in1 (call (.ref f) [.ref x, .ref y]) (fun v s' => ∃ b, v = .bool b ∧ Q (.bool (!b)) s') E s) : wpAny (model prog w) A (richCompare .NotEq (.ref x) (.ref y)) Q E s := by
  have sub : PySem.W.Looks (model prog w) s.heap (isInstance (.ref x) (.type "object")) true := I.type.andThen (PySem.W.looks_mroIn X hob)
  have body : wpAny (model prog w) A.in1 (Builtin.«object.__ne__» ⟨[.ref x, .ref y], []⟩) (fun fin s' => ∃ v, fin = .done (.ret v) ∧ (∃ b, v = .bool b) ∧ Q v s') E s := by
    unfold Builtin.«object.__ne__»
    refine wpAny_bind (wpAny_pure ?_)
    refine wpAny_bind (wpAny_cRoomFor (by show A.units + 1 < cLine; exact hu) ?_)
    refine wpAny_bind (PySem.W.ifBound_K X I hs hf (wpAny_mono h (fun v s' hv => ?_) fun _ _ e => e))
    obtain ⟨b, rfl, q⟩ := hv
    refine wpAny_bind (wpAny_truthy_bool ?_)
    exact wpAny_pure ⟨_, rfl, ⟨_, rfl⟩, q⟩
  have run : wpAny (model prog w) A (call (.builtin "object.__ne__") [.ref x, .ref y]) (fun v s' => (∃ b, v = .bool b) ∧ Q v s') E s := by
    refine wpAny_call (codeAny_call_builtin slotNe.plain F.cmpEntry_ne ?_)
    have fin : ∀ s' , s' = s → wpAny (model prog w) A.in1 (Builtin.«object.__ne__» ⟨[.ref x, .ref y], []⟩) (fun fin s' => match fin with
        | .done f => (match (Except.ok f : Result) with | .ok (.ret v) => (∃ b, v = Value.bool b) ∧ Q v s' | .ok _ => False | .error e => E e s')
        | .again c' => c'.quiet = true ∧ codeAny (model prog w) A c' (fun r s' => match r with | .ok (.ret v) => (∃ b, v = Value.bool b) ∧ Q v s' | .ok _ => False | .error e => E e s') s') E s' := by
      rintro _ rfl
      refine wpAny_mono body (fun fin s' hv => ?_) fun _ _ e => e
      obtain ⟨v, rfl, hb, q⟩ := hv
      exact ⟨hb, q⟩
    simp only [checkBuiltinCall, F.cmpKind_ne, F.cmpSplit_ne]
    refine wpAny_bind (sub.here ?_)
    have ha := F.cmpArgs_ne (.ref x) (.ref y)
    cases hsig : Manifest.signature? "object.__ne__" with
    | none => exact wpAny_pure (fin s rfl)
    | some sig =>
      simp only [argsOk, hsig] at ha
      have h2 : Bind.checkArgs "object.__ne__" sig ⟨[.ref x, .ref y], []⟩ = pure () := ha
      show wpAny _ _ (Bind.checkArgs "object.__ne__" sig ⟨[.ref x, .ref y], []⟩) _ _ _
      rw [h2]
      exact wpAny_pure (fin s rfl)
  have one : wpAny (model prog w) A (tryCompare (.ref x) (cmpInfo .NotEq).2.1 (.ref y)) (fun r s' => ∃ v, r = some v ∧ Q v s') E s := by
    unfold tryCompare
    refine wpAny_bind (m := callSpecialIfBound? (.ref x) "__ne__" [.ref y]) ?_
    simp only [callSpecialIfBound?, bindSpecialIfBound?]
    refine wpAny_holding (wpAny_bind (wpAny_bind (wpAny_bind (I.type.here ((PySem.W.looks_findIn X hne).here ?_)))))
    refine wpAny_bind (wpAny_askSetting (wpAny_ite ?_))
    have fin : wpAny (model prog w) A (call (.builtin "object.__ne__") ([.ref x] ++ [.ref y]) >>= fun v => pure (some v)) (fun r s' => wpAny (model prog w) A (match r with
        | some Value.notImplemented => pure none
        | none => pure none
        | some u => pure (some u)) (fun r s' => ∃ v, r = some v ∧ Q v s') E s') E s := wpAny_bind (wpAny_mono run (fun v s' hv => by
      obtain ⟨⟨b, rfl⟩, q⟩ := hv
      exact wpAny_pure (wpAny_pure ⟨_, rfl, q⟩)) fun _ _ e => e)
    split
    · exact wpAny_bind (wpAny_of_eq (slotNe.bind _) (wpAny_pure (by exact fin)))
    · exact wpAny_tryCatch (wpAny_bind (wpAny_of_eq (slotNe.bind _) (wpAny_pure (by exact fin))))
  unfold richCompare
  simp only [oneThing_ref]
  refine wpAny_holding (wpAny_bind (wpAny_cRoomFor (by omega) ?_))
  refine wpAny_bind (I.type.here (wpAny_bind (I2.type.here ?_)))
  split
  · rename_i q
    simp at q
  · refine wpAny_bind (wpAny_pure ?_)
    simp only [Bool.false_eq_true, if_false]
    refine wpAny_bind (wpAny_mono one (fun r s' z => ?_) fun _ _ e => e)
    obtain ⟨v, rfl, hq⟩ := z
    exact wpAny_pure hq
end
/-- != of two instances -/
def rNeI (C : Addr) (sp : Sp) : R2 := fun x y H Q => ∃ (a b dx dy : Addr) (fs gs : List (Str × V)), x = .ref a ∧ y = .ref b ∧ H a = some (.ins C dx fs) ∧ H b = some (.ins C dy gs) ∧ sp [.ref a, .ref b] H (fun v H' => ∃ b, v = .bl b ∧ Q (.bl (!b)) H') E0
theorem op_neI {X : Cx} {n : Nat} {C f : Addr} {fd : FuncData} {ps : List Str} {sp : Sp} (F : FnOk X.prog X.w X.K X.mg X.base CX0 n f fd ps sp) (hne : PySem.W.findIn X.K (.ref C) "__ne__" = some (some (.builtin "object.__ne__")))
    (hs : PySem.W.findIn X.K (.ref C) "__eq__" = some (some (.ref f))) (hf : PySem.W.isFn X.K (.ref f) = true) (hob : PySem.W.mroIn X.K C (.type "object") = some true) (hb : Binds X.K fd ps []) (hr : Room (n + 1) X.A) : OpR X (compareOp .NotEq) (rNeI C sp) := by
  intro pins s σ H x y u v Q I rx ry h
  obtain ⟨a, b, dx, dy, fs, gs, rfl, rfl, ha, hb2, hsp⟩ := h
  cases rx
  cases ry
  obtain ⟨mA, J, _⟩ := ins_get I.hok ha
  obtain ⟨od, J, _⟩ := J.look
  obtain ⟨mA2, J2, _⟩ := ins_get I.hok hb2
  obtain ⟨od2, J2, _⟩ := J2.look
  refine PySem.W.cmp_ofNotEq (ne_own (by have := hr.units; omega) I.kIn J J2 hne hs hf hob ?_)
  have sb : Sub X n X.A.in1 := Sub.in1 (⟨hr, rfl⟩ : Sub X (n + 1) X.A)
  have hl := F.len _ _ _ _ hsp
  have r2 : Vals [V.ref a, V.ref b] [Value.ref a, Value.ref b] := .cons rfl (.cons rfl .nil)
  refine wpAny_call (codeAny_mono (F.run X.A.in1 X.stack s H ⟨[.ref a, .ref b], []⟩ [.ref a, .ref b] [.ref a, .ref b] _ E0 sb.room (env_sub sb I) (by
    have := hb s [.ref a, .ref b] I.kIn (by simpa using hl)
    simpa using this) r2 hsp) fun r s' hq => ?_)
  cases r with
  | error e => exact hq.elim
  | ok fl =>
    cases fl with
    | ret w =>
      obtain ⟨z, H', I', rz, c, ez, q⟩ := I.after hq
      subst ez
      cases rz
      exact ⟨c, rfl, .bl (!c), H', I', rfl, q⟩
    | next => exact False.elim hq
    | brk => exact False.elim hq
    | cont => exact False.elim hq
end K04

/-! the law's end  -/
namespace K04
open PySem PySem.Spec PyProof.Rows L2 GenW
structure EqN (P : Program) (w : World) (K : PySem.W.Frag) (mg : Str → Option Value) (base : Heap) (C : Addr) (f : Addr) (fd : FuncData) : Prop where
  ok : FnOk P w K mg base CX0 1 f fd ["self", "other"] (spREqG C)
  fi : PySem.W.findIn K (.ref C) "__eq__" = some (some (.ref f))
  fn : PySem.W.isFn K (.ref f) = true
  bi : Binds K fd ["self", "other"] []
  nf : PySem.W.notFirst K C (.ref C) = true
  ne : PySem.W.findIn K (.ref C) "__ne__" = some (some (.builtin "object.__ne__"))
  ob : PySem.W.mroIn K C (.type "object") = some true
abbrev nmL : List Str := ["_law_script", "_law_hand_here", "_law_width", "_law_many", "_law_rows", "_law_record", "_law_begun", "_law_k", "_law_one", "_law_cut", "_law_early", "_law_behind", "_law_odd", "_law_odd_rows", "_law_place", "_law_wrong", "_law_word", "_law_last"]
theorem scLaw : FnScope nmL ["_law_script"] (defScope sLaw) := ⟨rfl, rfl, rfl, by decide +kernel, rfl, by decide +kernel, by decide +kernel⟩
def LastS (CR : Addr) (σ : L2.St) (H : Hp) : Prop := ∃ (y : _root_.Fin 14 → Option V) (wd : Nat) (D rc : Addr) (vs : List V) (os : List (Option Rw)),
  σ = [y 0, y 1, some (.int (wd : Int)), y 2, some (.ref D), some (.ref rc), y 3, y 4, y 5, y 6, y 7, y 8, y 9, y 10, y 11, y 12, y 13, none] ∧ H D = some (.lst vs) ∧ DtAll Any H vs (os.map datO) ∧ RecV CR H rc wd os ∧ os.length ≤ 25
theorem rows_dep (os : List (Option Rw)) : (rowsD os).depth ≤ 64 := by
  show PyData.depthAll (os.map datO) + 1 ≤ 64
  have := rows_depth os
  omega
section
variable {P : Program} {w : World} {K : PySem.W.Frag} {mg : Str → Option Value} {base : Heap}
theorem tLast {f fH fD fP fF fU fA fS fB fR fE fM CR CE CN : Addr} {fdH fdD fdP fdF fdU fdA fdS fdB fdR fdE : FuncData} {cdv : Value} {A : Around} {outer : List Env} {s0 : Shared} {H0 : Hp} {E : XK} (z_len : mg "len" = none) (z_list : mg "list" = none) (z_tuple : mg "tuple" = none) (z_isinstance : mg "isinstance" = none) (z_range : mg "range" = none)
    (hr : Room 13 (A.deeper (envOfC "law" (defScope sLaw) s0.heap.objs.size f cdv))) (R : RMk P w K mg base CR CE fR fdR) (EQ : EqN P w K mg base CR fE fdE)
    (dH : Df P w K mg base "_law_hand" 1 ["_law_script"] (spHand K) fH fdH) (dD : Df P w K mg base "_law_draw" 2 ["_law_hand_here", "_law_many"] spDr fD fdD) (dP : Df P w K mg base "_law_pick" 3 ["_law_hand_here", "_law_things"] spPk fP fdP)
    (dF : Df P w K mg base "_law_free_record" 4 ["_law_hand_here", "_law_many", "_law_width"] spFree fF fdF) (dU : Df P w K mg base "_law_until" 10 ["_law_record", "_law_many"] (spLU CR) fU fdU) (dA : Df P w K mg base "_law_after" 10 ["_law_record", "_law_rows"] (spLA CR) fA fdA) (dS : Df P w K mg base "_law_shorter" 10 ["_law_record"] (spLS CR) fS fdS)
    (B : GFn P w K mg base 10 fB fdB ["record"] (spBeg CR)) (bB : Binds K fdB ["record"] []) (gB : mg "beginnings" = some (.ref fB)) (kB : PySem.W.keepIn K (.ref fB) = true) (U : UntC P w K mg base CR CN fM) :
    ∃ u, PSs (cxOf CX0 P w K mg base nmL "law" (defScope sLaw) f cdv A outer s0 H0 E).nox ((defBody sLaw).drop 18) u ∧ ∀ (σ : L2.St) (H : Hp) (T : Ends), LastS CR σ H → (∀ H', T.rt (.bl true) H') → u T σ H := by
  have hr1 := hr.mono (show 1 ≤ 13 by decide)
  have hr2 := hr.mono (show 2 ≤ 13 by decide)
  have hr3 := hr.mono (show 3 ≤ 13 by decide)
  have hr4 := hr.mono (show 4 ≤ 13 by decide)
  have hr8 := hr.mono (show 8 ≤ 13 by decide)
  have hr9 := hr.mono (show 9 ≤ 13 by decide)
  have hr10 := hr.mono (show 10 ≤ 13 by decide)
  refine ⟨_, (pss_cons (ps_set (i := 17) scLaw.nd rfl (.inl rfl) (pe_make R.mks R.ok hr8 (by rfl) R.gl R.bi .nil passX0 (pa_cons (pe_op op_sub pe_int (pv 2)) (pa_cons (pe_tup pa_nil) pa_nil))))
    (pss_one (ps_ret (pe_and (pe_cmpR op_eq (pe_cmpR (op_eqI EQ.ok EQ.nf EQ.fi EQ.fn EQ.bi pass0 hr1) (pv 17) (pe_make R.mks R.ok hr8 (by rfl) R.gl R.bi .nil passX0 (pa_cons (pv 2) (pa_cons (pe_tup pa_nil) pa_nil))) (nomark _)) (pe_cmpR op_eq (pv 2) pe_int (nomark _)) (nomark _)) (pe_and (pe_cmpR (op_eqD hr.units) (pe_fld (pv 5) rfl) (pe_callTy call_tupS (by rfl) z_tuple (by decide +kernel) (pa_cons (pv 4) pa_nil)) (nomark _)) (pe_one (pe_cmpR (op_eqD hr.units) (pe_call dA.ok hr10 (by rfl) dA.gl dA.kp dA.bi .nil pass0 (pa_cons (pv 5) (pa_cons (pe_lst pa_nil) pa_nil))) (pe_tup (pa_cons pe_str (pa_cons (pe_callTy call_tupS (by rfl) z_tuple (by decide +kernel) (pa_cons (pv 4) pa_nil)) pa_nil))) (nomark _)))))))), ?_⟩
  rintro σ H T ⟨y, wd, D, rc, vs, os, rfl, hD, hv, hR, l25⟩ q
  have w2 := hR.w2
  have pl0 : ∀ {H' : Hp} {e : Addr} {v : Int}, 0 ≤ v → v ≤ 2 → H' e = some (.tup []) → Plan H' v (.ref e) [] (rowsD []) [] := fun h0 h2 he => ⟨h0, h2, .tup trivial he .nil, rfl, Nat.zero_le _, .nil⟩
  refine ⟨_, rfl, _, _, rfl, rfl, (by show 0 ≤ sizeLine; decide), fun e ne => ?_⟩
  have s1 := same_upd (o := .tup []) ne
  have ee := upd_same (H := H) (a := e) (o := .tup [])
  generalize upd H e (.tup []) = H1 at s1 ee ⊢
  intro x dx nx nd nex
  have s0 := same_ins (C := CR) nx nd nex
  refine ⟨x, dx, 2 - (wd : Int), .ref e, [], rowsD [], [], rfl, upd_same, (pl0 (by omega) (by omega) ee).same s0, fun _ H2 r2 k2 => ⟨rfl, ?_⟩, fun i z z2 => by cases z2⟩
  have s12 : Same H1 H2 := fun y' o' e' => k2 y' o' (s0 _ _ e') (ne_of_none e' nx)
  have sH2 := s1.trans s12
  clear s0 nd nex k2
  refine ⟨_, rfl, _, rfl, (by show 0 ≤ sizeLine; decide), fun e2 ne2 => ?_⟩
  have s3 := same_upd (o := .tup []) ne2
  have ee2 := upd_same (H := H2) (a := e2) (o := .tup [])
  generalize upd H2 e2 (.tup []) = H3 at s3 ee2 ⊢
  intro x2 dx2 nx2 nd2 nex2
  have s0 := same_ins (C := CR) nx2 nd2 nex2
  refine ⟨x2, dx2, (wd : Int), .ref e2, [], rowsD [], [], rfl, upd_same, (pl0 (by omega) (by omega) ee2).same s0, fun _ H4 r4 k4 => ⟨rfl, ?_⟩, fun i z z2 => by cases z2⟩
  have s34 : Same H3 H4 := fun y' o' e' => k4 y' o' (s0 _ _ e') (ne_of_none e' nx2)
  have sH4 := (sH2.trans s3).trans s34
  have r2' : RecAt CR H4 x (2 - (wd : Int)) (rowsD []) := r2.tups rfl (fun a xs z => (s3.trans s34) _ _ z) fun a C dx fs z => (s3.trans s34) _ _ z
  obtain ⟨dxx, _, _, _, _, _, _, _, _, hx4, _⟩ := id r2'
  obtain ⟨dyy, _, _, _, _, _, _, _, _, hy4, _⟩ := id r4
  refine ⟨x, x2, dxx, dyy, _, _, rfl, rfl, hx4, hy4, x, x2, 2 - (wd : Int), wd, rowsD [], rowsD [], rfl, r2', r4, rows_dep [], rows_dep [], _, rfl, ?_⟩
  have eb : (decide (V.int (2 - (wd : Int)) = V.int (wd : Int)) && PyData.eqv (rowsD []) (rowsD [])) = decide (V.int (wd : Int) = V.int 1) := by
    rw [show PyData.eqv (rowsD []) (rowsD []) = true from rfl, Bool.and_true]
    have : wd = 0 ∨ wd = 1 ∨ wd = 2 := by omega
    rcases this with rfl | rfl | rfl <;> decide
  refine ⟨_, rfl, rfl, rfl, _, rfl, ?_⟩
  rw [eb, decide_eq_true rfl]
  have hD4 := sH4 _ _ hD
  have hv4 := hv.same sH4
  have hR4 := hR.same sH4
  obtain ⟨dx0, ar, _, _, _, _, _, _, _, hx0, hA⟩ := id hR4.at_
  refine iteT ⟨_, rfl, rc, CR, dx0, _, _, rfl, hx0, R.cl.cl, R.cl.nRows, rfl, _, rfl, D, vs, rfl, .inl hD4, fun H5 t s5 ht => ?_⟩
  have dA5 := hA.same s5
  have dt5 : Dt Any H5 (.ref t) (rowsD os) := .tup trivial ht (hv4.same s5)
  have sh : SeqAt.shaped (rowsD os) = true := shaped_of dA5.lay (rows_dep os)
  refine ⟨_, _, dA5.dp, dt5.dp, sh, sh, _, rfl, ?_⟩
  rw [PySem.SeqAt.eqv_refl _ dA5.lay]
  refine iteT ⟨_, rfl, (by show 0 ≤ sizeLine; decide), fun e5 ne5 => ?_⟩
  have s6 := same_upd (o := .lst []) ne5
  have hR5 := (hR4.same s5).same s6
  refine ⟨rc, e5, wd, os, [], [], [], rfl, hR5, upd_same, .nil, .nil, by omega, Nat.zero_le _, fun _ H7 z s7 hz => ?_, fun i z ez => by rw [List.append_nil, hR5.ef] at ez; cases ez⟩
  rw [List.append_nil] at hz
  have sH7 := (s5.trans s6).trans s7
  refine ⟨_, rfl, D, vs, rfl, .inl (sH7 _ _ hD4), fun H8 t2 s8 ht2 => ⟨(by show 2 ≤ sizeLine; decide), fun u nu => ?_⟩⟩
  have s9 := same_upd (o := .tup [.str "made", .ref t2]) nu
  have d1 := (hz.same s8).same s9
  have d2 : Dt Any (upd H8 u (.tup [.str "made", .ref t2])) (.ref u) (madeD os) := .tup trivial upd_same (.cons (.str "made" (by decide) (by decide +kernel)) (.cons (.tup trivial (s9 _ _ ht2) (((hv4.same sH7).same s8).same s9)) .nil))
  have sh2 : SeqAt.shaped (madeD os) = true := shaped_of d1.lay (by
    have := rows_depth os
    show PyData.depthAll [.str "made", rowsD os] + 1 ≤ 64
    have e : PyData.depthAll [.str "made", rowsD os] ≤ 10 := depth_le.mpr fun x hx => by
      simp only [List.mem_cons, List.not_mem_nil, or_false] at hx
      rcases hx with rfl | rfl
      · exact Nat.zero_le _
      · show PyData.depthAll (os.map datO) + 1 ≤ 10
        omega
    omega)
  refine ⟨_, _, d1.dp, d2.dp, sh2, sh2, ?_⟩
  rw [PySem.SeqAt.eqv_refl _ d1.lay]
  exact q _
end
end K04

/-! the law's odd rows are refused behind its record -/
namespace K04
open PySem PySem.Spec PyProof.Rows L2 GenW
/-- labels of three letters at most -/
def Short (os : List (Option Rw)) : Prop := ∀ x, (look (bookO os).kinds x).isSome = true → x.length ≤ 3
theorem kinds_step (B : Bk) (o : Option Rw) {x : Str} (h : (look B.kinds x).isSome = true) : (look (stepO B o).kinds x).isSome = true := by
  have app : ∀ (l k : Str), (look (B.kinds ++ [(l, k)]) x).isSome = true := fun l k => by
    rw [look_app]
    cases e : look B.kinds x with
    | none => rw [e] at h; cases h
    | some z => rfl
  cases o with
  | none => exact h
  | some r =>
    cases r with
    | comes l k n hs => exact app l k
    | weds f m => exact h
    | born f m k l n => exact app l k
    | dies l => exact h
theorem kinds_fold : ∀ (os : List (Option Rw)) {B : Bk} {x : Str}, (look B.kinds x).isSome = true → (look (os.foldl stepO B).kinds x).isSome = true
  | [], _, _, h => h
  | o :: os, B, x, h => kinds_fold os (kinds_step B o h)
theorem Short.take {os : List (Option Rw)} (h : Short os) (n : Nat) : Short (os.take n) := fun x hx => h x (by
  have z := kinds_fold (os.drop n) hx
  show (look (os.foldl stepO Bk.new).kinds x).isSome = true
  have e : os.foldl stepO Bk.new = (os.drop n).foldl stepO ((os.take n).foldl stepO Bk.new) := by rw [← List.foldl_append, List.take_append_drop]
  rw [e]
  exact z)
theorem fault_snoc {wd : Int} {os : List (Option Rw)} {o : Option Rw} {z : Str} (h : faultO wd Bk.new 0 os = none) (j : jD (bookO os) wd o = some z) : faultO wd Bk.new 0 (os ++ [o]) = some (os.length, z) := by
  have key : ∀ (os : List (Option Rw)) (B : Bk) (i : Nat), faultO wd B i os = none → jD (os.foldl stepO B) wd o = some z → faultO wd B i (os ++ [o]) = some (i + os.length, z) := by
    intro os
    induction os with
    | nil =>
      intro B i _ hj
      show (match jD B wd o with | some z => some (i, z) | none => none) = some (i + 0, z)
      rw [show jD B wd o = some z from hj]
      rfl
    | cons a os ih =>
      intro B i h hj
      have h : (match jD B wd a with | some z => some (i, z) | none => faultO wd (stepO B a) (i + 1) os) = none := h
      show (match jD B wd a with | some z => some (i, z) | none => faultO wd (stepO B a) (i + 1) (os ++ [o])) = some (i + (a :: os).length, z)
      cases e : jD B wd a with
      | some z => rw [e] at h; cases h
      | none =>
        rw [e] at h
        have y := ih _ _ h hj
        show faultO wd (stepO B a) (i + 1) (os ++ [o]) = _
        rw [y, List.length_cons]
        congr 2
        omega
  have y := key os Bk.new 0 h j
  rw [Nat.zero_add] at y
  exact y
abbrev oddD : List PyData := [.tuple [.str "dies", .str "zzzzzzz"], .tuple [.str "dies", .str "nobody"], .none, .tuple [.str "weds", .str "x y", .str "q"], .tuple [.str "comes", .str "okok", .str "s", .int 1, .tuple [.int 1, .int 1, .int 1]]]
abbrev oddW : List V := [.str "row", .str "person", .str "row", .str "row", .str "width"]
def okC1 (x : PyData) : Bool := match seqD x with
  | none => true
  | some ys => decide (ys.length ≤ 1000)
def okC (d : PyData) : Bool := match seqD d with
  | none => true
  | some xs => decide (xs.length ≤ 1000) && xs.all okC1
theorem okD_lit {d : PyData} (h : okC d = true) : okD d := fun xs e => by
  unfold okC at h
  rw [e] at h
  obtain ⟨h1, h2⟩ := Bool.and_eq_true_iff.mp (show (decide (xs.length ≤ 1000) && xs.all okC1) = true from h)
  refine ⟨of_decide_eq_true h1, fun x hx ys ey => ?_⟩
  have z := List.all_eq_true.mp h2 x hx
  unfold okC1 at z
  rw [ey] at z
  exact of_decide_eq_true z
theorem odd_at {d : Int} (h0 : 0 ≤ d) (h5 : d < 5) : ∃ (j : Nat) (dd : PyData) (o : Option Rw) (z : Str), d = (j : Int) ∧ oddD[j]? = some dd ∧ atI oddW d = some (.str z) ∧ RowD dd o ∧ okD dd ∧ okS z = true ∧
    ∀ (B : Bk) (wd : Nat), wd ≤ 2 → (∀ x, (look B.kinds x).isSome = true → x.length ≤ 3) → jD B (wd : Int) o = some z := by
  have : d = 0 ∨ d = 1 ∨ d = 2 ∨ d = 3 ∨ d = 4 := by omega
  have fresh : ∀ (B : Bk) (x : Str), ¬ x.length ≤ 3 → (∀ x, (look B.kinds x).isSome = true → x.length ≤ 3) → look B.kinds x = none := fun B x n h => by
    cases e : look B.kinds x with
    | none => rfl
    | some z => exact absurd (h x (by rw [e]; rfl)) n
  rcases this with rfl | rfl | rfl | rfl | rfl
  · exact ⟨0, _, none, "row", rfl, rfl, rfl, .no (by decide +kernel), okD_lit (by decide +kernel), by decide +kernel, fun _ _ _ _ => rfl⟩
  · refine ⟨1, _, some (.dies "nobody"), "person", rfl, rfl, rfl, .row rfl (.dies (by decide +kernel)), okD_lit (by decide +kernel), by decide +kernel, fun B wd _ h => ?_⟩
    show jPd B "nobody" = _
    unfold jPd lacks
    rw [fresh B "nobody" (by decide +kernel) h]
    rfl
  · exact ⟨2, _, none, "row", rfl, rfl, rfl, .no (by decide +kernel), okD_lit (by decide +kernel), by decide +kernel, fun _ _ _ _ => rfl⟩
  · exact ⟨3, _, none, "row", rfl, rfl, rfl, .no (by decide +kernel), okD_lit (by decide +kernel), by decide +kernel, fun _ _ _ _ => rfl⟩
  · refine ⟨4, _, some (.comes "okok" "s" 1 [1, 1, 1]), "width", rfl, rfl, rfl, .row rfl (.comes (by decide +kernel) (by decide +kernel) ⟨by decide, by decide⟩ rfl (fun x hx => by
      simp only [List.mem_cons, List.not_mem_nil, or_false] at hx
      rcases hx with rfl | rfl | rfl <;> exact ⟨by decide, by decide⟩)), okD_lit (by decide +kernel), by decide +kernel, fun B wd hw h => ?_⟩
    show jPc B wd "okok" [1, 1, 1] = _
    unfold jPc lacks
    rw [fresh B "okok" (by decide +kernel) h]
    show (if (([1, 1, 1] : List Int).length : Int) = (wd : Int) then none else some ("width" : Str)) = _
    rw [if_neg (by show ¬ ((3 : Nat) : Int) = (wd : Int); omega)]
section
variable {CR : Addr} {H H' : Hp} {x : Addr} {wd : Int} {os : List (Option Rw)}
theorem RecV.tups (h : RecV CR H x wd os) (k : ∀ a xs, H a = some (.tup xs) → H' a = some (.tup xs)) (k2 : ∀ a C dx fs, H a = some (.ins C dx fs) → H' a = some (.ins C dx fs)) : RecV CR H' x wd os :=
  ⟨h.at_.tups (rows_noL os) (fun a xs e => k a xs e) fun a C dx fs e => k2 a C dx fs e, h.w0, h.w2, h.few, h.ef, h.rows⟩
theorem RecV.kept {p l : Addr} (h : RecV CR H x wd os) (hp : Hand p l H) (k : Kept p H H') : RecV CR H' x wd os := by
  obtain ⟨ys, ep⟩ := hp.at_
  exact h.tups (fun a xs e => k _ _ (fun z => by rw [z, ep] at e; cases e) e) fun a C dx fs e => k _ _ (fun z => by rw [z, ep] at e; cases e) e
theorem dts_kept {p l : Addr} {vs : List V} (h : DtAll Any H vs (os.map datO)) (hp : Hand p l H) (k : Kept p H H') : DtAll Any H' vs (os.map datO) := by
  obtain ⟨ys, ep⟩ := hp.at_
  exact h.tups (rows_noL os) fun a xs _ e => k _ _ (fun z => by rw [z, ep] at e; cases e) e
end
/-- the law's record, all that stands -/
structure Lw (CR p l D rc : Addr) (H : Hp) (wd : Nat) (vs : List V) (os : List (Option Rw)) : Prop where
  hand : Hand p l H
  hD : H D = some (.lst vs)
  nD : D ≠ p
  its : DtAll Any H vs (os.map datO)
  rc_ : RecV CR H rc wd os
  few : os.length ≤ 25
  w2 : wd ≤ 2
  sh : Short os
section
variable {CR p l D rc : Addr} {H H' : Hp} {wd : Nat} {vs : List V} {os : List (Option Rw)}
theorem Lw.same (h : Lw CR p l D rc H wd vs os) (s : Same H H') : Lw CR p l D rc H' wd vs os := ⟨h.hand.same s, s _ _ h.hD, h.nD, h.its.same s, h.rc_.same s, h.few, h.w2, h.sh⟩
theorem Lw.kept (h : Lw CR p l D rc H wd vs os) (k : Kept p H H') (h' : Hand p l H') : Lw CR p l D rc H' wd vs os := ⟨h', k _ _ h.nD h.hD, h.nD, dts_kept h.its h.hand k, h.rc_.kept h.hand k, h.few, h.w2, h.sh⟩
theorem Lw.len (h : Lw CR p l D rc H wd vs os) : vs.length = os.length := h.its.len.trans (List.length_map ..)
end
theorem cmp_ne {K : PySem.W.Frag} {H : Hp} {a b : V} {d : PyData} {Q : VK} (h1 : Dt Any H a d) (h2 : Dt Any H b d) (k : d.depth ≤ 64) (q : Q (.bl false) H) : rNeD K a b H Q := by
  refine ⟨d, d, h1.dp, h2.dp, shaped_of h1.lay k, shaped_of h1.lay k, ?_⟩
  rw [PySem.SeqAt.eqv_refl _ h1.lay]
  exact q
abbrev refD2 (i : Int) (z : Str) : PyData := .tuple [.str "refused", .int i, .str z]
theorem refD2_at {H : Hp} {t : Addr} {i : Int} {z : Str} (h : H t = some (.tup [.str "refused", .int i, .str z])) (hz : okS z = true) : Dt Any H (.ref t) (refD2 i z) :=
  .tup trivial h (.cons (.str "refused" (by decide) (by decide +kernel)) (.cons (.int i) (.cons (okS_dt hz) .nil)))
theorem la_refused {CR : Addr} {H : Hp} {x l : Addr} {wd : Int} {os os2 : List (Option Rw)} {ys : List V} {es : List PyData} {i : Nat} {z : Str} {Q : VK} (hR : RecV CR H x wd os) (hl : H l = some (.lst ys)) (hys : DtAll Any H ys es) (hrows : RowsD es os2) (h9 : os.length ≤ 25) (y2 : ys.length ≤ 2)
    (ef : faultO wd Bk.new 0 (os ++ os2) = some (i, z)) (q : ∀ (H' : Hp) (t : Addr), Same H H' → H' t = some (.tup [.str "refused", .int (i : Int), .str z]) → Q (.ref t) H') : spLA CR [.ref x, .ref l] H Q E0 :=
  ⟨x, l, wd, os, os2, ys, es, rfl, hR, hl, hys, hrows, by omega, y2, fun e => (by rw [ef] at e; cases e), fun i' z' e H' t s ht => by
    rw [ef] at e
    cases e
    exact q H' t s ht⟩
theorem seq_asgN {te : TE} {j : Nat} {ts : TS} {T : Ends} {σ : L2.St} {H : Hp} (h : te σ H fun x H1 => ts T (σ.set j (some x)) H1) : tSeq (tAsg te (gName j)) ts T σ H := h
theorem seq_ifS {c : TT} {a b ts : TS} {T : Ends} {σ : L2.St} {H : Hp} (h : c σ H fun z H1 => if z = true then a { T with nx := fun σ H => ts T σ H } σ H1 else b { T with nx := fun σ H => ts T σ H } σ H1) : tSeq (tIfS c a b) ts T σ H := h
abbrev yL {k : Nat} (l : List (Option V)) : _root_.Fin k → Option V := fun i => l.getD i.val none
theorem call2 {sp : Sp} {i : Nat} {x : V} {t : TE} {σ : L2.St} {H : Hp} {Q : VK} (e : σ[i]? = some (some x)) (h : t σ H fun v H1 => sp [x, v] H1 Q E0) : tCall sp [] E0 (tCons (tVar i) (tCons t tNil)) σ H Q := ⟨x, e, h⟩
theorem call1 {sp : Sp} {i : Nat} {x : V} {σ : L2.St} {H : Hp} {Q : VK} (e : σ[i]? = some (some x)) (h : sp [x] H Q E0) : tCall sp [] E0 (tCons (tVar i) tNil) σ H Q := ⟨x, e, h⟩
theorem testOp {r : R2} {a b : TE} {σ : L2.St} {H : Hp} {Q : Bool → Hp → Prop} (h : a σ H fun x H1 => b σ H1 fun y H2 => r x y H2 fun v H' => ∃ k, v = .bl k ∧ Q k H') : tTest (tOp r a b) σ H Q := h
/-- all that the law calls -/
structure LawC (P : Program) (w : World) (K : PySem.W.Frag) (mg : Str → Option Value) (base : Heap) (fH fD fP fF fU fA fS fB fR fE fM CR CE CN : Addr) (fdH fdD fdP fdF fdU fdA fdS fdB fdR fdE : FuncData) : Prop where
  z_len : mg "len" = none
  z_list : mg "list" = none
  z_tuple : mg "tuple" = none
  z_isinstance : mg "isinstance" = none
  z_range : mg "range" = none
  R : RMk P w K mg base CR CE fR fdR
  EQ : EqN P w K mg base CR fE fdE
  dH : Df P w K mg base "_law_hand" 1 ["_law_script"] (spHand K) fH fdH
  dD : Df P w K mg base "_law_draw" 2 ["_law_hand_here", "_law_many"] spDr fD fdD
  dP : Df P w K mg base "_law_pick" 3 ["_law_hand_here", "_law_things"] spPk fP fdP
  dF : Df P w K mg base "_law_free_record" 4 ["_law_hand_here", "_law_many", "_law_width"] spFree fF fdF
  dU : Df P w K mg base "_law_until" 10 ["_law_record", "_law_many"] (spLU CR) fU fdU
  dA : Df P w K mg base "_law_after" 10 ["_law_record", "_law_rows"] (spLA CR) fA fdA
  dS : Df P w K mg base "_law_shorter" 10 ["_law_record"] (spLS CR) fS fdS
  B : GFn P w K mg base 10 fB fdB ["record"] (spBeg CR)
  bB : Binds K fdB ["record"] []
  gB : mg "beginnings" = some (.ref fB)
  kB : PySem.W.keepIn K (.ref fB) = true
  U : UntC P w K mg base CR CN fM
  kI : PySem.W.kitOne K (.ref CR) (.ref CR) = some true
  tI : ∀ {H : Hp} {a dx : Addr} {fs : List (Str × V)}, H a = some (.ins CR dx fs) → TyOf K H (.ref a) (.ref CR)
def MidS (CR : Addr) (σ : L2.St) (H : Hp) : Prop := ∃ (y : _root_.Fin 10 → Option V) (wd n : Nat) (p l D rc ev bh : Addr) (vs : List V) (os : List (Option Rw)),
  σ = [y 0, some (.ref p), some (.int (wd : Int)), y 1, some (.ref D), some (.ref rc), y 2, y 3, y 4, some (.int (n : Int)), some (.ref ev), some (.ref bh), y 5, y 6, y 7, y 8, y 9, none] ∧ Lw CR p l D rc H wd vs os ∧ n ≤ os.length ∧ RecV CR H ev wd (os.take n) ∧ H bh = some (.lst ((vs.drop n).take 2)) ∧ bh ≠ p
theorem odd_lit : DtE (tLst (tCons (tTup (tCons (tC (.str "dies")) (tCons (tC (.str "zzzzzzz")) tNil))) (tCons (tTup (tCons (tC (.str "dies")) (tCons (tC (.str "nobody")) tNil))) (tCons (tC .non) (tCons (tTup (tCons (tC (.str "weds")) (tCons (tC (.str "x y")) (tCons (tC (.str "q")) tNil)))) (tCons (tTup (tCons (tC (.str "comes")) (tCons (tC (.str "okok")) (tCons (tC (.str "s")) (tCons (tC (.int 1)) (tCons (tTup (tCons (tC (.int 1)) (tCons (tC (.int 1)) (tCons (tC (.int 1)) tNil)))) tNil)))))) tNil)))))) (.list oddD) :=
  deL (daK (deT (daK (deS (by decide +kernel)) (daK (deS (by decide +kernel)) daN)) (by decide)) (daK (deT (daK (deS (by decide +kernel)) (daK (deS (by decide +kernel)) daN)) (by decide)) (daK deN (daK (deT (daK (deS (by decide +kernel)) (daK (deS (by decide +kernel)) (daK (deS (by decide +kernel)) daN))) (by decide)) (daK (deT (daK (deS (by decide +kernel)) (daK (deS (by decide +kernel)) (daK (deS (by decide +kernel)) (daK deI (daK (deT (daK deI (daK deI (daK deI daN))) (by decide)) daN))))) (by decide)) daN))))) (by decide)
end K04

set_option maxHeartbeats 400000
/-! the law's odd rows are refused behind its record -/
namespace K04
open PySem PySem.Spec PyProof.Rows L2 GenW
section
variable {P : Program} {w : World} {K : PySem.W.Frag} {mg : Str → Option Value} {base : Heap}
theorem tMid {f fH fD fP fF fU fA fS fB fR fE fM CR CE CN : Addr} {fdH fdD fdP fdF fdU fdA fdS fdB fdR fdE : FuncData} {cdv : Value} {A : Around} {outer : List Env} {s0 : Shared} {H0 : Hp} {E : XK}
    (hr : Room 13 (A.deeper (envOfC "law" (defScope sLaw) s0.heap.objs.size f cdv))) (L : LawC P w K mg base fH fD fP fF fU fA fS fB fR fE fM CR CE CN fdH fdD fdP fdF fdU fdA fdS fdB fdR fdE) :
    ∃ u, PSs (cxOf CX0 P w K mg base nmL "law" (defScope sLaw) f cdv A outer s0 H0 E).nox ((defBody sLaw).drop 13) u ∧ ∀ (σ : L2.St) (H : Hp) (T : Ends), MidS CR σ H → (∀ H', T.rt (.bl true) H') → u T σ H := by
  obtain ⟨z_len, z_list, z_tuple, z_isinstance, z_range, R, EQ, dH, dD, dP, dF, dU, dA, dS, B, bB, gB, kB, U, kI, tI⟩ := L
  obtain ⟨uL, pL, rL⟩ := tLast (P := P) (w := w) (base := base) (f := f) (cdv := cdv) (outer := outer) (H0 := H0) (E := E) z_len z_list z_tuple z_isinstance z_range hr R EQ dH dD dP dF dU dA dS B bB gB kB U
  have hr2 := hr.mono (show 2 ≤ 13 by decide)
  have hr10 := hr.mono (show 10 ≤ 13 by decide)
  refine ⟨_, (pss_cons (ps_set (i := 13) scLaw.nd rfl (.inl rfl) (pe_lst (pa_cons (pe_tup (pa_cons pe_str (pa_cons pe_str pa_nil))) (pa_cons (pe_tup (pa_cons pe_str (pa_cons pe_str pa_nil))) (pa_cons pe_non (pa_cons (pe_tup (pa_cons pe_str (pa_cons pe_str (pa_cons pe_str pa_nil)))) (pa_cons (pe_tup (pa_cons pe_str (pa_cons pe_str (pa_cons pe_str (pa_cons pe_int (pa_cons (pe_tup (pa_cons pe_int (pa_cons pe_int (pa_cons pe_int pa_nil)))) pa_nil)))))) pa_nil)))))))
    (pss_cons (ps_set (i := 14) scLaw.nd rfl (.inl rfl) (pe_call dD.ok hr2 (by rfl) dD.gl dD.kp dD.bi .nil pass0 (pa_cons (pv 1) (pa_cons pe_int pa_nil))))
    (pss_cons (ps_par (i := 15) (j := 16) rfl scLaw.nd rfl rfl (by decide) rfl rfl (pa_cons (pe_ix ix_list (pv 13) (pv 14) (fun _ _ => rfl)) (pa_cons (pe_ix ix_list (pe_lst (pa_cons pe_str (pa_cons pe_str (pa_cons pe_str (pa_cons pe_str (pa_cons pe_str pa_nil)))))) (pv 14) (fun _ _ => rfl)) pa_nil)) rfl)
    (pss_cons (ps_if (pt_cmpR (op_neD hr.units) (pe_call dA.ok hr10 (by rfl) dA.gl dA.kp dA.bi .nil pass0 (pa_cons (pv 10) (pa_cons (pe_lst (pa_cons (pv 15) pa_nil)) pa_nil))) (pe_tup (pa_cons pe_str (pa_cons (pv 9) (pa_cons (pv 16) pa_nil)))) (nomark _))
      (pss_one (ps_ret pe_bl))
      pss_nil)
    (pss_cons (ps_if (PW.pt (pw_and (pt_cmpR (op_neD hr.units) (pv 11) (pe_lst pa_nil) (nomark _)) (pw_and1 (pt_cmpR (op_neD hr.units) (pe_call dA.ok hr10 (by rfl) dA.gl dA.kp dA.bi .nil pass0 (pa_cons (pv 10) (pa_cons (pe_lst (pa_cons (pe_ix ix_list (pv 11) pe_int (fun _ _ => rfl)) (pa_cons (pv 15) pa_nil))) pa_nil))) (pe_tup (pa_cons pe_str (pa_cons (pe_op op_add (pv 9) pe_int) (pa_cons (pv 16) pa_nil)))) (nomark _)))))
      (pss_one (ps_ret pe_bl))
      pss_nil)
    pL))))), ?_⟩
  rintro σ H T ⟨y, wd, n, p, l, D, rc, ev, bh, vs, os, rfl, W, hn, hE, hb, nb⟩ q
  refine seq_asgN (odd_lit _ _ _ fun v H1 s1 hv => ?_)
  have W1 := W.same s1
  have hE1 := hE.same s1
  have hb1 := s1 _ _ hb
  cases hv with
  | @lst a xs _ na ea hx =>
  have ap : a ≠ p := W.hand.nn na
  refine ⟨_, rfl, p, l, 5, rfl, W1.hand, by decide, by decide, fun d H2 d0 d1 k2 h2 => ?_⟩
  have W2 := W1.kept k2 h2
  have hE2 := hE1.kept W1.hand k2
  have hb2 := k2 _ _ nb hb1
  have ea2 := k2 _ _ ap ea
  have hx2 := hx.new_kept W.hand k2
  obtain ⟨j, dd, o, z, rfl, ed, ez, hrow, hok, hz, hj⟩ := odd_at d0 d1
  have jl : j < xs.length := by rw [hx.len]; have := List.getElem?_eq_some_iff.mp ed; exact this.1
  obtain ⟨dd', ed', hvd⟩ := hx2.get (List.getElem?_eq_getElem jl)
  rw [ed] at ed'
  obtain rfl := Option.some.inj ed'
  have hvd := hvd.any
  have eu : atI xs (j : Int) = some xs[j] := atI_nat (List.getElem?_eq_getElem jl)
  generalize xs[j] = u at hvd eu
  refine ⟨_, rfl, _, rfl, a, xs, (j : Int), u, rfl, rfl, SqL.of ea2, eu, (by show 5 ≤ sizeLine; decide), fun b nb2 => ⟨_, rfl, b, oddW, (j : Int), .str z, rfl, rfl, SqL.of upd_same, ez, _, _, rfl, ?_⟩⟩
  have s3 := same_upd (o := .lst oddW) nb2
  have W3 := W2.same s3
  have hE3 := hE2.same s3
  have hb3 := s3 _ _ hb2
  have hv3 := hvd.same s3
  generalize upd H2 b (.lst oddW) = H3 at s3 W3 hE3 hb3 hv3 ⊢
  have ln : (os.take n).length = n := by rw [List.length_take]; omega
  have f1 := fault_snoc hE.ef (hj _ wd W.w2 (W.sh.take n))
  rw [ln] at f1
  dsimp only [tNext]
  refine seq_ifS (testOp (call2 rfl ?_))
  refine ⟨_, rfl, (by show 1 ≤ sizeLine; decide), fun c nc => ?_⟩
  have s4 := same_upd (o := .lst [u]) nc
  refine la_refused (hE3.same s4) upd_same (.cons (hv3.same s4) .nil) (.cons hrow hok .nil) (by rw [ln]; have := W.few; omega) (by show 1 ≤ 2; decide) f1 fun H5 t s5 ht => ?_
  refine ⟨_, rfl, _, rfl, (by show 3 ≤ sizeLine; decide), fun e ne => ?_⟩
  have s6 := same_upd (o := .tup [.str "refused", .int (n : Int), .str z]) ne
  refine cmp_ne (refD2_at (s6 _ _ ht) hz) (refD2_at upd_same hz) (by show 1 ≤ 64; decide) ⟨false, rfl, iteF ?_⟩
  have sA := (s4.trans s5).trans s6
  have W6 := W3.same sA
  have hE6 := hE3.same sA
  have hb6 := sA _ _ hb3
  have hv6 := hv3.same sA
  generalize upd H5 e (.tup [.str "refused", .int (n : Int), .str z]) = H6 at W6 hE6 hb6 hv6 ⊢
  clear sA s6 s5 s4 nc ne
  have hbd : DtAll Any H6 ((vs.drop n).take 2) (((os.drop n).take 2).map datO) := by
    rw [List.map_take, List.map_drop]
    exact (W6.its.drop n).take 2
  have last : ∀ (H9 : Hp), Lw CR p l D rc H9 wd vs os → uL T [y 0, some (.ref p), some (.int (wd : Int)), y 1, some (.ref D), some (.ref rc), y 2, y 3, y 4, some (.int (n : Int)), some (.ref ev), some (.ref bh), y 5, some (.ref a), some (.int (j : Int)), some u, some (.str z), none] H9 := fun H9 W9 =>
    rL _ _ _ ⟨yL [y 0, some (.ref p), y 1, y 2, y 3, y 4, some (.int (n : Int)), some (.ref ev), some (.ref bh), y 5, some (.ref a), some (.int (j : Int)), some u, some (.str z)], wd, D, rc, vs, os, rfl, W9.hD, W9.its, W9.rc_, W9.few⟩ q
  have nilD : ∀ {H' : Hp} {g : Addr}, H' g = some (.lst []) → Dt Any H' (.ref g) (.list []) := fun hg => .lst trivial hg .nil
  dsimp only [tNext]
  refine seq_ifS ?_
  refine ⟨_, rfl, (by show 0 ≤ sizeLine; decide), fun g ng => ?_⟩
  have s7 := same_upd (o := .lst []) ng
  have eg := upd_same (H := H6) (a := g) (o := .lst [])
  generalize upd H6 g (.lst []) = H7 at s7 eg ⊢
  have dep : ∀ os' : List (Option Rw), (PyData.list (os'.map datO)).depth ≤ 64 := fun os' => by
    show PyData.depthAll (os'.map datO) + 1 ≤ 64
    have := rows_depth os'
    omega
  have W7 := W6.same s7
  have hE7 := hE6.same s7
  have hb7 := s7 _ _ hb6
  have hv7 := hv6.same s7
  have hbd7 := hbd.same s7
  have hD7 : Dt Any H7 (.ref bh) (.list (((os.drop n).take 2).map datO)) := .lst trivial hb7 hbd7
  have sh7 := shaped_of hD7.lay (dep _)
  refine ⟨_, _, hD7.dp, (nilD eg).dp, sh7, shaped_of (nilD eg).lay (by show 1 ≤ 64; decide), ?_⟩
  cases eo : os.drop n with
  | nil =>
    refine ⟨false, rfl, iteF (iteF ?_)⟩
    exact last H7 W7
  | cons o0 rest =>
    refine ⟨true, rfl, iteT ?_⟩
    obtain ⟨v0, vr, ev0⟩ : ∃ v0 vr, vs.drop n = v0 :: vr := by
      cases e : vs.drop n with
      | cons v0 vr => exact ⟨v0, vr, rfl⟩
      | nil =>
        have h1 := congrArg List.length e
        have h2 := congrArg List.length eo
        rw [List.length_drop] at h1 h2
        have := W.len
        simp only [List.length_nil, List.length_cons] at h1 h2
        omega
    have eon : os[n]? = some o0 := by
      have z := congrArg (fun l => l[0]?) eo
      simpa using z
    have tk : os.take (n + 1) = os.take n ++ [o0] := take_snoc eon
    have ef2 : faultO wd Bk.new 0 (os.take n ++ [o0]) = none := by rw [← tk]; exact fault_take _ W.rc_.ef
    have f2 := fault_snoc ef2 (hj (bookO (os.take n ++ [o0])) wd W.w2 (by rw [← tk]; exact W.sh.take _))
    have ln2 : (os.take n ++ [o0]).length = n + 1 := by rw [List.length_append, ln]; rfl
    rw [ln2, List.append_assoc] at f2
    obtain ⟨o0', eo', hr0, ho0⟩ := W.rc_.rows.get (i := n) (d := datO o0) (by rw [List.getElem?_map, eon]; rfl)
    rw [eon] at eo'
    obtain rfl := Option.some.inj eo'
    have hv0 : Dt Any H7 v0 (datO o0) := by
      rw [ev0, eo] at hbd7
      cases hbd7 with | cons a b => exact a
    rw [ev0] at hb7
    refine testOp (call2 rfl ?_)
    refine ⟨_, rfl, bh, _, 0, v0, rfl, rfl, SqL.of hb7, atI_nat (j := 0) rfl, _, rfl, (by show 2 ≤ sizeLine; decide), fun c nc => ?_⟩
    have s8 := same_upd (o := .lst [v0, u]) nc
    refine la_refused (hE7.same s8) upd_same (.cons (hv0.same s8) (.cons (hv7.same s8) .nil)) (.cons hr0 ho0 (.cons hrow hok .nil)) (by rw [ln]; have := W.few; omega) (by show 2 ≤ 2; decide) f2 fun H9 t s9 ht => ?_
    refine ⟨_, rfl, _, _, rfl, rfl, _, rfl, (by show 3 ≤ sizeLine; decide), fun e ne => ?_⟩
    have s10 := same_upd (o := .tup [.str "refused", .int ((n : Int) + 1), .str z]) ne
    refine cmp_ne (refD2_at (i := ((n + 1 : Nat) : Int)) (s10 _ _ ht) hz) (refD2_at upd_same hz) (by show 1 ≤ 64; decide) ⟨false, rfl, iteF ?_⟩
    exact last _ (W7.same ((s8.trans s9).trans s10))
end
end K04

/-! the law's odd numbers are refused -/
namespace K04
open PySem PySem.Spec PyProof.Rows L2 GenW
theorem RowsD.drop {ds : List PyData} {os : List (Option Rw)} (h : RowsD ds os) (n : Nat) : RowsD (ds.drop n) (os.drop n) := by
  induction h generalizing n with
  | nil => cases n <;> exact .nil
  | cons a k r ih =>
    cases n with
    | zero => exact .cons a k r
    | succ n => exact ih n
theorem orS {t u : TT} {σ : L2.St} {H : Hp} {Q : Bool → Hp → Prop} (h : t σ H fun c H1 => if c = true then Q true H1 else u σ H1 Q) : tOr t u σ H Q := h
theorem cut_toA (vs : List V) (k : Nat) : cutV vs none (some (k : Int)) = vs.take k := by
  show (vs.drop 0).take (HT.sIx vs.length vs.length (some (k : Int)) - 0) = _
  rw [List.drop_zero, HT.sIx_nat]
  by_cases h : k ≤ vs.length
  · rw [Nat.min_eq_left h]
    rfl
  · rw [Nat.min_eq_right (by omega), List.take_of_length_le (by omega), List.take_of_length_le (by omega)]
theorem tup_t {K : PySem.W.Frag} {σ : L2.St} {H : Hp} {Q : VK} {D : Addr} {vs : List V} {os : List (Option Rw)} {i : Int} {k : Nat} {hi : TO} (e : σ[4]? = some (some (.ref D))) (hD : H D = some (.lst vs)) (hv : DtAll Any H vs (os.map datO)) (hc : cutV vs none (some i) = vs.take k)
    (hh : ∀ Q : Option Int → Hp → Prop, Q (some i) H → hi σ H Q) (q : ∀ (H' : Hp) (t : Addr), Same H H' → Dt Any H' (.ref t) (rowsD (os.take k)) → Q (.ref t) H') : tCB rTupS (tCons (tSl (rSlL K) (tVar 4) tNoPart hi) tNil) σ H Q := by
  refine ⟨_, e, hh _ ⟨D, vs, rfl, SqL.of hD, fun b nb => ?_⟩⟩
  rw [hc]
  have s1 := same_upd (o := .lst (vs.take k)) nb
  refine ⟨b, _, rfl, .inl upd_same, fun H2 t s2 ht => q H2 t (s1.trans s2) (.tup trivial ht ?_)⟩
  rw [List.map_take]
  exact (hv.same (s1.trans s2)).take k
theorem made_at {H : Hp} {t u : Addr} {os : List (Option Rw)} (h : Dt Any H (.ref t) (rowsD os)) (hu : H u = some (.tup [.str "made", .ref t])) : Dt Any H (.ref u) (madeD os) := .tup trivial hu (.cons (.str "made" (by decide) (by decide +kernel)) (.cons h .nil))
theorem made_t {K : PySem.W.Frag} {σ : L2.St} {H : Hp} {Q : VK} {D : Addr} {vs : List V} {os : List (Option Rw)} {i : Int} {k : Nat} {hi : TO} (e : σ[4]? = some (some (.ref D))) (hD : H D = some (.lst vs)) (hv : DtAll Any H vs (os.map datO)) (hc : cutV vs none (some i) = vs.take k)
    (hh : ∀ Q : Option Int → Hp → Prop, Q (some i) H → hi σ H Q) (q : ∀ (H' : Hp) (t : Addr), Same H H' → Dt Any H' (.ref t) (madeD (os.take k)) → Q (.ref t) H') : tTup (tCons (tC (.str "made")) (tCons (tCB rTupS (tCons (tSl (rSlL K) (tVar 4) tNoPart hi) tNil)) tNil)) σ H Q := by
  refine tup_t e hD hv hc hh fun H2 t s2 ht => ⟨(by show 2 ≤ sizeLine; decide), fun u nu => ?_⟩
  have s3 := same_upd (o := .tup [.str "made", .ref t]) nu
  exact q _ u (s2.trans s3) (made_at (ht.same s3) upd_same)
theorem made_depth (os : List (Option Rw)) : (madeD os).depth ≤ 64 := by
  have := rows_depth os
  show PyData.depthAll [.str "made", rowsD os] + 1 ≤ 64
  have e : PyData.depthAll [.str "made", rowsD os] ≤ 10 := depth_le.mpr fun x hx => by
    simp only [List.mem_cons, List.not_mem_nil, or_false] at hx
    rcases hx with rfl | rfl
    · exact Nat.zero_le _
    · show PyData.depthAll (os.map datO) + 1 ≤ 10
      omega
  omega
theorem la_made {CR : Addr} {H : Hp} {x l : Addr} {wd : Int} {os os2 : List (Option Rw)} {ys : List V} {es : List PyData} {Q : VK} (hR : RecV CR H x wd os) (hl : H l = some (.lst ys)) (hys : DtAll Any H ys es) (hrows : RowsD es os2) (h9 : os.length ≤ 25) (y2 : ys.length ≤ 2)
    (ef : faultO wd Bk.new 0 (os ++ os2) = none) (q : ∀ (H' : Hp) (t : Addr), Same H H' → Dt Any H' (.ref t) (madeD (os ++ os2)) → Q (.ref t) H') : spLA CR [.ref x, .ref l] H Q E0 :=
  ⟨x, l, wd, os, os2, ys, es, rfl, hR, hl, hys, hrows, by omega, y2, fun _ => q, fun i' z' e H' t s ht => by
    rw [ef] at e
    cases e⟩
theorem odd_num {n : Nat} {d : Int} (hd : 0 ≤ d) {v : V} (h : v ∈ ([.int (-1), .int ((n : Int) + 1), .int ((n : Int) + 1 + d), .bl true, .bl false, .non, .str "0", .int (-1 - (n : Int))] : List V)) :
    ∃ dv : PyData, (∀ H, Dt Any H v dv) ∧ dv.depth = 0 ∧ wholeV v 0 n = false := by
  have no : ∀ i : Int, ¬ (0 ≤ i ∧ i ≤ (n : Int)) → wholeV (.int i) 0 n = false := fun i h => by
    show (decide ((0 : Int) ≤ i) && decide (i ≤ (n : Int))) = false
    rw [Bool.eq_false_iff]
    intro z
    obtain ⟨a, b⟩ := Bool.and_eq_true_iff.mp z
    exact h ⟨of_decide_eq_true a, of_decide_eq_true b⟩
  simp only [List.mem_cons, List.not_mem_nil, or_false] at h
  rcases h with rfl | rfl | rfl | rfl | rfl | rfl | rfl | rfl
  · exact ⟨_, fun H => .int _, rfl, no _ (by omega)⟩
  · exact ⟨_, fun H => .int _, rfl, no _ (by omega)⟩
  · exact ⟨_, fun H => .int _, rfl, no _ (by omega)⟩
  · exact ⟨_, fun H => .bl _, rfl, rfl⟩
  · exact ⟨_, fun H => .bl _, rfl, rfl⟩
  · exact ⟨_, fun H => .non, rfl, rfl⟩
  · exact ⟨_, fun H => .str "0" (by decide) (by decide +kernel), rfl, rfl⟩
  · exact ⟨_, fun H => .int _, rfl, no _ (by omega)⟩
theorem whole_yes {n m : Nat} (h : n ≤ m) : wholeV (.int (n : Int)) 0 m = true := show (decide ((0 : Int) ≤ (n : Int)) && decide ((n : Int) ≤ (m : Int))) = true from Bool.and_eq_true_iff.mpr ⟨decide_eq_true (by omega), decide_eq_true (by omega)⟩
def OddS (CR : Addr) (σ : L2.St) (H : Hp) : Prop := ∃ (y : _root_.Fin 9 → Option V) (wd n : Nat) (p l D rc ev bh : Addr) (vs : List V) (os : List (Option Rw)),
  σ = [y 0, some (.ref p), some (.int (wd : Int)), some (.int (os.length : Int)), some (.ref D), some (.ref rc), y 1, y 2, y 3, some (.int (n : Int)), some (.ref ev), some (.ref bh), y 4, y 5, y 6, y 7, y 8, none] ∧ Lw CR p l D rc H wd vs os ∧ n ≤ os.length ∧ RecV CR H ev wd (os.take n) ∧ H bh = some (.lst ((vs.drop n).take 2)) ∧ bh ≠ p
section
variable {P : Program} {w : World} {K : PySem.W.Frag} {mg : Str → Option Value} {base : Heap}
theorem tOdd {f fH fD fP fF fU fA fS fB fR fE fM CR CE CN : Addr} {fdH fdD fdP fdF fdU fdA fdS fdB fdR fdE : FuncData} {cdv : Value} {A : Around} {outer : List Env} {s0 : Shared} {H0 : Hp} {E : XK}
    (hr : Room 13 (A.deeper (envOfC "law" (defScope sLaw) s0.heap.objs.size f cdv))) (L : LawC P w K mg base fH fD fP fF fU fA fS fB fR fE fM CR CE CN fdH fdD fdP fdF fdU fdA fdS fdB fdR fdE) :
    ∃ u, PSs (cxOf CX0 P w K mg base nmL "law" (defScope sLaw) f cdv A outer s0 H0 E).nox ((defBody sLaw).drop 11) u ∧ ∀ (σ : L2.St) (H : Hp) (T : Ends), OddS CR σ H → (∀ H', T.rt (.bl true) H') → u T σ H := by
  obtain ⟨uL, pL, rL⟩ := tMid (f := f) (cdv := cdv) (outer := outer) (H0 := H0) (E := E) hr L
  obtain ⟨z_len, z_list, z_tuple, z_isinstance, z_range, R, EQ, dH, dD, dP, dF, dU, dA, dS, B, bB, gB, kB, U, kI, tI⟩ := L
  have hr2 := hr.mono (show 2 ≤ 13 by decide)
  have hr3 := hr.mono (show 3 ≤ 13 by decide)
  have hr9 := hr.mono (show 9 ≤ 13 by decide)
  have hr10 := hr.mono (show 10 ≤ 13 by decide)
  refine ⟨_, (pss_cons (ps_set (i := 12) scLaw.nd rfl (.inl rfl) (pe_call dP.ok hr3 (by rfl) dP.gl dP.kp dP.bi .nil pass0 (pa_cons (pv 1) (pa_cons (pe_lst (pa_cons (pe_un un_neg pe_int) (pa_cons (pe_op op_add (pv 3) pe_int) (pa_cons (pe_op op_add (pe_op op_add (pv 3) pe_int) (pe_call dD.ok hr2 (by rfl) dD.gl dD.kp dD.bi .nil pass0 (pa_cons (pv 1) (pa_cons (pe_op op_pow pe_int pe_int) pa_nil)))) (pa_cons pe_bl (pa_cons pe_bl (pa_cons pe_non (pa_cons pe_str (pa_cons (pe_op op_sub (pe_un un_neg pe_int) (pv 3)) pa_nil))))))))) pa_nil))))
    (pss_cons (ps_if (PW.pt (pw_or (pt_cmpR (op_neD hr.units) (pe_call dU.ok hr10 (by rfl) dU.gl dU.kp dU.bi .nil pass0 (pa_cons (pv 5) (pa_cons (pv 12) pa_nil))) (pe_tup (pa_cons pe_str (pa_cons (pv 12) pa_nil))) (nomark _)) (pw_or1 (pt_cmpR (op_neD hr.units) (pe_call dU.ok hr10 (by rfl) dU.gl dU.kp dU.bi .nil pass0 (pa_cons (pv 5) (pa_cons (pv 3) pa_nil))) (pe_tup (pa_cons pe_str (pa_cons (pe_callTy call_tupS (by rfl) z_tuple (by decide +kernel) (pa_cons (pv 4) pa_nil)) pa_nil))) (nomark _)))))
      (pss_one (ps_ret pe_bl))
      pss_nil)
    pL)), ?_⟩
  rintro σ H T ⟨y, wd, n, p, l, D, rc, ev, bh, vs, os, rfl, W, hn, hE, hb, nb⟩ q
  refine seq_asgN (call2 rfl ?_)
  refine ⟨1, rfl, _, rfl, _, _, rfl, rfl, _, rfl, _, _, rfl, rfl, _, rfl, _, _, rfl, rfl, ⟨by decide, by decide, by decide⟩, p, l, _, rfl, W.hand, by decide, by decide +kernel, fun d H1 d0 d1 k1 h1 => ?_⟩
  have W1 := W.kept k1 h1
  have hE1 := hE.kept W.hand k1
  have hb1 := k1 _ _ nb hb
  refine ⟨_, _, rfl, rfl, 1, rfl, _, rfl, _, _, rfl, rfl, (by show 8 ≤ sizeLine; decide), fun a na => ?_⟩
  have s2 := same_upd (o := .lst [.int (-1), .int ((os.length : Int) + 1), .int ((os.length : Int) + 1 + d), .bl true, .bl false, .non, .str "0", .int (-1 - (os.length : Int))]) na
  have ap : a ≠ p := h1.nn na
  refine ⟨p, l, a, _, rfl, h1.same s2, upd_same, ap, by show 0 < 8; decide, by show 8 ≤ 1000; decide, fun v H3 hv k3 h3 => ?_⟩
  have W3 := (W1.same s2).kept k3 h3
  have hE3 := (hE1.same s2).kept (h1.same s2) k3
  have hb3 := k3 _ _ nb (s2 _ _ hb1)
  obtain ⟨dv, hdv, dep, nw⟩ := odd_num d0 hv
  clear W1 hE1 hb1 s2 hv k3 h3 W hE hb k1 h1 na
  refine seq_ifS (orS (testOp (call2 rfl ?_)))
  refine ⟨_, rfl, rc, v, _, wd, os, rfl, (hdv H3).odd, W3.rc_, fun m e hm => ?_, fun _ H4 z s4 hz => ?_⟩
  · rw [e, whole_yes hm] at nw
    cases nw
  refine ⟨_, rfl, (by show 2 ≤ sizeLine; decide), fun u nu => ?_⟩
  have s5 := same_upd (o := .tup [.str "refused", v]) nu
  have rD : ∀ {H' : Hp} {t : Addr}, H' t = some (.tup [.str "refused", v]) → Dt Any H' (.ref t) (.tuple [.str "refused", dv]) := fun {H' t} h => .tup trivial h (.cons (.str "refused" (by decide) (by decide +kernel)) (.cons (hdv H') .nil))
  have dep2 : (PyData.tuple [.str "refused", dv]).depth ≤ 64 := by
    show PyData.depthAll [.str "refused", dv] + 1 ≤ 64
    have e : PyData.depthAll [.str "refused", dv] ≤ 0 := depth_le.mpr fun x hx => by
      simp only [List.mem_cons, List.not_mem_nil, or_false] at hx
      rcases hx with rfl | rfl
      · exact Nat.zero_le _
      · omega
    omega
  refine cmp_ne (rD (s5 _ _ hz)) (rD upd_same) dep2 ⟨false, rfl, iteF ?_⟩
  have W5 := (W3.same s4).same s5
  have hE5 := (hE3.same s4).same s5
  have hb5 := s5 _ _ (s4 _ _ hb3)
  generalize upd H4 u (.tup [.str "refused", v]) = H5 at W5 hE5 hb5 ⊢
  clear W3 hE3 hb3 s4 s5 hz nu
  refine testOp (call2 rfl ?_)
  refine ⟨_, rfl, rc, _, _, wd, os, rfl, .int _, W5.rc_, fun m e hm H6 z s6 hz => ?_, fun e => ?_⟩
  rotate_left
  · rw [whole_yes (Nat.le_refl _)] at e
    cases e
  obtain rfl : os.length = m := by have := V.int.inj e; omega
  rw [List.take_length] at hz
  have W6 := W5.same s6
  refine ⟨_, rfl, D, vs, rfl, .inl W6.hD, fun H7 t s7 ht => ⟨(by show 2 ≤ sizeLine; decide), fun u nu => ?_⟩⟩
  have s8 := same_upd (o := .tup [.str "made", .ref t]) nu
  have d2 : Dt Any H7 (.ref t) (rowsD os) := .tup trivial ht (W6.its.same s7)
  refine cmp_ne ((hz.same s7).same s8) (made_at (d2.same s8) upd_same) (made_depth _) ⟨false, rfl, iteF ?_⟩
  have s9 := (s6.trans s7).trans s8
  exact rL _ _ _ ⟨yL [y 0, some (.int (os.length : Int)), y 1, y 2, y 3, some v, y 5, y 6, y 7, y 8], wd, n, p, l, D, rc, ev, bh, vs, os, rfl, W5.same s9, hn, hE5.same s9, s9 _ _ hb5, nb⟩ q
end
end K04

/-! after, shorter: what is told -/
namespace K04
open PySem PySem.Spec PyProof.Rows L2 GenW
section
variable {P : Program} {w : World} {K : PySem.W.Frag} {mg : Str → Option Value} {base : Heap}
theorem tSho {f fH fD fP fF fU fA fS fB fR fE fM CR CE CN : Addr} {fdH fdD fdP fdF fdU fdA fdS fdB fdR fdE : FuncData} {cdv : Value} {A : Around} {outer : List Env} {s0 : Shared} {H0 : Hp} {E : XK}
    (hr : Room 13 (A.deeper (envOfC "law" (defScope sLaw) s0.heap.objs.size f cdv))) (L : LawC P w K mg base fH fD fP fF fU fA fS fB fR fE fM CR CE CN fdH fdD fdP fdF fdU fdA fdS fdB fdR fdE) :
    ∃ u, PSs (cxOf CX0 P w K mg base nmL "law" (defScope sLaw) f cdv A outer s0 H0 E).nox ((defBody sLaw).drop 9) u ∧ ∀ (σ : L2.St) (H : Hp) (T : Ends), OddS CR σ H → (∀ H', T.rt (.bl true) H') → u T σ H := by
  obtain ⟨uL, pL, rL⟩ := tOdd (f := f) (cdv := cdv) (outer := outer) (H0 := H0) (E := E) hr L
  obtain ⟨z_len, z_list, z_tuple, z_isinstance, z_range, R, EQ, dH, dD, dP, dF, dU, dA, dS, B, bB, gB, kB, U, kI, tI⟩ := L
  have hr2 := hr.mono (show 2 ≤ 13 by decide)
  have hr3 := hr.mono (show 3 ≤ 13 by decide)
  have hr9 := hr.mono (show 9 ≤ 13 by decide)
  have hr10 := hr.mono (show 10 ≤ 13 by decide)
  refine ⟨_, (pss_cons (ps_if (PW.pt (pw_or (pt_cmpR (op_neD hr.units) (pe_call dA.ok hr10 (by rfl) dA.gl dA.kp dA.bi .nil pass0 (pa_cons (pv 10) (pa_cons (pv 11) pa_nil))) (pe_tup (pa_cons pe_str (pa_cons (pe_callTy call_tupS (by rfl) z_tuple (by decide +kernel) (pa_cons (pe_slice sl_list (pv 4) po_none (po_some (pe_op op_add (pv 9) pe_int))) pa_nil)) pa_nil))) (nomark _)) (pw_or1 (pt_cmpR (op_neD hr.units) (pe_fld (pv 10) rfl) (pe_callTy call_tupS (by rfl) z_tuple (by decide +kernel) (pa_cons (pe_slice sl_list (pv 4) po_none (po_some (pv 9))) pa_nil)) (nomark _)))))
      (pss_one (ps_ret pe_bl))
      pss_nil)
    (pss_cons (ps_if (pt_cmpR (op_neD hr.units) (pe_call dS.ok hr10 (by rfl) dS.gl dS.kp dS.bi .nil pass0 (pa_cons (pv 5) pa_nil)) (pe_ifExp (pt_cmpR op_gt (pv 3) pe_int (nomark _)) (pe_tup (pa_cons pe_str (pa_cons (pe_callTy call_tupS (by rfl) z_tuple (by decide +kernel) (pa_cons (pe_slice sl_list (pv 4) po_none (po_some (pe_un un_neg pe_int))) pa_nil)) pa_nil))) (pe_tup (pa_cons pe_str (pa_cons pe_int pa_nil)))) (nomark _))
      (pss_one (ps_ret pe_bl))
      pss_nil)
    pL)), ?_⟩
  rintro σ H T ⟨y, wd, n, p, l, D, rc, ev, bh, vs, os, rfl, W, hn, hE, hb, nb⟩ q
  have ln : (os.take n).length = n := by rw [List.length_take]; omega
  -- after(early, behind)
  have tk : os.take n ++ (os.drop n).take 2 = os.take (n + 2) := (List.take_add ..).symm
  have hbd : DtAll Any H ((vs.drop n).take 2) (((os.drop n).take 2).map datO) := by
    rw [List.map_take, List.map_drop]
    exact (W.its.drop n).take 2
  have hrd : RowsD (((os.drop n).take 2).map datO) ((os.drop n).take 2) := by
    have z := W.rc_.rows.drop n
    have z2 := z.take 2
    rw [← List.map_drop, ← List.map_take] at z2
    exact z2
  refine seq_ifS (orS (testOp (call2 rfl ?_)))
  refine ⟨_, rfl, ?_⟩
  refine la_made hE hb hbd hrd (by rw [ln]; have := W.few; omega) (by rw [List.length_take]; omega) (by rw [tk]; exact fault_take _ W.rc_.ef) fun H1 z s1 hz => ?_
  rw [tk] at hz
  have W1 := W.same s1
  refine made_t (k := n + 2) rfl W1.hD W1.its (cut_toA vs (n + 2)) (fun Q q => ⟨_, rfl, _, _, rfl, rfl, _, rfl, q⟩) fun H2 t s2 ht => ?_
  refine cmp_ne (hz.same s2) ht (made_depth _) ⟨false, rfl, iteF ?_⟩
  have W2 := W1.same s2
  have hE2 := (hE.same s1).same s2
  have hb2 := s2 _ _ (s1 _ _ hb)
  clear s1 s2 hz ht W1 z t
  obtain ⟨dx, ar, _, _, _, _, _, _, _, hx, hA⟩ := id hE2.at_
  refine testOp ?_
  refine ⟨_, rfl, ev, CR, dx, _, _, rfl, hx, R.cl.cl, R.cl.nRows, rfl, ?_⟩
  refine tup_t (k := n) rfl W2.hD W2.its (cut_toA vs n) (fun Q q => ⟨_, rfl, _, rfl, q⟩) fun H3 t s3 ht => ?_
  refine cmp_ne (hA.same s3) ht (rows_dep _) ⟨false, rfl, iteF ?_⟩
  have W3 := W2.same s3
  have hE3 := hE2.same s3
  have hb3 := s3 _ _ hb2
  clear s3 ht t hA hx W2 hE2 hb2
  dsimp only [tNext]
  -- shorter
  refine seq_ifS (testOp (call1 rfl ?_))
  refine ⟨rc, wd, os, rfl, W3.rc_, fun ne H4 z s4 hz => ?_, fun e0 H4 z s4 hz => ?_⟩
  · have pos : 0 < os.length := List.length_pos_iff.mpr ne
    have W4 := W3.same s4
    refine ⟨_, rfl, _, _, rfl, rfl, _, rfl, ?_⟩
    rw [decide_eq_true (show (0 : Int) < (os.length : Int) by omega)]
    refine iteT ?_
    refine made_t (k := os.length - 1) rfl W4.hD W4.its (by rw [cut_last, W.len]) (fun Q q => ⟨1, rfl, _, rfl, q⟩) fun H5 t s5 ht => ?_
    refine cmp_ne (hz.same s5) ht (made_depth _) ⟨false, rfl, iteF ?_⟩
    exact rL _ _ _ ⟨y, wd, n, p, l, D, rc, ev, bh, vs, os, rfl, W4.same s5, hn, (hE3.same s4).same s5, s5 _ _ (s4 _ _ hb3), nb⟩ q
  · have W4 := W3.same s4
    refine ⟨_, rfl, _, _, rfl, rfl, _, rfl, ?_⟩
    rw [decide_eq_false (show ¬ (0 : Int) < (os.length : Int) by rw [e0]; decide)]
    refine iteF ⟨(by show 2 ≤ sizeLine; decide), fun u nu => ?_⟩
    have s5 := same_upd (o := .tup [.str "refused", .int 0]) nu
    have rD : ∀ {H' : Hp} {t : Addr}, H' t = some (.tup [.str "refused", .int 0]) → Dt Any H' (.ref t) (.tuple [.str "refused", .int 0]) := fun {H' t} h => .tup trivial h (.cons (.str "refused" (by decide) (by decide +kernel)) (.cons (.int 0) .nil))
    refine cmp_ne (rD (s5 _ _ hz)) (rD upd_same) (by show 1 ≤ 64; decide) ⟨false, rfl, iteF ?_⟩
    exact rL _ _ _ ⟨y, wd, n, p, l, D, rc, ev, bh, vs, os, rfl, W4.same s5, hn, (hE3.same s4).same s5, s5 _ _ (s4 _ _ hb3), nb⟩ q
end
end K04

/-! the law's record is cut -/
namespace K04
open PySem PySem.Spec PyProof.Rows L2 GenW
theorem cut_two (vs : List V) (n : Nat) : cutV vs (some (n : Int)) (some ((n : Int) + 2)) = (vs.drop n).take 2 := by
  show (vs.drop (HT.sIx vs.length 0 (some (n : Int)))).take (HT.sIx vs.length vs.length (some ((n + 2 : Nat) : Int)) - HT.sIx vs.length 0 (some (n : Int))) = _
  rw [HT.sIx_nat, HT.sIx_nat]
  by_cases h : n ≤ vs.length
  · rw [Nat.min_eq_left h]
    by_cases h2 : n + 2 ≤ vs.length
    · rw [Nat.min_eq_left h2]
      congr 1
      omega
    · rw [Nat.min_eq_right (by omega), List.take_of_length_le (by rw [List.length_drop]; omega), List.take_of_length_le (by rw [List.length_drop]; omega)]
  · rw [Nat.min_eq_right (by omega), List.drop_of_length_le (by omega), List.drop_of_length_le (by omega)]
    rw [List.take_nil, List.take_nil]
def CutS (CR : Addr) (σ : L2.St) (H : Hp) : Prop := ∃ (y : _root_.Fin 12 → Option V) (wd : Nat) (p l D rc : Addr) (vs : List V) (os : List (Option Rw)),
  σ = [y 0, some (.ref p), some (.int (wd : Int)), some (.int (os.length : Int)), some (.ref D), some (.ref rc), y 1, y 2, y 3, y 4, y 5, y 6, y 7, y 8, y 9, y 10, y 11, none] ∧ Lw CR p l D rc H wd vs os
section
variable {P : Program} {w : World} {K : PySem.W.Frag} {mg : Str → Option Value} {base : Heap}
theorem tCut {f fH fD fP fF fU fA fS fB fR fE fM CR CE CN : Addr} {fdH fdD fdP fdF fdU fdA fdS fdB fdR fdE : FuncData} {cdv : Value} {A : Around} {outer : List Env} {s0 : Shared} {H0 : Hp} {E : XK}
    (hr : Room 13 (A.deeper (envOfC "law" (defScope sLaw) s0.heap.objs.size f cdv))) (L : LawC P w K mg base fH fD fP fF fU fA fS fB fR fE fM CR CE CN fdH fdD fdP fdF fdU fdA fdS fdB fdR fdE) :
    ∃ u, PSs (cxOf CX0 P w K mg base nmL "law" (defScope sLaw) f cdv A outer s0 H0 E).nox ((defBody sLaw).drop 7) u ∧ ∀ (σ : L2.St) (H : Hp) (T : Ends), CutS CR σ H → (∀ H', T.rt (.bl true) H') → u T σ H := by
  obtain ⟨uL, pL, rL⟩ := tSho (f := f) (cdv := cdv) (outer := outer) (H0 := H0) (E := E) hr L
  obtain ⟨z_len, z_list, z_tuple, z_isinstance, z_range, R, EQ, dH, dD, dP, dF, dU, dA, dS, B, bB, gB, kB, U, kI, tI⟩ := L
  have hr2 := hr.mono (show 2 ≤ 13 by decide)
  have hr3 := hr.mono (show 3 ≤ 13 by decide)
  have hr9 := hr.mono (show 9 ≤ 13 by decide)
  have hr10 := hr.mono (show 10 ≤ 13 by decide)
  refine ⟨_, (pss_cons (ps_set (i := 9) scLaw.nd rfl (.inl rfl) (pe_call dD.ok hr2 (by rfl) dD.gl dD.kp dD.bi .nil pass0 (pa_cons (pv 1) (pa_cons (pe_op op_add (pv 3) pe_int) pa_nil))))
    (pss_cons (ps_par (i := 10) (j := 11) rfl scLaw.nd rfl rfl (by decide) rfl rfl (pa_cons (pe_methE (E := fun _ => E0) (pv 5) U.cl.cl U.mt U.ok hr9 (fun σ pins H s e s1 I c => passX0 pins σ H s e s1 I c) (pa_cons (pv 9) pa_nil)) (pa_cons (pe_slice sl_list (pv 4) (po_some (pv 9)) (po_some (pe_op op_add (pv 9) pe_int))) pa_nil)) rfl)
    pL)), ?_⟩
  rintro σ H T ⟨y, wd, p, l, D, rc, vs, os, rfl, W⟩ q
  refine seq_asgN (call2 rfl ?_)
  refine ⟨_, rfl, _, _, rfl, rfl, p, l, _, rfl, W.hand, by omega, ?_, fun d H1 d0 d1 k1 h1 => ?_⟩
  · have := W.few
    have e : ((os.length : Int) + 1).natAbs = os.length + 1 := by omega
    rw [e]
    exact Nat.lt_of_lt_of_le (show os.length + 1 < 2 ^ 20 by omega) (Nat.pow_le_pow_right (by decide) (by decide))
  obtain ⟨n, rfl⟩ := Int.eq_ofNat_of_zero_le d0
  have W1 := W.kept k1 h1
  have hn : n ≤ os.length := by omega
  obtain ⟨dx, ar, _, _, _, _, _, _, _, hx, hA⟩ := id W1.rc_.at_
  refine ⟨_, rfl, rc, dx, _, rfl, hx, rfl, _, rfl, rc, _, _, wd, os, rfl, .int _, W1.rc_, fun m e hm H2 z s2 hz => ?_, fun e => ?_⟩
  rotate_left
  · rw [whole_yes hn] at e
    cases e
  obtain rfl : n = m := by have := V.int.inj e; omega
  have W2 := W1.same s2
  refine ⟨_, rfl, _, rfl, _, rfl, _, rfl, _, _, rfl, rfl, _, rfl, D, vs, rfl, SqL.of W2.hD, fun b nb => ⟨_, _, rfl, ?_⟩⟩
  rw [cut_two]
  have s3 := same_upd (o := .lst ((vs.drop n).take 2)) nb
  have bp : b ≠ p := W2.hand.nn nb
  exact rL _ _ _ ⟨yL [y 0, y 1, y 2, y 3, y 7, y 8, y 9, y 10, y 11], wd, n, p, l, D, rc, z, b, vs, os, rfl, W2.same s3, hn, hz.same s3, upd_same, bp⟩ q
end
end K04

/-! the loop over the beginnings -/
namespace K04
open PySem PySem.Spec PyProof.Rows L2 GenW
def LopS (CR : Addr) (σ : L2.St) (H : Hp) : Prop := ∃ (y : _root_.Fin 11 → Option V) (wd : Nat) (p l D rc b : Addr) (vs : List V) (os : List (Option Rw)) (ys : List V),
  σ = [y 0, some (.ref p), some (.int (wd : Int)), some (.int (os.length : Int)), some (.ref D), some (.ref rc), some (.ref b), y 1, y 2, y 3, y 4, y 5, y 6, y 7, y 8, y 9, y 10, none] ∧ Lw CR p l D rc H wd vs os ∧
  H b = some (.lst ys) ∧ ys.length = os.length + 1 ∧ ∀ k v, ys[k]? = some v → ∃ y, v = .ref y ∧ RecV CR H y wd (os.take k)
section
variable {P : Program} {w : World} {K : PySem.W.Frag} {mg : Str → Option Value} {base : Heap}
theorem tLop {f fH fD fP fF fU fA fS fB fR fE fM CR CE CN : Addr} {fdH fdD fdP fdF fdU fdA fdS fdB fdR fdE : FuncData} {cdv : Value} {A : Around} {outer : List Env} {s0 : Shared} {H0 : Hp} {E : XK}
    (hr : Room 13 (A.deeper (envOfC "law" (defScope sLaw) s0.heap.objs.size f cdv))) (L : LawC P w K mg base fH fD fP fF fU fA fS fB fR fE fM CR CE CN fdH fdD fdP fdF fdU fdA fdS fdB fdR fdE) :
    ∃ u, PSs (cxOf CX0 P w K mg base nmL "law" (defScope sLaw) f cdv A outer s0 H0 E).nox ((defBody sLaw).drop 6) u ∧ ∀ (σ : L2.St) (H : Hp) (T : Ends), LopS CR σ H → (∀ H', T.rt (.bl true) H') → u T σ H := by
  obtain ⟨uL, pL, rL⟩ := tCut (f := f) (cdv := cdv) (outer := outer) (H0 := H0) (E := E) hr L
  obtain ⟨z_len, z_list, z_tuple, z_isinstance, z_range, R, EQ, dH, dD, dP, dF, dU, dA, dS, B, bB, gB, kB, U, kI, tI⟩ := L
  have hr1 := hr.mono (show 1 ≤ 13 by decide)
  have hr2 := hr.mono (show 2 ≤ 13 by decide)
  have hr3 := hr.mono (show 3 ≤ 13 by decide)
  have hr9 := hr.mono (show 9 ≤ 13 by decide)
  have hr10 := hr.mono (show 10 ≤ 13 by decide)
  refine ⟨_, (pss_cons (ps_for PassesOwn.never rfl (pi_range1 (by rfl) z_range (pa_cons (pe_op op_add (pv 3) pe_int) pa_nil)) (pg_name (i := 7) scLaw.nd rfl (.inl rfl))
      (pss_cons (ps_set (i := 8) scLaw.nd rfl (.inl rfl) (pe_ix ix_list (pv 6) (pv 7) (fun _ _ => rfl)))
      (pss_cons (ps_if (PW.pt (pw_or (pt_not (pt_val (pe_callB call_isi (by rfl) z_isinstance (by decide +kernel) (pa_cons (pv 8) (pa_cons (pe_glob (by rfl) R.gl (v := .ref CR) rfl (by decide +kernel)) pa_nil))))) (pw_or (pt_cmpR op_ne (pe_fld (pv 8) rfl) (pv 2) (nomark _)) (pw_or (pt_cmpR (op_neD hr.units) (pe_fld (pv 8) rfl) (pe_callTy call_tupS (by rfl) z_tuple (by decide +kernel) (pa_cons (pe_slice sl_list (pv 4) po_none (po_some (pv 7))) pa_nil)) (nomark _)) (pw_or1 (pt_cmpR (op_neI EQ.ok EQ.ne EQ.fi EQ.fn EQ.ob EQ.bi hr2) (pv 8) (pe_methE (E := fun _ => E0) (pv 5) U.cl.cl U.mt U.ok hr9 (fun σ pins H s e s1 I c => passX0 pins σ H s e s1 I c) (pa_cons (pv 7) pa_nil)) (nomark _)))))))
        (pss_one (ps_ret pe_bl))
        pss_nil)
      (pss_one (ps_if (pt_cmpR op_ne (pe_cmpR (op_eqI EQ.ok EQ.nf EQ.fi EQ.fn EQ.bi pass0 hr1) (pv 8) (pv 5) (nomark _)) (pe_cmpR op_eq (pv 7) (pv 3) (nomark _)) (nomark _))
        (pss_one (ps_ret pe_bl))
        pss_nil)))))
    pL), ?_⟩
  rintro σ H T ⟨y, wd, p, l, D, rc, b, vs, os, ys, rfl, W, hb, hl, hk⟩ q
  refine ⟨_, rfl, _, _, rfl, rfl, ((os.length : Int) + 1), rfl, by have := W.few; omega, by have := W.few; omega, for_it walk_range (fun i σ H' => ∃ x7 x8 : Option V, σ = [y 0, some (.ref p), some (.int (wd : Int)), some (.int (os.length : Int)), some (.ref D), some (.ref rc), some (.ref b), x7, x8, y 3, y 4, y 5, y 6, y 7, y 8, y 9, y 10, none] ∧ Same H H')
    ⟨_, _, rfl, Same.refl _⟩ (fun _ _ _ _ _ => trivial) ?_ ?_⟩
  · rintro i v σ H1 H2 hi ⟨x7, x8, rfl, s1⟩ ⟨rfl, rfl⟩
    have hi' : i ≤ os.length := by omega
    show gName 7 (V.int (0 + (i : Int))) _ _ _
    rw [Int.zero_add]
    have W1 := W.same s1
    have hb1 := s1 _ _ hb
    have il : i < ys.length := by omega
    obtain ⟨x, ex, hX0⟩ := hk i _ (List.getElem?_eq_getElem il)
    have hX := hX0.same s1
    have eu : atI ys (i : Int) = some (.ref x) := atI_nat (by rw [List.getElem?_eq_getElem il, ex])
    obtain ⟨dx, ar, _, _, _, _, _, _, _, hx, hA⟩ := id hX.at_
    refine ⟨_, rfl, _, rfl, b, ys, (i : Int), .ref x, rfl, rfl, SqL.of hb1, eu, ?_⟩
    dsimp only [gName]
    refine seq_ifS (orS ?_)
    refine ⟨_, rfl, _, _, _, _, true, rfl, .own _, .base (tI hx), kI, true, rfl, iteF ?_⟩
    refine orS ?_
    refine ⟨_, rfl, x, CR, dx, _, _, rfl, hx, R.cl.cl, R.cl.nWidth, rfl, _, rfl, rfl, _, rfl, ?_⟩
    rw [decide_eq_true rfl]
    refine iteF ?_
    refine orS (testOp ?_)
    refine ⟨_, rfl, x, CR, dx, _, _, rfl, hx, R.cl.cl, R.cl.nRows, rfl, ?_⟩
    refine tup_t (k := i) rfl W1.hD W1.its (cut_toA vs i) (fun Q q => ⟨_, rfl, _, rfl, q⟩) fun H3 t s3 ht => ?_
    refine cmp_ne (hA.same s3) ht (rows_dep _) ⟨false, rfl, iteF ?_⟩
    have W3 := W1.same s3
    have hX3 := hX.same s3
    have hx3 := s3 _ _ hx
    obtain ⟨dr, rr, _, _, _, _, _, _, _, hr3, hR3⟩ := id W3.rc_.at_
    refine ⟨_, rfl, _, rfl, rc, dr, _, rfl, hr3, rfl, _, rfl, rc, _, _, wd, os, rfl, .int _, W3.rc_, fun m e hm H4 z s4 hz => ?_, fun e => ?_⟩
    rotate_left
    · rw [whole_yes hi'] at e
      cases e
    obtain rfl : i = m := by have := V.int.inj e; omega
    obtain ⟨dz, rz, _, _, _, _, _, _, _, hz4, _⟩ := id hz.at_
    have hX4 := hX3.same s4
    have W4 := W3.same s4
    have hx4 := s4 _ _ hx3
    have hr4 := s4 _ _ hr3
    refine ⟨x, z, dx, dz, _, _, rfl, rfl, hx4, hz4, x, z, wd, wd, _, _, rfl, hX4.at_, hz.at_, rows_dep _, rows_dep _, _, rfl, _, rfl, ?_⟩
    rw [decide_eq_true rfl, PySem.SeqAt.eqv_refl _ (hA.lay)]
    refine iteF ?_
    dsimp only [tNext]
    refine ⟨_, rfl, _, rfl, x, rc, dx, dr, _, _, rfl, rfl, hx4, hr4, x, rc, wd, wd, rowsD (os.take i), rowsD os, rfl, hX4.at_, W4.rc_.at_, rows_dep _, rows_dep _, _, rfl, _, rfl, _, rfl, rfl, rfl, _, rfl, ?_⟩
    have ee : (decide (V.int (wd : Int) = V.int (wd : Int)) && PyData.eqv (rowsD (os.take i)) (rowsD os)) = decide (V.int (i : Int) = V.int (os.length : Int)) := by
      rw [decide_eq_true rfl, Bool.true_and]
      by_cases h : i = os.length
      · rw [h, List.take_length, decide_eq_true rfl]
        exact PySem.SeqAt.eqv_refl _ hR3.lay
      · rw [decide_eq_false (fun z => h (by have := V.int.inj z; omega))]
        exact rows_ne (by rw [List.length_take]; omega)
    rw [ee, decide_eq_true rfl]
    refine iteF ?_
    exact ⟨_, _, rfl, (s1.trans s3).trans s4⟩
  · rintro σ H1 ⟨x7, x8, rfl, s1⟩
    exact rL _ _ _ ⟨yL [y 0, some (.ref b), x7, x8, y 3, y 4, y 5, y 6, y 7, y 8, y 9, y 10], wd, p, l, D, rc, vs, os, rfl, W.same s1⟩ q
end
end K04

/-! the law -/
namespace K04
open PySem PySem.Spec PyProof.Rows L2 GenW
def spLaw (K : PySem.W.Frag) : Sp := fun vs H Q _ => ∃ (a : Addr) (ns : List Int), vs = [.ref a] ∧ SqL K H a (ns.map V.int) ∧ ns.length ≤ 63 ∧ ∀ H', Q (.bl true) H'
section
variable {P : Program} {w : World} {K : PySem.W.Frag} {mg : Str → Option Value} {base : Heap}
theorem ok_law {f fH fD fP fF fU fA fS fB fR fE fM CR CE CN : Addr} {fd fdH fdD fdP fdF fdU fdA fdS fdB fdR fdE : FuncData} (F : FnP K "law" sLaw f fd) (L : LawC P w K mg base fH fD fP fF fU fA fS fB fR fE fM CR CE CN fdH fdD fdP fdF fdU fdA fdS fdB fdR fdE) :
    FnOk P w K mg base CX0 14 f fd ["_law_script"] (spLaw K) := by
  refine F.ok scLaw (fun vs H Q E h => ?_) (fun cdv A outer s H vs Q E hr h => ?_)
  · obtain ⟨a, ns, rfl, _⟩ := h
    rfl
  · obtain ⟨a, ns, rfl, hS, h63, q⟩ := h
    obtain ⟨uL, pL, rL⟩ := tLop (f := f) (cdv := cdv) (outer := outer) (H0 := H) (E := E) hr L
    obtain ⟨z_len, z_list, z_tuple, z_isinstance, z_range, R, EQ, dH, dD, dP, dF, dU, dA, dS, B, bB, gB, kB, U, kI, tI⟩ := L
    have hr1 := hr.mono (show 1 ≤ 13 by decide)
    have hr2 := hr.mono (show 2 ≤ 13 by decide)
    have hr4 := hr.mono (show 4 ≤ 13 by decide)
    have hr8 := hr.mono (show 8 ≤ 13 by decide)
    have hr10 := hr.mono (show 10 ≤ 13 by decide)
    refine ⟨_, PSs.nox (pss_cons (ps_set (i := 1) scLaw.nd rfl (.inl rfl) (pe_call dH.ok hr1 (by rfl) dH.gl dH.kp dH.bi .nil pass0 (pa_cons (pv 0) pa_nil)))
    (pss_cons (ps_par (i := 2) (j := 3) rfl scLaw.nd rfl rfl (by decide) rfl rfl (pa_cons (pe_call dD.ok hr2 (by rfl) dD.gl dD.kp dD.bi .nil pass0 (pa_cons (pv 1) (pa_cons pe_int pa_nil))) (pa_cons (pe_call dD.ok hr2 (by rfl) dD.gl dD.kp dD.bi .nil pass0 (pa_cons (pv 1) (pa_cons pe_int pa_nil))) pa_nil)) rfl)
    (pss_cons (ps_set (i := 4) scLaw.nd rfl (.inl rfl) (pe_call dF.ok hr4 (by rfl) dF.gl dF.kp dF.bi .nil pass0 (pa_cons (pv 1) (pa_cons (pv 3) (pa_cons (pv 2) pa_nil)))))
    (pss_cons (ps_set (i := 5) scLaw.nd rfl (.inl rfl) (pe_make R.mks R.ok hr8 (by rfl) R.gl R.bi .nil passX0 (pa_cons (pv 2) (pa_cons (pv 4) pa_nil))))
    (pss_cons (ps_set (i := 6) scLaw.nd rfl (.inl rfl) (pe_listG (pgen_call B hr10 (by rfl) gB kB bB .nil (pa_cons (pv 5) pa_nil)) passX0 (fun _ _ _ z => z.elim) hr (by rfl) z_list (by decide +kernel)))
    (pss_cons (ps_if (pt_cmpR op_ne (pe_callB call_len_seq (by rfl) z_len boot_len (pa_cons (pv 6) pa_nil)) (pe_op op_add (pv 3) pe_int) (nomark _))
      (pss_one (ps_ret pe_bl))
      pss_nil)
    pL)))))), ?_⟩
    refine seq_asgN (call1 rfl ⟨a, ns, rfl, hS, h63, fun H1 p l t s1 np h1 => ?_⟩)
    have hd1 : Hand p l H1 := ⟨_, _, _, _, h1⟩
    clear h1 np s1 hS
    refine ⟨_, rfl, p, l, 3, rfl, hd1, by decide, by decide, fun d H2 d0 d3 k2 hd2 => ⟨_, rfl, p, l, 26, rfl, hd2, by decide, by decide, fun m H3 m0 m26 k3 hd3 => ⟨_, _, rfl, ?_⟩⟩⟩
    obtain ⟨wd, rfl⟩ := Int.eq_ofNat_of_zero_le d0
    obtain ⟨m, rfl⟩ := Int.eq_ofNat_of_zero_le m0
    clear k2 k3 hd1 hd2
    refine ⟨_, rfl, _, rfl, _, rfl, p, l, m, wd, rfl, hd3, by omega, by omega, fun D vs os H4 hd4 nDp nDl hD its hl rows ef sh => ?_⟩
    have w2 : wd ≤ 2 := by omega
    have lo : os.length = m := by have := its.len; rw [List.length_map] at this; omega
    subst lo
    have pl : Plan H4 (wd : Int) (.ref D) os (.list (os.map datO)) (os.map datO) := ⟨by omega, by omega, .lst trivial hD its, rfl, by rw [List.length_map]; omega, rows⟩
    refine ⟨_, rfl, _, rfl, fun x dx nx nd ne => ?_⟩
    have s0 := same_ins (C := CR) nx nd ne
    refine ⟨x, dx, wd, .ref D, os, _, _, rfl, upd_same, pl.same s0, fun _ H8 hR8 k8 => ⟨rfl, ?_⟩, fun i z e => by rw [ef] at e; cases e⟩
    have s8 : Same H4 H8 := fun y o e => k8 y o (s0 _ _ e) (ne_of_none e nx)
    have W8 : Lw CR p l D x H8 wd vs os := ⟨hd4.same s8, s8 _ _ hD, nDp, its.same s8, ⟨hR8, by omega, by omega, by omega, ef, rows⟩, by omega, w2, sh⟩
    clear k8 hR8 s8 s0 pl nx nd ne
    refine ⟨_, rfl, x, wd, os, rfl, W8.rc_, fun ys H9 s9 hl9 hk9 => fun b nb => ?_⟩
    have s10 := same_upd (o := .lst ys) nb
    refine ⟨_, rfl, b, ys, rfl, .inl (SqL.of upd_same), _, rfl, _, _, rfl, rfl, rfl, _, rfl, ?_⟩
    rw [hl9, decide_eq_true (show V.int (((os.length + 1 : Nat)) : Int) = V.int ((os.length : Int) + 1) from rfl)]
    refine iteF ?_
    exact rL _ _ _ ⟨yL [some (.ref a)], wd, p, l, D, x, b, vs, os, ys, rfl, (W8.same s9).same s10, upd_same, hl9, fun k v e => by
      obtain ⟨y, ey, hy⟩ := hk9 k v e
      exact ⟨y, ey, hy.same s10⟩⟩ q
end
end K04

set_option maxHeartbeats 8000000
/-! the facts by the head, the end -/
namespace K04
open PySem PySem.Spec PyProof.Rows L2
theorem oexB_ok {K : PySem.W.Frag} {C : Addr} (h : oexB K C = true) : ∃ nm q N bs bm sn sub ab col dd k0 k1 k2 k3 k5, K.lookup C = some (excClassObj nm q C N bs bm true sn sub ab col dd k0 k1 k2 k3 k5 "ValueError.__new__") ∧ PySem.HandSPX.refsVE bm = true := by
  unfold oexB at h
  split at h
  · rename_i t dd cd sl e
    obtain ⟨h1, h2⟩ := Bool.and_eq_true_iff.mp h
    have et := of_decide_eq_true h1
    split at h2
    · rename_i C' bm k0 k1 k2 k3 n k5 hm hs
      obtain ⟨h3, h4⟩ := Bool.and_eq_true_iff.mp h2
      obtain ⟨h5, h6⟩ := Bool.and_eq_true_iff.mp h4
      obtain ⟨h7, h8⟩ := Bool.and_eq_true_iff.mp h6
      obtain ⟨h9, h10⟩ := Bool.and_eq_true_iff.mp h8
      have eC := of_decide_eq_true h3
      have en := of_decide_eq_true h5
      obtain ⟨nm, bs, mro, ns, qn, hd, sn, sb, ab, col, del⟩ := cd
      dsimp only at hm h7 h9
      have e9 : del = false := by
        cases del with
        | false => rfl
        | true => cases h9
      have es : sl = #[k0, k1, k2, k3, some (.builtin n), k5] := by
        cases sl
        exact congrArg Array.mk hs
      subst et eC en e9 hm es h7
      exact ⟨nm, qn, ns, bs, bm, sn, sb, ab, col, dd, k0, k1, k2, k3, k5, e, h10⟩
    · cases h2
  · cases h
theorem b2 {a b : Bool} (h : (a && b) = true) : a = true ∧ b = true := Bool.and_eq_true_iff.mp h
/-- what the head says of an error -/
structure BadF (K : PySem.W.Frag) (D : Addr) : Prop where
  ox : OexC K D
  xf : XfC K D
  cl : PySem.W.findIn K (.ref D) "__class__" = some (some (.builtin "object.__class__"))
  ob : PySem.W.mroIn K D (.type "object") = some true
  ini : PySem.W.findIn K (.ref D) "__init__" = some (some (.ref (He.ma K D "__init__")))
  ty : PySem.W.typeIn K (.ref (He.ma K D "__init__")) = some (.type "function")
theorem badB_ok {K : PySem.W.Frag} {D : Addr} (h : badB K D = true) : BadF K D := by
  obtain ⟨x1, h⟩ := b2 h
  obtain ⟨x2, h⟩ := b2 h
  obtain ⟨x3, x4⟩ := b2 h
  obtain ⟨h1, h⟩ := b2 x2
  obtain ⟨h2, h⟩ := b2 h
  obtain ⟨h3, h⟩ := b2 h
  obtain ⟨h4, h⟩ := b2 h
  obtain ⟨h5, h⟩ := b2 h
  obtain ⟨h6, h⟩ := b2 h
  obtain ⟨h7, h⟩ := b2 h
  obtain ⟨h8, h9⟩ := b2 h
  have xf : XfC K D := ⟨of_decide_eq_true h1, of_decide_eq_true h2, of_decide_eq_true h3, h4⟩
  exact ⟨⟨oexB_ok x1, of_decide_eq_true h7, xf.exC, of_decide_eq_true h8, h9⟩, xf, of_decide_eq_true h5, of_decide_eq_true h6, of_decide_eq_true x3, of_decide_eq_true x4⟩
theorem BadF.xc {K : PySem.W.Frag} {D : Addr} (e : BadF K D) (d : dunB K = true) : ExcC K D := by
  obtain ⟨h1, h2⟩ := b2 d
  exact ⟨e.xf.ga, e.xf.gg, e.xf.exC, e.xf.hdC, e.cl, of_decide_eq_true h1, of_decide_eq_true h2, e.ob⟩
section
variable {P : Program} {w : World} {K : PySem.W.Frag} {mg : Str → Option Value} {base : Heap}
theorem SaysM.all (c : SaysM K) : ((fa.all fun f => f.ok K) && (restB K && fn.all fun d => d.ok K)) = true := congrArg (fun z : AlM => z.1) c
theorem SaysM.fact_ (c : SaysM K) (i : Nat) {f : He.Fa} (h : fa[i]? = some f) : f.ok K = true := List.all_eq_true.mp (b2 c.all).1 f (List.mem_of_getElem? h)
theorem SaysM.rest (c : SaysM K) : restB K = true := (b2 (b2 c.all).2).1
theorem SaysM.def_ (c : SaysM K) (i : Nat) {d : He.DefD} (h : fn[i]? = some d) : ∃ fd, FunD K d.name d.qual d.params d.body d.scope (d.dvs K) (d.kws K) (He.fAd K d.at_) fd := by
  have c2 := (b2 (b2 c.all).2).2
  have e : fn.map (fun d => He.fnW K d.at_) = fn.map He.DefD.val := congrArg (fun z : AlM => z.2) c
  have e2 : (fn.map fun d => He.fnW K d.at_)[i]? = (fn.map He.DefD.val)[i]? := by rw [e]
  rw [List.getElem?_map, List.getElem?_map, h] at e2
  exact He.DefD.funD (Option.some.inj e2) (List.all_eq_true.mp c2 d (List.mem_of_getElem? h))
theorem facts {h : Heap} {f : Addr} (X : K.In h) (G : h.Ns mainGlobals mg) (hfa : mg ("law" : Str) = some (.ref f)) (c : SaysM K) :
    ∃ fd : FuncData, (∀ (s : Shared) (v : Value), BindsTo s fd ⟨[v], []⟩ [("_law_script", v)]) ∧ ∀ base : Heap, K.In base → base.Ns mainGlobals mg → FnOk P w K mg base CX0 14 f fd ["_law_script"] (spLaw K) := by
  have z_int : mg "int" = none := He.free_ok X G (c.fact_ 0 (f := .free "int") rfl)
  have z_bool : mg "bool" = none := He.free_ok X G (c.fact_ 1 (f := .free "bool") rfl)
  have z_isinstance : mg "isinstance" = none := He.free_ok X G (c.fact_ 2 (f := .free "isinstance") rfl)
  have z_str : mg "str" = none := He.free_ok X G (c.fact_ 3 (f := .free "str") rfl)
  have z_len : mg "len" = none := He.free_ok X G (c.fact_ 4 (f := .free "len") rfl)
  have z_all : mg "all" = none := He.free_ok X G (c.fact_ 5 (f := .free "all") rfl)
  have z_list : mg "list" = none := He.free_ok X G (c.fact_ 6 (f := .free "list") rfl)
  have z_tuple : mg "tuple" = none := He.free_ok X G (c.fact_ 7 (f := .free "tuple") rfl)
  have z_enumerate : mg "enumerate" = none := He.free_ok X G (c.fact_ 8 (f := .free "enumerate") rfl)
  have z_range : mg "range" = none := He.free_ok X G (c.fact_ 9 (f := .free "range") rfl)
  have z_abs : mg "abs" = none := He.free_ok X G (c.fact_ 10 (f := .free "abs") rfl)
  have z_type : mg "type" = none := He.free_ok X G (c.fact_ 11 (f := .free "type") rfl)
  have g_is_whole : mg "is_whole" = some (.ref (He.ga K "is_whole")) := He.glo_ok X G (c.fact_ 12 (f := .glo "is_whole") rfl)
  have g_is_name : mg "is_name" = some (.ref (He.ga K "is_name")) := He.glo_ok X G (c.fact_ 13 (f := .glo "is_name") rfl)
  have g_is_label : mg "is_label" = some (.ref (He.ga K "is_label")) := He.glo_ok X G (c.fact_ 14 (f := .glo "is_label") rfl)
  have g_is_kind : mg "is_kind" = some (.ref (He.ga K "is_kind")) := He.glo_ok X G (c.fact_ 15 (f := .glo "is_kind") rfl)
  have g_is_sequence : mg "is_sequence" = some (.ref (He.ga K "is_sequence")) := He.glo_ok X G (c.fact_ 16 (f := .glo "is_sequence") rfl)
  have g_is_row : mg "is_row" = some (.ref (He.ga K "is_row")) := He.glo_ok X G (c.fact_ 17 (f := .glo "is_row") rfl)
  have g__are_names : mg "_are_names" = some (.ref (He.ga K "_are_names")) := He.glo_ok X G (c.fact_ 18 (f := .glo "_are_names") rfl)
  have g_row_fault : mg "row_fault" = some (.ref (He.ga K "row_fault")) := He.glo_ok X G (c.fact_ 19 (f := .glo "row_fault") rfl)
  have g__coming_fault : mg "_coming_fault" = some (.ref (He.ga K "_coming_fault")) := He.glo_ok X G (c.fact_ 20 (f := .glo "_coming_fault") rfl)
  have g__wedding_fault : mg "_wedding_fault" = some (.ref (He.ga K "_wedding_fault")) := He.glo_ok X G (c.fact_ 21 (f := .glo "_wedding_fault") rfl)
  have g__birth_fault : mg "_birth_fault" = some (.ref (He.ga K "_birth_fault")) := He.glo_ok X G (c.fact_ 22 (f := .glo "_birth_fault") rfl)
  have g__write_rows : mg "_write_rows" = some (.ref (He.ga K "_write_rows")) := He.glo_ok X G (c.fact_ 23 (f := .glo "_write_rows") rfl)
  have g_as_tuples : mg "as_tuples" = some (.ref (He.ga K "as_tuples")) := He.glo_ok X G (c.fact_ 24 (f := .glo "as_tuples") rfl)
  have g_beginnings : mg "beginnings" = some (.ref (He.ga K "beginnings")) := He.glo_ok X G (c.fact_ 25 (f := .glo "beginnings") rfl)
  have g__law_mix : mg "_law_mix" = some (.ref (He.ga K "_law_mix")) := He.glo_ok X G (c.fact_ 26 (f := .glo "_law_mix") rfl)
  have g__law_hand : mg "_law_hand" = some (.ref (He.ga K "_law_hand")) := He.glo_ok X G (c.fact_ 27 (f := .glo "_law_hand") rfl)
  have g__law_draw : mg "_law_draw" = some (.ref (He.ga K "_law_draw")) := He.glo_ok X G (c.fact_ 28 (f := .glo "_law_draw") rfl)
  have g__law_pick : mg "_law_pick" = some (.ref (He.ga K "_law_pick")) := He.glo_ok X G (c.fact_ 29 (f := .glo "_law_pick") rfl)
  have g__law_label : mg "_law_label" = some (.ref (He.ga K "_law_label")) := He.glo_ok X G (c.fact_ 30 (f := .glo "_law_label") rfl)
  have g__law_free_record : mg "_law_free_record" = some (.ref (He.ga K "_law_free_record")) := He.glo_ok X G (c.fact_ 31 (f := .glo "_law_free_record") rfl)
  have g__law_until : mg "_law_until" = some (.ref (He.ga K "_law_until")) := He.glo_ok X G (c.fact_ 32 (f := .glo "_law_until") rfl)
  have g__law_after : mg "_law_after" = some (.ref (He.ga K "_law_after")) := He.glo_ok X G (c.fact_ 33 (f := .glo "_law_after") rfl)
  have g__law_shorter : mg "_law_shorter" = some (.ref (He.ga K "_law_shorter")) := He.glo_ok X G (c.fact_ 34 (f := .glo "_law_shorter") rfl)
  have g_law : mg "law" = some (.ref (He.ga K "law")) := He.glo_ok X G (c.fact_ 35 (f := .glo "law") rfl)
  have g_Book : mg "Book" = some (.ref (He.ga K "Book")) := He.glo_ok X G (c.fact_ 36 (f := .glo "Book") rfl)
  have g_Record : mg "Record" = some (.ref (He.ga K "Record")) := He.glo_ok X G (c.fact_ 37 (f := .glo "Record") rfl)
  have g_BadRecord : mg "BadRecord" = some (.ref (He.ga K "BadRecord")) := He.glo_ok X G (c.fact_ 38 (f := .glo "BadRecord") rfl)
  have g_NoRow : mg "NoRow" = some (.ref (He.ga K "NoRow")) := He.glo_ok X G (c.fact_ 39 (f := .glo "NoRow") rfl)
  have g_CustomError : mg "CustomError" = some (.ref (He.ga K "CustomError")) := He.glo_ok X G (c.fact_ 40 (f := .glo "CustomError") rfl)
  have g_KINDS : mg "KINDS" = some (.ref (He.ga K "KINDS")) := He.glo_ok X G (c.fact_ 41 (f := .glo "KINDS") rfl)
  have g_MOST_ROWS : ∃ t, mg "MOST_ROWS" = some (.int 5000 t) := He.int_ok X G (c.fact_ 42 (f := .int "MOST_ROWS" 5000) rfl)
  have g_MOST_NAME : ∃ t, mg "MOST_NAME" = some (.int (10 ^ 30) t) := He.int_ok X G (c.fact_ 43 (f := .int "MOST_NAME" (10 ^ 30)) rfl)
  have g_MOST_WIDTH : ∃ t, mg "MOST_WIDTH" = some (.int 2 t) := He.int_ok X G (c.fact_ 44 (f := .int "MOST_WIDTH" 2) rfl)
  obtain ⟨d_is_whole, F_is_whole⟩ := c.def_ 0 rfl
  obtain ⟨d_is_name, F_is_name⟩ := c.def_ 1 rfl
  obtain ⟨d_is_label, F_is_label⟩ := c.def_ 2 rfl
  obtain ⟨d_is_kind, F_is_kind⟩ := c.def_ 3 rfl
  obtain ⟨d_is_sequence, F_is_sequence⟩ := c.def_ 4 rfl
  obtain ⟨d_is_row, F_is_row⟩ := c.def_ 5 rfl
  obtain ⟨d__are_names, F__are_names⟩ := c.def_ 6 rfl
  obtain ⟨d_row_fault, F_row_fault⟩ := c.def_ 7 rfl
  obtain ⟨d__coming_fault, F__coming_fault⟩ := c.def_ 8 rfl
  obtain ⟨d__wedding_fault, F__wedding_fault⟩ := c.def_ 9 rfl
  obtain ⟨d__birth_fault, F__birth_fault⟩ := c.def_ 10 rfl
  obtain ⟨d__write_rows, F__write_rows⟩ := c.def_ 11 rfl
  obtain ⟨d_as_tuples, F_as_tuples⟩ := c.def_ 12 rfl
  obtain ⟨d_beginnings, F_beginnings⟩ := c.def_ 13 rfl
  obtain ⟨d__law_mix, F__law_mix⟩ := c.def_ 14 rfl
  obtain ⟨d__law_hand, F__law_hand⟩ := c.def_ 15 rfl
  obtain ⟨d__law_draw, F__law_draw⟩ := c.def_ 16 rfl
  obtain ⟨d__law_pick, F__law_pick⟩ := c.def_ 17 rfl
  obtain ⟨d__law_label, F__law_label⟩ := c.def_ 18 rfl
  obtain ⟨d__law_free_record, F__law_free_record⟩ := c.def_ 19 rfl
  obtain ⟨d__law_until, F__law_until⟩ := c.def_ 20 rfl
  obtain ⟨d__law_after, F__law_after⟩ := c.def_ 21 rfl
  obtain ⟨d__law_shorter, F__law_shorter⟩ := c.def_ 22 rfl
  obtain ⟨d_law, F_law⟩ := c.def_ 23 rfl
  obtain ⟨d_BadRecord__init__, F_BadRecord__init__⟩ := c.def_ 24 rfl
  obtain ⟨d_NoRow__init__, F_NoRow__init__⟩ := c.def_ 25 rfl
  obtain ⟨d_Book__init__, F_Book__init__⟩ := c.def_ 26 rfl
  obtain ⟨d_Bookis_couple, F_Bookis_couple⟩ := c.def_ 27 rfl
  obtain ⟨d_Bookwrite, F_Bookwrite⟩ := c.def_ 28 rfl
  obtain ⟨d_Bookbring, F_Bookbring⟩ := c.def_ 29 rfl
  obtain ⟨d_Bookwed, F_Bookwed⟩ := c.def_ 30 rfl
  obtain ⟨d_Bookbury, F_Bookbury⟩ := c.def_ 31 rfl
  obtain ⟨d_Record__init__, F_Record__init__⟩ := c.def_ 32 rfl
  obtain ⟨d_Recordafter, F_Recordafter⟩ := c.def_ 33 rfl
  obtain ⟨d_Recorduntil, F_Recorduntil⟩ := c.def_ 34 rfl
  obtain ⟨d_Recordshorter, F_Recordshorter⟩ := c.def_ 35 rfl
  obtain ⟨d_Record__eq__, F_Record__eq__⟩ := c.def_ 36 rfl
  have b_is_whole : Binds K d_is_whole ["thing", "low", "high"] [] := FunD.bindsN F_is_whole fun _ _ _ _ _ _ us hl => match us, hl with | [_, _, _], _ => rfl
  have b_is_name : Binds K d_is_name ["thing"] [] := FunD.bindsN F_is_name fun _ _ _ _ _ _ us hl => match us, hl with | [_], _ => rfl
  have b_is_label : Binds K d_is_label ["thing"] [] := FunD.bindsN F_is_label fun _ _ _ _ _ _ us hl => match us, hl with | [_], _ => rfl
  have b_is_kind : Binds K d_is_kind ["thing"] [] := FunD.bindsN F_is_kind fun _ _ _ _ _ _ us hl => match us, hl with | [_], _ => rfl
  have b_is_sequence : Binds K d_is_sequence ["thing"] [] := FunD.bindsN F_is_sequence fun _ _ _ _ _ _ us hl => match us, hl with | [_], _ => rfl
  have b_is_row : Binds K d_is_row ["row"] [] := FunD.bindsN F_is_row fun _ _ _ _ _ _ us hl => match us, hl with | [_], _ => rfl
  have b__are_names : Binds K d__are_names ["thing"] [] := FunD.bindsN F__are_names fun _ _ _ _ _ _ us hl => match us, hl with | [_], _ => rfl
  have b_row_fault : Binds K d_row_fault ["book", "width", "row"] [] := FunD.bindsN F_row_fault fun _ _ _ _ _ _ us hl => match us, hl with | [_, _, _], _ => rfl
  have b__coming_fault : Binds K d__coming_fault ["book", "width", "row"] [] := FunD.bindsN F__coming_fault fun _ _ _ _ _ _ us hl => match us, hl with | [_, _, _], _ => rfl
  have b__wedding_fault : Binds K d__wedding_fault ["book", "father", "mother"] [] := FunD.bindsN F__wedding_fault fun _ _ _ _ _ _ us hl => match us, hl with | [_, _, _], _ => rfl
  have b__birth_fault : Binds K d__birth_fault ["book", "father", "mother", "label"] [] := FunD.bindsN F__birth_fault fun _ _ _ _ _ _ us hl => match us, hl with | [_, _, _, _], _ => rfl
  have b__write_rows : Binds K d__write_rows ["book", "width", "rows"] [] := FunD.bindsN F__write_rows fun _ _ _ _ _ _ us hl => match us, hl with | [_, _, _], _ => rfl
  have b_as_tuples : Binds K d_as_tuples ["row"] [] := FunD.bindsN F_as_tuples fun _ _ _ _ _ _ us hl => match us, hl with | [_], _ => rfl
  have b_beginnings : Binds K d_beginnings ["record"] [] := FunD.bindsN F_beginnings fun _ _ _ _ _ _ us hl => match us, hl with | [_], _ => rfl
  have b__law_mix : Binds K d__law_mix ["_law_number", "_law_turn"] [] := FunD.bindsN F__law_mix fun _ _ _ _ _ _ us hl => match us, hl with | [_, _], _ => rfl
  have b__law_hand : Binds K d__law_hand ["_law_script"] [] := FunD.bindsN F__law_hand fun _ _ _ _ _ _ us hl => match us, hl with | [_], _ => rfl
  have b__law_draw : Binds K d__law_draw ["_law_hand_here", "_law_many"] [] := FunD.bindsN F__law_draw fun _ _ _ _ _ _ us hl => match us, hl with | [_, _], _ => rfl
  have b__law_pick : Binds K d__law_pick ["_law_hand_here", "_law_things"] [] := FunD.bindsN F__law_pick fun _ _ _ _ _ _ us hl => match us, hl with | [_, _], _ => rfl
  have b__law_label : Binds K d__law_label ["_law_hand_here", "_law_k"] [] := FunD.bindsN F__law_label fun _ _ _ _ _ _ us hl => match us, hl with | [_, _], _ => rfl
  have b__law_free_record : Binds K d__law_free_record ["_law_hand_here", "_law_many", "_law_width"] [] := FunD.bindsN F__law_free_record fun _ _ _ _ _ _ us hl => match us, hl with | [_, _, _], _ => rfl
  have b__law_until : Binds K d__law_until ["_law_record", "_law_many"] [] := FunD.bindsN F__law_until fun _ _ _ _ _ _ us hl => match us, hl with | [_, _], _ => rfl
  have b__law_after : Binds K d__law_after ["_law_record", "_law_rows"] [] := FunD.bindsN F__law_after fun _ _ _ _ _ _ us hl => match us, hl with | [_, _], _ => rfl
  have b__law_shorter : Binds K d__law_shorter ["_law_record"] [] := FunD.bindsN F__law_shorter fun _ _ _ _ _ _ us hl => match us, hl with | [_], _ => rfl
  have b_BadRecord__init__ : Binds K d_BadRecord__init__ ["self", "index", "what"] [] := FunD.bindsN F_BadRecord__init__ fun _ _ _ _ _ _ us hl => match us, hl with | [_, _, _], _ => rfl
  have b_NoRow__init__ : Binds K d_NoRow__init__ ["self", "number"] [] := FunD.bindsN F_NoRow__init__ fun _ _ _ _ _ _ us hl => match us, hl with | [_, _], _ => rfl
  have b_Book__init__ : Binds K d_Book__init__ ["self"] [] := FunD.bindsN F_Book__init__ fun _ _ _ _ _ _ us hl => match us, hl with | [_], _ => rfl
  have b_Bookis_couple : Binds K d_Bookis_couple ["self", "father", "mother"] [] := FunD.bindsN F_Bookis_couple fun _ _ _ _ _ _ us hl => match us, hl with | [_, _, _], _ => rfl
  have b_Bookwrite : Binds K d_Bookwrite ["self", "index", "row"] [] := FunD.bindsN F_Bookwrite fun _ _ _ _ _ _ us hl => match us, hl with | [_, _, _], _ => rfl
  have b_Bookbring : Binds K d_Bookbring ["self", "index", "label", "kind"] [] := FunD.bindsN F_Bookbring fun _ _ _ _ _ _ us hl => match us, hl with | [_, _, _, _], _ => rfl
  have b_Bookwed : Binds K d_Bookwed ["self", "father", "mother"] [] := FunD.bindsN F_Bookwed fun _ _ _ _ _ _ us hl => match us, hl with | [_, _, _], _ => rfl
  have b_Bookbury : Binds K d_Bookbury ["self", "label"] [] := FunD.bindsN F_Bookbury fun _ _ _ _ _ _ us hl => match us, hl with | [_, _], _ => rfl
  have b_Record__init__ : Binds K d_Record__init__ ["self", "width", "rows"] [] := by
    obtain ⟨ds, v, b⟩ := FunD.binds1 (ps := ["self", "width", "rows"]) F_Record__init__ 3 1 (List.cons_ne_nil _ _) rfl fun T kV doc pm an cdv ct us its h1 h2 => match us, h1, its, h2 with | [_, _, _], _, [_], _ => ⟨_, rfl, rfl⟩
    have e : ds = [] := by
      have z := v.length
      exact List.eq_nil_of_length_eq_zero z.symm
    subst e
    exact b
  have b_Recorduntil : Binds K d_Recorduntil ["self", "many"] [] := FunD.bindsN F_Recorduntil fun _ _ _ _ _ _ us hl => match us, hl with | [_, _], _ => rfl
  have b_Recordshorter : Binds K d_Recordshorter ["self"] [] := FunD.bindsN F_Recordshorter fun _ _ _ _ _ _ us hl => match us, hl with | [_], _ => rfl
  have b_Record__eq__ : Binds K d_Record__eq__ ["self", "other"] [] := FunD.bindsN F_Record__eq__ fun _ _ _ _ _ _ us hl => match us, hl with | [_, _], _ => rfl
  have TB : BookC K (He.ga K "Book") := ⟨(He.cls_ok (c.fact_ 45 (f := .cls "Book") rfl)), (He.noat_ok (c.fact_ 52 (f := .noat "Book" "kinds") rfl)), (He.noat_ok (c.fact_ 53 (f := .noat "Book" "parents") rfl)), (He.noat_ok (c.fact_ 54 (f := .noat "Book" "row_numbers") rfl)), (He.noat_ok (c.fact_ 55 (f := .noat "Book" "dead") rfl)), (He.noat_ok (c.fact_ 56 (f := .noat "Book" "mate_now") rfl)), (He.noat_ok (c.fact_ 57 (f := .noat "Book" "all_mates") rfl)), (He.noat_ok (c.fact_ 58 (f := .noat "Book" "children") rfl))⟩
  have TR : RecC K (He.ga K "Record") := ⟨(He.cls_ok (c.fact_ 59 (f := .cls "Record") rfl)), (He.noat_ok (c.fact_ 65 (f := .noat "Record" "width") rfl)), (He.noat_ok (c.fact_ 66 (f := .noat "Record" "rows") rfl)), (He.noat_ok (c.fact_ 67 (f := .noat "Record" "persons") rfl)), (He.noat_ok (c.fact_ 68 (f := .noat "Record" "founders") rfl)), (He.noat_ok (c.fact_ 69 (f := .noat "Record" "born") rfl)), (He.noat_ok (c.fact_ 70 (f := .noat "Record" "weddings") rfl)), (He.noat_ok (c.fact_ 71 (f := .noat "Record" "couples") rfl)), (He.noat_ok (c.fact_ 72 (f := .noat "Record" "living") rfl)), (He.noat_ok (c.fact_ 73 (f := .noat "Record" "_book") rfl))⟩
  obtain ⟨r1, r⟩ := b2 c.rest
  obtain ⟨r2, r⟩ := b2 r
  obtain ⟨r3, r⟩ := b2 r
  obtain ⟨r4, r6⟩ := b2 r
  obtain ⟨n1, n⟩ := b2 r4
  obtain ⟨n2, n⟩ := b2 n
  obtain ⟨n3, n⟩ := b2 n
  obtain ⟨n4, n5⟩ := b2 n
  have n1 := of_decide_eq_true n1
  have n2 := of_decide_eq_true n2
  have n3 := of_decide_eq_true n3
  have n4 := of_decide_eq_true n4
  obtain ⟨u1, u2⟩ := b2 r3
  have u1 := of_decide_eq_true u1
  have u2 := of_decide_eq_true u2
  have bf := badB_ok r1
  have nf := badB_ok r2
  have e := hfa.symm.trans g_law
  cases e
  have b_law := FunD.bindsA (ps := ["_law_script"]) F_law fun _ _ _ _ _ _ us hl => match us, hl with | [_], _ => rfl
  refine ⟨d_law, fun s v => b_law s [v] rfl, fun base KX KG => ?_⟩
  have D_is_whole : Df P w K mg base "is_whole" 1 ["thing", "low", "high"] spWhole (He.ga K "is_whole") d_is_whole := ⟨g_is_whole, ok_whole F_is_whole z_int z_bool z_isinstance, b_is_whole, F_is_whole.kp⟩
  have D_is_name : Df P w K mg base "is_name" 2 ["thing"] spName (He.ga K "is_name") d_is_name := ⟨g_is_name, ok_name F_is_name D_is_whole.ok D_is_whole.bi D_is_whole.kp D_is_whole.gl g_MOST_NAME, b_is_name, F_is_name.kp⟩
  have D_is_label : Df P w K mg base "is_label" 1 ["thing"] spLabel (He.ga K "is_label") d_is_label := ⟨g_is_label, ok_label F_is_label z_str z_isinstance z_len z_all, b_is_label, F_is_label.kp⟩
  have D_is_kind : Df P w K mg base "is_kind" 1 ["thing"] spKind (He.ga K "is_kind") d_is_kind := ⟨g_is_kind, ok_kind F_is_kind z_str z_isinstance g_KINDS (fun H => He.tupB_ok r6 H), b_is_kind, F_is_kind.kp⟩
  have D_is_sequence : Df P w K mg base "is_sequence" 1 ["thing"] spSeq (He.ga K "is_sequence") d_is_sequence := ⟨g_is_sequence, ok_seq F_is_sequence z_list z_tuple z_isinstance, b_is_sequence, F_is_sequence.kp⟩
  have D__are_names : Df P w K mg base "_are_names" 3 ["thing"] spNames (He.ga K "_are_names") d__are_names := ⟨g__are_names, ok_names F__are_names z_all D_is_sequence D_is_name, b__are_names, F__are_names.kp⟩
  have D_is_row : Df P w K mg base "is_row" 4 ["row"] spRow (He.ga K "is_row") d_is_row := ⟨g_is_row, ok_row F_is_row z_isinstance z_str z_len D_is_sequence D_is_label D_is_kind D_is_name D__are_names, b_is_row, F_is_row.kp⟩
  have M_is_couple : Mt P w K mg base (He.ga K "Book") "is_couple" 1 ["self", "father", "mother"] (spCouple (He.ga K "Book")) _ d_Bookis_couple := ⟨(He.meth_ok (c.fact_ 47 (f := .meth "Book" "is_couple") rfl)), ok_couple F_Bookis_couple TB, b_Bookis_couple⟩
  have M_bring : Mt P w K mg base (He.ga K "Book") "bring" 1 ["self", "index", "label", "kind"] (spBring (He.ga K "Book")) _ d_Bookbring := ⟨(He.meth_ok (c.fact_ 49 (f := .meth "Book" "bring") rfl)), ok_bring F_Bookbring TB, b_Bookbring⟩
  have M_wed : Mt P w K mg base (He.ga K "Book") "wed" 1 ["self", "father", "mother"] (spWed (He.ga K "Book")) _ d_Bookwed := ⟨(He.meth_ok (c.fact_ 50 (f := .meth "Book" "wed") rfl)), ok_wed F_Bookwed TB, b_Bookwed⟩
  have M_bury : Mt P w K mg base (He.ga K "Book") "bury" 1 ["self", "label"] (spBury (He.ga K "Book")) _ d_Bookbury := ⟨(He.meth_ok (c.fact_ 51 (f := .meth "Book" "bury") rfl)), ok_bury F_Bookbury TB, b_Bookbury⟩
  have M_write : Mt P w K mg base (He.ga K "Book") "write" 2 ["self", "index", "row"] (spWrite (He.ga K "Book")) _ d_Bookwrite := ⟨(He.meth_ok (c.fact_ 48 (f := .meth "Book" "write") rfl)), ok_write F_Bookwrite TB M_bring M_wed M_bury, b_Bookwrite⟩
  have D__coming_fault : Df P w K mg base "_coming_fault" 1 ["book", "width", "row"] (spComing (He.ga K "Book")) (He.ga K "_coming_fault") d__coming_fault := ⟨g__coming_fault, ok_coming F__coming_fault TB z_len, b__coming_fault, F__coming_fault.kp⟩
  have D__wedding_fault : Df P w K mg base "_wedding_fault" 1 ["book", "father", "mother"] (spWedding (He.ga K "Book")) (He.ga K "_wedding_fault") d__wedding_fault := ⟨g__wedding_fault, ok_wedding F__wedding_fault TB, b__wedding_fault, F__wedding_fault.kp⟩
  have D__birth_fault : Df P w K mg base "_birth_fault" 2 ["book", "father", "mother", "label"] (spBirth (He.ga K "Book")) (He.ga K "_birth_fault") d__birth_fault := ⟨g__birth_fault, ok_birth F__birth_fault TB M_is_couple, b__birth_fault, F__birth_fault.kp⟩
  have D_row_fault : Df P w K mg base "row_fault" 5 ["book", "width", "row"] (spFault (He.ga K "Book")) (He.ga K "row_fault") d_row_fault := ⟨g_row_fault, ok_fault F_row_fault TB D_is_row D__coming_fault D__wedding_fault D__birth_fault, b_row_fault, F_row_fault.kp⟩
  have D__write_rows : Df P w K mg base "_write_rows" 6 ["book", "width", "rows"] (spWR (He.ga K "Book")) (He.ga K "_write_rows") d__write_rows := ⟨g__write_rows, ok_wr F__write_rows TB z_len z_enumerate g_MOST_ROWS g_MOST_WIDTH D_is_whole D_is_sequence D_row_fault M_write, b__write_rows, F__write_rows.kp⟩
  have MB : BookMk P w K mg base (He.ga K "Book") _ d_Book__init__ := ⟨(He.mkr_ok (c.fact_ 46 (f := .mkr "Book") rfl)), g_Book, ok_binit F_Book__init__ TB, b_Book__init__⟩
  have D_as_tuples : Df P w K mg base "as_tuples" 1 ["row"] spTuples (He.ga K "as_tuples") d_as_tuples := ⟨g_as_tuples, ok_tuples F_as_tuples z_tuple, b_as_tuples, F_as_tuples.kp⟩
  have XB : BadC P w K mg base (He.ga K "BadRecord") _ d_BadRecord__init__ := ⟨bf.ox, bf.ini, bf.ty, g_BadRecord, ok_bad F_BadRecord__init__ bf.ox (He.noat_ok (c.fact_ 74 (f := .noat "BadRecord" "index") rfl)) (He.noat_ok (c.fact_ 75 (f := .noat "BadRecord" "what") rfl)), b_BadRecord__init__⟩
  have RM : RMk P w K mg base (He.ga K "Record") (He.ga K "BadRecord") _ d_Record__init__ := ⟨TR, (He.mkr_ok (c.fact_ 60 (f := .mkr "Record") rfl)), g_Record, ok_rec F_Record__init__ TR TB z_tuple MB D__write_rows D_as_tuples XB, b_Record__init__⟩
  have XN : NorC P w K mg base (He.ga K "NoRow") _ d_NoRow__init__ := ⟨nf.ox, nf.ini, nf.ty, g_NoRow, ok_nor F_NoRow__init__ nf.ox (He.noat_ok (c.fact_ 76 (f := .noat "NoRow" "number") rfl)), b_NoRow__init__⟩
  have ME := (He.meth_ok (c.fact_ 61 (f := .meth "Record" "__eq__") rfl))
  have MA := (He.meth_ok (c.fact_ 62 (f := .meth "Record" "after") rfl))
  have MU := (He.meth_ok (c.fact_ 63 (f := .meth "Record" "until") rfl))
  have MS := (He.meth_ok (c.fact_ 64 (f := .meth "Record" "shorter") rfl))
  have EQ : EqN P w K mg base (He.ga K "Record") _ d_Record__eq__ := ⟨ok_reqG F_Record__eq__ TR z_type, ME.at_, ME.fn, b_Record__eq__, n5, n1, n2⟩
  have UN : UntC P w K mg base (He.ga K "Record") (He.ga K "NoRow") _ := ⟨TR, MU, FnOk.r (ok_until F_Recorduntil z_len RM XN D_is_whole) b_Recorduntil⟩
  have OS : FnR P w K mg base (L2.CX P w) 9 _ (spShorter (He.ga K "Record") (He.ga K "NoRow")) := FnOk.r (ok_shorter F_Recordshorter RM XN) b_Recordshorter
  have OA : FnR P w K mg base (L2.CX P w) 9 _ (spAfter (He.ga K "Record") (He.ga K "BadRecord")) := ok_after F_Recordafter RM
  have BX : BadX K mg (He.ga K "BadRecord") := ⟨g_BadRecord, bf.xf, (He.noat_ok (c.fact_ 74 (f := .noat "BadRecord" "index") rfl)), (He.noat_ok (c.fact_ 75 (f := .noat "BadRecord" "what") rfl)), (He.exm_ok (c.fact_ 77 (f := .exm "BadRecord" "BadRecord" true) rfl))⟩
  have NX : NorX K mg (He.ga K "NoRow") := ⟨g_NoRow, nf.xf, (He.noat_ok (c.fact_ 76 (f := .noat "NoRow" "number") rfl)), (He.exm_ok (c.fact_ 78 (f := .exm "NoRow" "NoRow" true) rfl))⟩
  have GB := ok_beg (P := P) (w := w) (base := base) F_beginnings z_len z_range UN
  have D0_draw : Df P w K mg base "_law_draw" 2 ["_law_hand_here", "_law_many"] spDraw (He.ga K "_law_draw") d__law_draw := ⟨g__law_draw, ok_draw F__law_draw z_int z_len F__law_mix g__law_mix, b__law_draw, F__law_draw.kp⟩
  have D__law_draw := D0_draw.draw
  have D0_pick : Df P w K mg base "_law_pick" 3 ["_law_hand_here", "_law_things"] (spPick K) (He.ga K "_law_pick") d__law_pick := ⟨g__law_pick, ok_pick F__law_pick z_len D0_draw, b__law_pick, F__law_pick.kp⟩
  have D__law_pick := D0_pick.pick
  have D__law_hand : Df P w K mg base "_law_hand" 1 ["_law_script"] (spHand K) (He.ga K "_law_hand") d__law_hand := ⟨g__law_hand, ok_hand F__law_hand z_int z_abs z_enumerate, b__law_hand, F__law_hand.kp⟩
  have D__law_label : Df P w K mg base "_law_label" 3 ["_law_hand_here", "_law_k"] spLbl (He.ga K "_law_label") d__law_label := ⟨g__law_label, ok_lbl F__law_label z_range D__law_draw, b__law_label, F__law_label.kp⟩
  have D__law_free_record : Df P w K mg base "_law_free_record" 4 ["_law_hand_here", "_law_many", "_law_width"] spFree (He.ga K "_law_free_record") d__law_free_record := ⟨g__law_free_record, ok_free F__law_free_record z_range z_len z_tuple D__law_draw D__law_pick D__law_label, b__law_free_record, F__law_free_record.kp⟩
  have D__law_until : Df P w K mg base "_law_until" 10 ["_law_record", "_law_many"] (spLU (He.ga K "Record")) (He.ga K "_law_until") d__law_until := ⟨g__law_until, ok_lu F__law_until NX UN, b__law_until, F__law_until.kp⟩
  have D__law_after : Df P w K mg base "_law_after" 10 ["_law_record", "_law_rows"] (spLA (He.ga K "Record")) (He.ga K "_law_after") d__law_after := ⟨g__law_after, ok_la F__law_after z_len BX TR MA OA, b__law_after, F__law_after.kp⟩
  have D__law_shorter : Df P w K mg base "_law_shorter" 10 ["_law_record"] (spLS (He.ga K "Record")) (He.ga K "_law_shorter") d__law_shorter := ⟨g__law_shorter, ok_ls F__law_shorter NX TR MS OS, b__law_shorter, F__law_shorter.kp⟩
  exact ok_law F_law ⟨z_len, z_list, z_tuple, z_isinstance, z_range, RM, EQ, D__law_hand, D__law_draw, D__law_pick, D__law_free_record, D__law_until, D__law_after, D__law_shorter, GB, b_beginnings, g_beginnings, F_beginnings.kp, UN, n4, fun hx => .ins hx TR.cl n3 u1 u2 n2⟩
end
end K04
open PySem PySem.W PySem.Calls PyProof.Rows
set_option maxRecDepth 100000 in
set_option maxHeartbeats 0 in
theorem PySem.Challenge.cw_namesakes_k04_whole_beginnings_and_later_holds : PySem.Challenge.rw_namesakes_k04_whole_beginnings_and_later.Holds := by
  w_on; o_law
  refine HandSHeadRun.head_any (r := OpenLaw.row PySem.Challenge.rw_namesakes_k04_whole_beginnings_and_later) (q := view (OpenLaw.row PySem.Challenge.rw_namesakes_k04_whole_beginnings_and_later).prog [36]) (H := K04.hookM) (ob := K04.ob) (M := 20000) (loose := K04.looseL)
    (d := HandSHeadRun.topDef (OpenLaw.row PySem.Challenge.rw_namesakes_k04_whole_beginnings_and_later).prog 36) (kwd := []) K04.ob_eq
    (by kernel_rfl) (fun s => by kernel_rfl) K04.run (by kernel_rfl) (by kernel_rfl) (by kernel_rfl) (by rfl) (by first | assumption | decide +kernel) (by decide +kernel) ⟨rfl, rfl, rfl, rfl, rfl, by decide +kernel⟩ ?hw ?hc
  case hw => w_witness2
  case hc =>
    refine L2.walk_ofE (l := PySem.Challenge.rw_namesakes_k04_whole_beginnings_and_later) (n := 63) (k := 14) (x := "_law_script") (CX := L2.CX0) rfl (by decide) (by kernel_rfl) ⟨rfl, by decide, by decide⟩ ?F (fun _ _ _ _ z => z)
    intro w mg fa h Y G hmg0
    obtain ⟨K, KX, c⟩ := Y
    have hmg : mg ("law" : PySem.Str) = some (.ref fa) := by
      have e : (HandSHeadRun.topDef (OpenLaw.row PySem.Challenge.rw_namesakes_k04_whole_beginnings_and_later).prog 36).name = ("law" : PySem.Str) := by kernel_rfl
      rw [← e]
      exact hmg0
    obtain ⟨fd, hb, hF⟩ := K04.facts (P := (PySem.Challenge.rw_namesakes_k04_whole_beginnings_and_later).prog) (w := w) KX G hmg c
    exact ⟨K, fd, K04.spLaw K, KX, hb, fun H a ns hl _ hS => ⟨a, ns, rfl, hS, hl, fun _ => rfl⟩, hF⟩
