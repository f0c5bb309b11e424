import PyProof.Rows.All
import Wide.All
import OpenK.AllK
import Wide.FinOn
import KE.KStateDown
import KE.KExcIs
import HandS.ForMost
import HandS.Exc
import HandS.ExcOwn
import HandS.ExcInit
import HandS.ExcField
import HandS.ExcValue
import HandS.IsInst
import HandS.ExcIs
import HandS.Deep
import HandS.Wide
import HandS.Walk
import HandS.Flow
import HandS.Defaults
import HandS.Words
import HandS.WordsList
import HandS.WordsExc
import HandS.TryOnly
import HandS.Head0
import HandS.Head1
import HandS.Head2
import HandS.HeadEnd
import HandS.HeadHook1
import HandS.HeadHook2
import PySem.Challenge.RW_namesakes_k03_lists_refused_as_a_whole
import HandS.HeadHook3
import KE.KDictList
import HandS.More
import HandS.Dict
import PyProof.TupleOfGen
import HandS.Iter
import PyProof.EnumMake
import PyProof.Draws
import KE.GoesMore
import HandS.Text
import HandS.DictSub
import PyProof.InstSpecial
set_option Elab.async false
set_option linter.all false
set_option maxRecDepth 100000
set_option maxHeartbeats 4000000
namespace K03
open PySem PySem.Spec PyProof.Rows L2
def top (i : Nat) : Stmt := PySem.Challenge.pw_namesakes_k03_lists_refused_as_a_whole.main.body.getD i (.Pass ⟨0, 0, 0, 0⟩)
abbrev FnP (K : PySem.W.Frag) (x : Str) (st : Stmt) (f : Addr) (fd : FuncData) : Prop := FunD K x x (defArgs st) (defBody st) (defScope st) [] [] f fd
abbrev sPWall : Stmt := top 0
abbrev sPIsWhole : Stmt := top 10
abbrev sPIsName : Stmt := top 11
abbrev sPIsLabel : Stmt := top 12
abbrev sPIsKind : Stmt := top 13
abbrev sPIsWay : Stmt := top 14
abbrev sPIsSequence : Stmt := top 15
abbrev sPIsRow : Stmt := top 16
abbrev sPAreNames : Stmt := top 17
abbrev sPRowFault : Stmt := top 19
abbrev sPComingFault : Stmt := top 20
abbrev sPWeddingFault : Stmt := top 21
abbrev sPBirthFault : Stmt := top 22
abbrev sPWriteRows : Stmt := top 23
abbrev sPRecordFault : Stmt := top 24
abbrev sPAsTuples : Stmt := top 25
abbrev sMix : Stmt := top 28
abbrev sHand : Stmt := top 29
abbrev sDraw : Stmt := top 30
abbrev sPick : Stmt := top 31
abbrev sAsked : Stmt := top 32
abbrev sIsNumber : Stmt := top 33
abbrev sOnly : Stmt := top 34
abbrev sLongLabel : Stmt := top 35
abbrev sMany : Stmt := top 36
abbrev sOdd : Stmt := top 37
abbrev sQuestions : Stmt := top 38
abbrev sLaw : Stmt := top 39
end K03

namespace K03
open PySem PySem.Spec PyProof.Rows L2
def oexB (K : PySem.W.Frag) (C : Addr) : Bool := match K.lookup C with
  | some ⟨.type t, _, .cls cd, sl⟩ => decide (t = "type") && (match cd.mro, sl.toList with
    | .ref C' :: bm, [_, _, _, _, some (.builtin n), _] => decide (C' = C) && (decide (n = "ValueError.__new__") && (cd.hasDict && (!cd.hasDel && PySem.HandSPX.refsVE bm)))
    | _, _ => false)
  | _ => false
/-- what the making, the raise and the reads of fields of BadRecord ask of it -/
def badB (K : PySem.W.Frag) (C : Addr) : Bool :=
  oexB K C && (xfB K C && (decide (PySem.W.findIn K (.ref C) "__setattr__" = some (some (.builtin "object.__setattr__"))) && (
  decide (PySem.W.typeIn K (.ref C) = some (.type "type")) && (PySem.W.keepIn K (.ref C) && (
  decide (PySem.W.findIn K (.ref C) "__init__" = some (some (.ref (He.ma K C "__init__")))) && 
  decide (PySem.W.typeIn K (.ref (He.ma K C "__init__")) = some (.type "function")))))))
def restB (K : PySem.W.Frag) : Bool := badB K (He.ga K "BadRecord") && (decide (PySem.W.typeIn K (.ref (He.ma K (He.ga K "Record") "__len__")) = some (.type "function")) && He.tupB K "KINDS" [.str "s", .str "d"])
def fa : List He.Fa := [.free "int",
  .free "bool",
  .free "isinstance",
  .free "str",
  .free "len",
  .free "all",
  .free "list",
  .free "tuple",
  .free "enumerate",
  .free "range",
  .free "abs",
  .glo "is_whole",
  .glo "is_name",
  .glo "is_label",
  .glo "is_kind",
  .glo "is_way",
  .glo "is_sequence",
  .glo "is_row",
  .glo "_are_names",
  .glo "row_fault",
  .glo "_coming_fault",
  .glo "_write_rows",
  .glo "record_fault",
  .glo "as_tuples",
  .glo "_law_mix",
  .glo "_law_hand",
  .glo "_law_draw",
  .glo "_law_pick",
  .glo "_law_asked",
  .glo "_law_is_number",
  .glo "_law_only",
  .glo "_law_long_label",
  .glo "_law_many",
  .glo "_law_odd",
  .glo "_law_questions",
  .glo "law",
  .glo "Book",
  .glo "Record",
  .glo "BadRecord",
  .glo "KINDS",
  .glo "PARENT_KIND",
  .int "MOST_ROWS" 5000,
  .int "MOST_NAME" (10 ^ 30),
  .int "MOST_WIDTH" 2,
  .cls "Book",
  .mkr "Book",
  .meth "Book" "write",
  .meth "Book" "bring",
  .noat "Book" "kinds",
  .noat "Book" "parents",
  .noat "Book" "row_numbers",
  .noat "Book" "dead",
  .noat "Book" "mate_now",
  .noat "Book" "all_mates",
  .noat "Book" "children",
  .cls "Record",
  .mkr "Record",
  .meth "Record" "__len__",
  .noat "Record" "width",
  .noat "Record" "rows",
  .noat "Record" "persons",
  .noat "Record" "founders",
  .noat "Record" "born",
  .noat "Record" "weddings",
  .noat "Record" "couples",
  .noat "Record" "living",
  .noat "Record" "_book",
  .noat "BadRecord" "index",
  .noat "BadRecord" "what",
  .exm "BadRecord" "BadRecord" true]
def dG (x : Str) (st : Stmt) : He.DefD := ⟨(x, none), x, x, defArgs st, defBody st, defScope st, [], []⟩
def fn : List He.DefD := [dG "is_whole" sPIsWhole,
  dG "is_name" sPIsName,
  dG "is_label" sPIsLabel,
  dG "is_kind" sPIsKind,
  dG "is_way" sPIsWay,
  dG "is_sequence" sPIsSequence,
  dG "is_row" sPIsRow,
  dG "_are_names" sPAreNames,
  dG "row_fault" sPRowFault,
  dG "_coming_fault" sPComingFault,
  dG "_write_rows" sPWriteRows,
  dG "record_fault" sPRecordFault,
  dG "as_tuples" sPAsTuples,
  dG "_law_mix" sMix,
  dG "_law_hand" sHand,
  dG "_law_draw" sDraw,
  dG "_law_pick" sPick,
  dG "_law_asked" sAsked,
  dG "_law_is_number" sIsNumber,
  dG "_law_only" sOnly,
  dG "_law_long_label" sLongLabel,
  dG "_law_many" sMany,
  dG "_law_odd" sOdd,
  dG "_law_questions" sQuestions,
  dG "law" sLaw,
  ⟨("BadRecord", some "__init__"), "__init__", "BadRecord.__init__", defArgs (inClass (top 3) 0), defBody (inClass (top 3) 0), defScope (inClass (top 3) 0), [], []⟩,
  ⟨("Book", some "__init__"), "__init__", "Book.__init__", defArgs (inClass (top 18) 0), defBody (inClass (top 18) 0), defScope (inClass (top 18) 0), [], []⟩,
  ⟨("Book", some "write"), "write", "Book.write", defArgs (inClass (top 18) 2), defBody (inClass (top 18) 2), defScope (inClass (top 18) 2), [], []⟩,
  ⟨("Book", some "bring"), "bring", "Book.bring", defArgs (inClass (top 18) 3), defBody (inClass (top 18) 3), defScope (inClass (top 18) 3), [], []⟩,
  ⟨("Record", some "__init__"), "__init__", "Record.__init__", defArgs (inClass (top 26) 0), defBody (inClass (top 26) 0), defScope (inClass (top 26) 0), [.adr (He.dflAt ("Record", some "__init__") 0)], []⟩,
  ⟨("Record", some "__len__"), "__len__", "Record.__len__", defArgs (inClass (top 26) 17), defBody (inClass (top 26) 17), defScope (inClass (top 26) 17), [], []⟩]
/-! ### the Hook -/
abbrev AlM : Type := Bool × List He.FnW × Option (List (Option (Str × Int)))
def obsM (K : PySem.W.Frag) : AlM := ((fa.all fun f => f.ok K) && (restB K && fn.all fun d => d.ok K), fn.map fun d => He.fnW K d.at_, He.dicW K (He.ga K "PARENT_KIND"))
def valM (w : World) : AlM := (true, fn.map He.DefD.val, some (He.keysIn w.params ["f", "m"]))
def SaysM (w : World) (K : PySem.W.Frag) : Prop := obsM K = valM w
end K03

namespace K03
open PySem PySem.Spec PyProof.Rows L2
def refs1 (o : Obj) : List Addr := match o.data with
  | .dict es _ => es.toList.flatMap fun e => He.refV e.val
  | .func fd => He.refV fd.code ++ He.refV fd.defaults
  | .cls cd => [cd.ns]
  | _ => []
def nxt (g : Addr → Option Obj) (as : List Addr) : List Addr := as.flatMap fun a => match g a with
  | some o => refs1 o
  | none => []
def asM (g : Addr → Option Obj) : List Addr := mainGlobals :: (nxt g [mainGlobals] ++ (nxt g (nxt g [mainGlobals]) ++ (nxt g (nxt g (nxt g [mainGlobals])) ++ nxt g (nxt g (nxt g (nxt g [mainGlobals]))))))
def obsMG (g : Addr → Option Obj) : AlM := obsM (He.frG g (asM g))
def hookM : PySem.W.Hook where
  α := AlM
  obs := fun s => obsMG s.heap.get?
  val := fun w => valM w
  says := fun w h => ∃ K : PySem.W.Frag, K.In h ∧ SaysM w K
  of := fun _ _ e => ⟨_, He.frG_in, e⟩
  keeps := fun _ _ _ ⟨K, hK, c⟩ k => ⟨K, PySem.W.Frag.In.keeps hK k, c⟩
abbrev R : PySem.W.OpenRow := PySem.W.OpenLaw.row PySem.Challenge.rw_namesakes_k03_lists_refused_as_a_whole
def ob (s : PySem.W.SharedT) : AlM := obsMG (HandSHeadRun.getT s)
theorem ob_eq (s : PySem.W.SharedT) : ob s = hookM.obs s.abs := by
  have e : HandSHeadRun.getT s = s.abs.heap.get? := funext (HandSHeadRun.getT_eq s)
  show obsMG (HandSHeadRun.getT s) = obsMG s.abs.heap.get?
  rw [e]
def looseL : List Str := [("_wall" : Str), ("CustomError" : Str), ("BadRecord" : Str), ("MOST_ROWS" : Str), ("MOST_NAME" : Str), ("MOST_WIDTH" : Str), ("KINDS" : Str), ("PARENT_KIND" : Str), ("Book" : Str), ("Record" : Str), ("is_whole" : Str), ("is_name" : Str), ("is_label" : Str), ("is_kind" : Str), ("is_way" : Str), ("is_sequence" : Str), ("is_row" : Str), ("_are_names" : Str), ("row_fault" : Str), ("_coming_fault" : Str), ("_write_rows" : Str), ("record_fault" : Str), ("as_tuples" : Str), ("_law_mix" : Str), ("_law_hand" : Str), ("_law_draw" : Str), ("_law_pick" : Str), ("_law_asked" : Str), ("_law_is_number" : Str), ("_law_only" : Str), ("_law_long_label" : Str), ("_law_many" : Str), ("_law_odd" : Str), ("_law_questions" : Str), ("_wedding_fault" : Str), ("_birth_fault" : Str)]
theorem run (w : World) : HandSHeadRun.RunEq R (PySem.W.view R.prog [39]) hookM ob 20000 looseL w := by
  refine PySem.W.byRow2 "special-get-raises" (P := fun w => HandSHeadRun.RunEq R (PySem.W.view R.prog [39]) hookM ob 20000 looseL w) (fun w => ?_) (fun w => ?_) w
  · intro os
    kernel_rfl
  · intro os
    kernel_rfl
end K03

namespace K03
open PySem PySem.Spec PyProof.Rows L2
/-! ### the hand from which a script is drawn -/
/-- what the hand's list holds: the cells' list, how many are taken, the rest of a great cell, the running number -/
abbrev handO (l : Addr) (i r t : Int) : HO := .lst [.ref l, .int i, .int r, .int t]
structure HandOk (cells : List Int) (i r t : Int) : Prop where
  len : cells.length ≤ 63
  pos : ∀ c ∈ cells, 0 ≤ c
  i0 : 0 ≤ i
  i1 : i ≤ 63
  r0 : 0 ≤ r
  t0 : 0 ≤ t
  t1 : t < 2147483629
def HandAt (H : Hp) (p l : Addr) (cells : List Int) (i r t : Int) : Prop := H p = some (handO l i r t) ∧ H l = some (.lst (cells.map V.int)) ∧ HandOk cells i r t
/-! ### promises -/
def spMix : Sp := fun vs H Q _ => ∃ n k : Int, vs = [.int n, .int k] ∧ 0 ≤ n ∧ n < 2147483647 ∧ 0 ≤ k ∧ k ≤ 64 ∧ ∀ d : Int, 0 ≤ d → Q (.int d) H
def spDraw : Sp := fun vs H Q _ => ∃ (p l : Addr) (cells : List Int) (i r t m : Int), vs = [.ref p, .int m] ∧ HandAt H p l cells i r t ∧ 0 < m ∧ m.natAbs < 2 ^ 8000 ∧
  ∀ d i' r' t' : Int, 0 ≤ d → d < m → HandOk cells i' r' t' → Q (.int d) (upd H p (handO l i' r' t'))
section
variable {P : Program} {w : World} {K : PySem.W.Frag} {mg : Str → Option Value} {base : Heap}
theorem scMix : FnScope ["_law_number", "_law_turn", "_law_once", "_law_twice"] ["_law_number", "_law_turn"] (defScope sMix) := ⟨rfl, rfl, rfl, by decide +kernel, rfl, by decide +kernel, by decide +kernel⟩
theorem pp31 : (2147483647 : Int) < 2 ^ 64 := by decide
theorem ok_mix {f : Addr} {fd : FuncData} (F : FnP K "_law_mix" sMix f fd) (zi : mg "int" = none) : FnOk P w K mg base CX0 1 f fd ["_law_number", "_law_turn"] spMix := by
  refine F.ok scMix (fun vs H Q E h => ?_) (fun cdv A outer s H vs Q E hr h => ?_)
  · obtain ⟨n, k, rfl, _⟩ := h
    rfl
  · obtain ⟨n, k, rfl, n0, n1, k0, k1, q⟩ := h
    refine ⟨_, PSs.nox (pss_cons (ps_set (i := 2) scMix.nd rfl (.inl rfl)
        (pe_op op_mod (pe_callTy call_int1 (by rfl) zi (by decide +kernel) (pa_cons
          (pe_op op_add (pe_op op_add (pe_op op_mul (pv 0) pe_int) (pe_op op_mul (pv 1) pe_int)) pe_int) pa_nil)) pe_int))
      (pss_cons (ps_set (i := 3) scMix.nd rfl (.inl rfl)
        (pe_op op_mod (pe_callTy call_int1 (by rfl) zi (by decide +kernel) (pa_cons
          (pe_op op_add (pe_op op_add (pe_op op_mul (pv 2) (pv 2)) (pe_op op_mul (pe_op op_fdiv (pv 2) pe_int) pe_int)) (pe_op op_mul (pv 1) pe_int)) pa_nil)) pe_int))
      (pss_one (ps_ret (pe_op op_fdiv (pe_op op_mod (pe_callTy call_int1 (by rfl) zi (by decide +kernel) (pa_cons
          (pe_op op_add (pe_op op_fdiv (pe_op op_mul (pv 3) (pv 3)) pe_int) (pv 2)) pa_nil)) pe_int) pe_int))))), ?_⟩
    refine ⟨_, rfl, _, _, rfl, rfl, .inl ⟨by omega, by omega⟩, _, rfl, _, _, rfl, rfl, .inl ⟨by omega, by omega⟩, _, _, rfl, rfl, _, _, rfl, rfl, .inl ⟨_, rfl, _, _, rfl, rfl, (by show (0 : Int) < 2147483647; decide), ?_⟩⟩
    refine ⟨_, rfl, _, rfl, _, _, rfl, rfl, .inl ⟨by omega, by omega⟩, _, rfl, _, _, rfl, rfl, ⟨by decide, by decide⟩, _, _, rfl, rfl, .inr ⟨by decide, by decide⟩, _, _, rfl, rfl, _, rfl, _, _, rfl, rfl, .inl ⟨by omega, by omega⟩, _, _, rfl, rfl, .inl ⟨_, rfl, _, _, rfl, rfl, (by show (0 : Int) < 2147483399; decide), ?_⟩⟩
    refine ⟨_, rfl, _, rfl, _, _, rfl, rfl, .inl ⟨by omega, by omega⟩, _, _, rfl, rfl, ⟨by decide, by decide⟩, _, rfl, _, _, rfl, rfl, .inl ⟨_, rfl, _, _, rfl, rfl, (by show (0 : Int) < 2147483563; decide), _, _, rfl, rfl, ⟨by decide, by decide⟩, ?_⟩⟩
    refine q _ ?_
    omega
theorem scDraw : FnScope ["_law_hand_here", "_law_many_here", "_law_cell", "_law_rest"] ["_law_hand_here", "_law_many_here"] (defScope sDraw) := ⟨rfl, rfl, rfl, by decide +kernel, rfl, by decide +kernel, by decide +kernel⟩
theorem ok_draw {f fM : Addr} {fd fdM : FuncData} (F : FnP K "_law_draw" sDraw f fd) (zi : mg "int" = none) (zl : mg "len" = none) (FM : FnP K "_law_mix" sMix fM fdM) (gM : mg "_law_mix" = some (.ref fM)) : FnOk P w K mg base CX0 2 f fd ["_law_hand_here", "_law_many_here"] spDraw := by
  have GM : FnOk P w K mg base CX0 1 fM fdM ["_law_number", "_law_turn"] spMix := ok_mix FM zi
  have bM : Binds K fdM ["_law_number", "_law_turn"] [] := FM.bindsN fun _ _ _ _ _ _ us hl => match us, hl with | [_, _], _ => rfl
  refine F.ok scDraw (fun vs H Q E h => ?_) (fun cdv A outer s H vs Q E hr h => ?_)
  · obtain ⟨p, l, cells, i, r, t, m, rfl, _⟩ := h
    rfl
  · obtain ⟨p, l, cells, i, r, t, m, rfl, ⟨hp, hl, ok⟩, m0, m1, q⟩ := h
    refine ⟨_, PSs.nox (pss_cons (ps_if (PW.pt (pw_and (pt_cmpR op_eq (pe_ix ix_list (pv 0) pe_int (fun _ _ => rfl)) pe_int (nomark _)) (pw_and1 (pt_cmpR op_lt (pe_ix ix_list (pv 0) pe_int (fun _ _ => rfl)) (pe_callB call_len_seq (by rfl) zl boot_len (pa_cons (pe_ix ix_list (pv 0) pe_int (fun _ _ => rfl)) pa_nil)) (nomark _)))))
          (pss_cons (ps_set (i := 2) scDraw.nd rfl (.inl rfl) (pe_ix ix_list (pe_ix ix_list (pv 0) pe_int (fun _ _ => rfl)) (pe_ix ix_list (pv 0) pe_int (fun _ _ => rfl)) (fun _ _ => rfl)))
          (pss_cons (ps_asg (pe_op op_add (pe_ix ix_list (pv 0) pe_int (fun _ _ => rfl)) pe_int) (pg_sub (pv 0) pe_int set_list))
          (pss_cons (ps_if (pt_cmpR op_lt (pv 2) (pe_op op_pow pe_int pe_int) (nomark _))
            (pss_one (ps_ret (pe_op op_mod (pe_callTy call_int1 (by rfl) zi (by decide +kernel) (pa_cons (pe_call GM hr (by rfl) gM FM.kp bM .nil pass0 (pa_cons (pe_op op_mod (pe_callTy call_int1 (by rfl) zi (by decide +kernel) (pa_cons (pv 2) pa_nil)) pe_int) (pa_cons (pe_ix ix_list (pv 0) pe_int (fun _ _ => rfl)) pa_nil))) pa_nil)) (pv 1)))) pss_nil)
          (pss_one (ps_asg (pv 2) (pg_sub (pv 0) pe_int set_list)))))) pss_nil)
      (pss_cons (ps_if (pt_cmpR op_gt (pe_ix ix_list (pv 0) pe_int (fun _ _ => rfl)) pe_int (nomark _))
          (pss_cons (ps_set (i := 3) scDraw.nd rfl (.inl rfl) (pe_ix ix_list (pv 0) pe_int (fun _ _ => rfl)))
          (pss_cons (ps_asg (pe_op op_fdivW (pv 3) (pv 1)) (pg_sub (pv 0) pe_int set_list))
          (pss_one (ps_ret (pe_op op_mod (pe_callTy call_int1 (by rfl) zi (by decide +kernel) (pa_cons (pv 3) pa_nil)) (pv 1)))))) pss_nil)
      (pss_cons (ps_asg (pe_op op_mod (pe_callTy call_int1 (by rfl) zi (by decide +kernel) (pa_cons (pe_op op_add (pe_ix ix_list (pv 0) pe_int (fun _ _ => rfl)) pe_int) pa_nil)) pe_int) (pg_sub (pv 0) pe_int set_list))
      (pss_one (ps_ret (pe_op op_mod (pe_callTy call_int1 (by rfl) zi (by decide +kernel) (pa_cons (pe_call GM hr (by rfl) gM FM.kp bM .nil pass0 (pa_cons (pe_ix ix_list (pv 0) pe_int (fun _ _ => rfl)) (pa_cons (pe_ix ix_list (pv 0) pe_int (fun _ _ => rfl)) pa_nil))) pa_nil)) (pv 1))))))), ?_⟩
    refine ⟨_, rfl, _, _, _, _, rfl, rfl, SqL.of hp, rfl, rfl, _, rfl, ?_⟩
    have mlog : m.natAbs.log2 < 9000 := Nat.lt_of_lt_of_le (PySem.Flt.log2_lt_of (by decide) m1) (by decide)
    have fin : ∀ (d i' r' t' : Int) (H2 : Hp), 0 ≤ d → d < m → HandOk cells i' r' t' → H2 = upd H p (handO l i' r' t') → Q (.int d) H2 := fun d i' r' t' H2 d0 d1 o e => by
      subst e
      exact q d i' r' t' d0 d1 o
    have npl : l ≠ p := fun z => by
      rw [z, hp] at hl
      have h2 := Option.some.inj hl
      injection h2 with h3
      have h4 := congrArg List.head? h3
      cases cells with
      | nil => cases h4
      | cons c cs => cases h4
    refine ite2 (fun e => ?_) (fun e => ?_)
    · refine ⟨_, rfl, _, _, _, _, rfl, rfl, SqL.of hp, rfl, _, rfl, _, _, _, _, rfl, rfl, SqL.of hp, rfl, _, _, rfl, .inl (SqL.of hl), _, _, rfl, rfl, _, rfl, ?_⟩
      refine ite2 (fun e1 => ?_) (fun e1 => ?_)
      · have HP0 := hp
        have hi0 : 0 ≤ i := ok.i0
        have hlen : ((cells.map V.int).length : Int) = (cells.length : Int) := by rw [List.length_map]
        have hlt : i < (cells.length : Int) := by
          have z : i < ((cells.map V.int).length : Int) := of_decide_eq_true e1
          omega
        have hnat : i.toNat < cells.length := by omega
        have hget : atI (cells.map V.int) i = some (.int cells[i.toNat]) := by
          have z := atI_nat (xs := cells.map V.int) (j := i.toNat) (v := .int cells[i.toNat]) (by rw [List.getElem?_map, List.getElem?_eq_getElem hnat]; rfl)
          rw [Int.toNat_of_nonneg hi0] at z
          exact z
        have c0 : 0 ≤ cells[i.toNat] := ok.pos _ (List.getElem_mem hnat)
        have hl63 := ok.len
        refine ⟨_, rfl, _, _, _, _, rfl, rfl, SqL.of hp, rfl, _, rfl, _, _, _, _, rfl, rfl, SqL.of hp, rfl, _, _, _, _, rfl, rfl, SqL.of hl, hget, ?_⟩
        generalize cells[i.toNat] = c at c0
        refine ⟨_, rfl, _, _, _, _, rfl, rfl, SqL.of hp, rfl, _, _, rfl, rfl, _, rfl, _, _, _, _, rfl, rfl, hp, rfl, ?_⟩
        have ok2 : HandOk cells (i + 1) c t := ⟨ok.len, ok.pos, by omega, by omega, c0, ok.t0, ok.t1⟩
        refine ⟨_, rfl, _, _, rfl, rfl, ⟨by decide, by decide, by decide⟩, _, _, rfl, rfl, _, rfl, ?_⟩
        refine ite2 (fun e2 => ?_) (fun e2 => ?_)
        · refine ⟨_, rfl, .inl ⟨_, rfl, _, _, rfl, rfl, (by show (0 : Int) < 2147483647; decide), _, rfl, _, _, _, _, rfl, rfl, SqL.of upd_same, rfl, _, _, rfl, Int.emod_nonneg _ (by decide), Int.emod_lt_of_pos _ (by decide), by omega, by omega, fun d d0 => ?_⟩⟩
          refine .inl ⟨_, rfl, _, rfl, _, _, rfl, rfl, m0, ?_⟩
          exact fin _ _ _ _ _ (Int.emod_nonneg _ (Int.ne_of_gt m0)) (Int.emod_lt_of_pos _ m0) ⟨ok.len, ok.pos, ok2.i0, ok2.i1, ok.r0, ok.t0, ok.t1⟩ (by simp only [upd_upd]; rfl)
        · refine ⟨_, rfl, _, rfl, _, _, _, _, rfl, rfl, upd_same, rfl, ?_⟩
          have HP : (upd (upd H p (.lst ([V.ref l, .int i, .int r, .int t].set 1 (.int (i + 1))))) p (.lst (([V.ref l, .int i, .int r, .int t].set 1 (.int (i + 1))).set 2 (.int c)))) p = some (handO l (i + 1) c t) := upd_same
          refine ⟨_, rfl, _, _, _, _, rfl, rfl, SqL.of HP, rfl, _, _, rfl, rfl, _, rfl, ?_⟩
          refine ite2 (fun e3 => ?_) (fun e3 => ?_)
          · refine ⟨_, rfl, _, _, _, _, rfl, rfl, SqL.of HP, rfl, ?_⟩
            refine ⟨_, rfl, _, rfl, _, _, rfl, rfl, ⟨m0, mlog⟩, _, rfl, _, _, _, _, rfl, rfl, HP, rfl, ?_⟩
            refine ⟨_, rfl, .inl ⟨_, rfl, _, rfl, _, _, rfl, rfl, m0, ?_⟩⟩
            exact fin _ _ _ _ _ (Int.emod_nonneg _ (Int.ne_of_gt m0)) (Int.emod_lt_of_pos _ m0) ⟨ok2.len, ok2.pos, ok2.i0, ok2.i1, Int.ediv_nonneg ok2.r0 (Int.le_of_lt m0), ok2.t0, ok2.t1⟩ (by simp only [upd_upd]; rfl)
          · refine ⟨_, rfl, _, _, _, _, rfl, rfl, SqL.of HP, rfl, _, _, rfl, rfl, .inl ⟨_, rfl, _, _, rfl, rfl, (by show (0 : Int) < 2147483629; decide), _, rfl, _, _, _, _, rfl, rfl, HP, rfl, ?_⟩⟩
            have u0 := ok2.i0
            have u1 := ok2.i1
            refine ⟨_, rfl, _, _, _, _, rfl, rfl, SqL.of upd_same, rfl, _, rfl, _, _, _, _, rfl, rfl, SqL.of upd_same, rfl, _, _, rfl, by omega, by omega, by omega, by omega, fun d d0 => ?_⟩
            refine .inl ⟨_, rfl, _, rfl, _, _, rfl, rfl, m0, ?_⟩
            exact fin _ _ _ _ _ (Int.emod_nonneg _ (Int.ne_of_gt m0)) (Int.emod_lt_of_pos _ m0) ⟨ok2.len, ok2.pos, ok2.i0, ok2.i1, ok2.r0, Int.emod_nonneg (t + 1) (show (2147483629 : Int) ≠ 0 by decide), Int.emod_lt_of_pos (t + 1) (show (0 : Int) < 2147483629 by decide)⟩ (by simp only [upd_upd]; rfl)
      · have HP := hp
        refine ⟨_, rfl, _, _, _, _, rfl, rfl, SqL.of HP, rfl, _, _, rfl, rfl, _, rfl, ?_⟩
        refine ite2 (fun e2 => ?_) (fun e2 => ?_)
        · refine ⟨_, rfl, _, _, _, _, rfl, rfl, SqL.of HP, rfl, ?_⟩
          refine ⟨_, rfl, _, rfl, _, _, rfl, rfl, ⟨m0, mlog⟩, _, rfl, _, _, _, _, rfl, rfl, HP, rfl, ?_⟩
          refine ⟨_, rfl, .inl ⟨_, rfl, _, rfl, _, _, rfl, rfl, m0, ?_⟩⟩
          exact fin _ _ _ _ _ (Int.emod_nonneg _ (Int.ne_of_gt m0)) (Int.emod_lt_of_pos _ m0) ⟨ok.len, ok.pos, ok.i0, ok.i1, Int.ediv_nonneg ok.r0 (Int.le_of_lt m0), ok.t0, ok.t1⟩ (by simp only [upd_upd]; rfl)
        · refine ⟨_, rfl, _, _, _, _, rfl, rfl, SqL.of HP, rfl, _, _, rfl, rfl, .inl ⟨_, rfl, _, _, rfl, rfl, (by show (0 : Int) < 2147483629; decide), _, rfl, _, _, _, _, rfl, rfl, HP, rfl, ?_⟩⟩
          have u0 := ok.i0
          have u1 := ok.i1
          refine ⟨_, rfl, _, _, _, _, rfl, rfl, SqL.of upd_same, rfl, _, rfl, _, _, _, _, rfl, rfl, SqL.of upd_same, rfl, _, _, rfl, by omega, by omega, by omega, by omega, fun d d0 => ?_⟩
          refine .inl ⟨_, rfl, _, rfl, _, _, rfl, rfl, m0, ?_⟩
          exact fin _ _ _ _ _ (Int.emod_nonneg _ (Int.ne_of_gt m0)) (Int.emod_lt_of_pos _ m0) ⟨ok.len, ok.pos, ok.i0, ok.i1, ok.r0, Int.emod_nonneg (t + 1) (show (2147483629 : Int) ≠ 0 by decide), Int.emod_lt_of_pos (t + 1) (show (0 : Int) < 2147483629 by decide)⟩ (by simp only [upd_upd]; rfl)
    · have HP := hp
      refine ⟨_, rfl, _, _, _, _, rfl, rfl, SqL.of HP, rfl, _, _, rfl, rfl, _, rfl, ?_⟩
      refine ite2 (fun e2 => ?_) (fun e2 => ?_)
      · refine ⟨_, rfl, _, _, _, _, rfl, rfl, SqL.of HP, rfl, ?_⟩
        refine ⟨_, rfl, _, rfl, _, _, rfl, rfl, ⟨m0, mlog⟩, _, rfl, _, _, _, _, rfl, rfl, HP, rfl, ?_⟩
        refine ⟨_, rfl, .inl ⟨_, rfl, _, rfl, _, _, rfl, rfl, m0, ?_⟩⟩
        exact fin _ _ _ _ _ (Int.emod_nonneg _ (Int.ne_of_gt m0)) (Int.emod_lt_of_pos _ m0) ⟨ok.len, ok.pos, ok.i0, ok.i1, Int.ediv_nonneg ok.r0 (Int.le_of_lt m0), ok.t0, ok.t1⟩ (by simp only [upd_upd]; rfl)
      · refine ⟨_, rfl, _, _, _, _, rfl, rfl, SqL.of HP, rfl, _, _, rfl, rfl, .inl ⟨_, rfl, _, _, rfl, rfl, (by show (0 : Int) < 2147483629; decide), _, rfl, _, _, _, _, rfl, rfl, HP, rfl, ?_⟩⟩
        have u0 := ok.i0
        have u1 := ok.i1
        refine ⟨_, rfl, _, _, _, _, rfl, rfl, SqL.of upd_same, rfl, _, rfl, _, _, _, _, rfl, rfl, SqL.of upd_same, rfl, _, _, rfl, by omega, by omega, by omega, by omega, fun d d0 => ?_⟩
        refine .inl ⟨_, rfl, _, rfl, _, _, rfl, rfl, m0, ?_⟩
        exact fin _ _ _ _ _ (Int.emod_nonneg _ (Int.ne_of_gt m0)) (Int.emod_lt_of_pos _ m0) ⟨ok.len, ok.pos, ok.i0, ok.i1, ok.r0, Int.emod_nonneg (t + 1) (show (2147483629 : Int) ≠ 0 by decide), Int.emod_lt_of_pos (t + 1) (show (0 : Int) < 2147483629 by decide)⟩ (by simp only [upd_upd]; rfl)
/-! ### the hand is made -/
def absI (c : Int) : Int := if c < 0 then -c else c
theorem absI_nonneg (c : Int) : 0 ≤ absI c := by
  unfold absI
  split <;> omega
theorem same_upd {H : Hp} {p : Addr} {o : HO} (h : H p = none) : Same H (upd H p o) := fun b x e => by
  rw [upd_ne (ne_of_none e h)]
  exact e
def spHand (K : PySem.W.Frag) : Sp := fun vs H Q _ => ∃ (a : Addr) (ns : List Int), vs = [.ref a] ∧ SqL K H a (ns.map V.int) ∧ ns.length ≤ 63 ∧
  ∀ (H' : Hp) (p l : Addr) (t : Int), Same H H' → H p = none → HandAt H' p l (ns.map absI) 0 0 t → Q (.ref p) H'
theorem scHand : FnScope ["_law_script", "_law_total", "_law_k", "_law_cell"] ["_law_script"] (defScope sHand) := ⟨rfl, rfl, rfl, by decide +kernel, rfl, by decide +kernel, by decide +kernel⟩
theorem ok_hand {f : Addr} {fd : FuncData} (F : FnP K "_law_hand" sHand f fd) (zi : mg "int" = none) (za : mg "abs" = none) (ze : mg "enumerate" = none) : FnOk P w K mg base CX0 1 f fd ["_law_script"] (spHand K) := by
  refine F.ok scHand (fun vs H Q E h => ?_) (fun cdv A outer s H vs Q E hr h => ?_)
  · obtain ⟨a, ns, rfl, _⟩ := h
    rfl
  · obtain ⟨a, ns, rfl, hS, hlen, q⟩ := h
    refine ⟨_, PSs.nox (pss_cons (ps_set (i := 1) scHand.nd rfl (.inl rfl) pe_int)
      (pss_cons (ps_for PassesOwn.never rfl (pi_enum (by rfl) ze (pa_cons (pv 0) pa_nil))
          (pg_tup (by rfl) (pgs_cons (pg_name (i := 2) scHand.nd rfl (.inl rfl)) (pgs_cons (pg_name (i := 3) scHand.nd rfl (.inl rfl)) pgs_nil)))
        (pss_one (ps_set (i := 1) scHand.nd rfl (.inl rfl) (pe_op op_mod (pe_callTy call_int1 (by rfl) zi (by decide +kernel) (pa_cons
          (pe_op op_add (pe_op op_mul (pv 1) pe_int) (pe_op op_mul (pe_callTy call_int1 (by rfl) zi (by decide +kernel) (pa_cons (pv 3) pa_nil)) (pe_op op_add (pv 2) pe_int))) pa_nil)) pe_int))))
      (pss_one (ps_ret (pe_lst (pa_cons
        (pe_lc (own := [("_law_cell", 3)]) (g := gName 3) (tt := tYes) rfl scHand.nd (pi_list (pv 0)) (blkOk_by (N := ["_law_script", "_law_total", "_law_k", "_law_cell"]) (sc := defScope sHand) (by decide +kernel)) (fun _ _ _ _ _ => pg_name (i := 3) scHand.nd rfl (Or.inl rfl)) (fun _ _ _ _ _ => pts_nil)
          (fun _ _ _ _ _ => pe_callB call_abs (by rfl) za (by decide +kernel) (pa_cons (pe_callTy call_int1 (by rfl) zi (by decide +kernel) (pa_cons (pv 3) pa_nil)) pa_nil)))
        (pa_cons pe_int (pa_cons pe_int (pa_cons (pv 1) pa_nil))))))))), ?_⟩
    refine ⟨_, rfl, a, _, rfl, hS, for_it walk_enum (fun _ σ H' => ∃ (t : Int) (x y : Option V), σ = [some (.ref a), some (.int t), x, y] ∧ 0 ≤ t ∧ t < 2147483629 ∧ Same H H') ⟨0, none, none, rfl, by decide, by decide, fun _ _ e => e⟩
      (fun i σ H' _ ⟨_, _, _, _, _, _, sm⟩ => sm.seq hS) ?_ ?_⟩
    · rintro i x σ H1 H2 hi ⟨t, x1, x2, rfl, t0, t1, sm⟩ ⟨T, u, v, rfl, nT, rfl, eu, ev⟩
      have hi' : i < ns.length := by
        rw [List.length_map] at hi
        exact hi
      obtain rfl : u = .int (i : Int) := (Option.some.inj eu).symm
      obtain rfl : v = .int ns[i] := by
        have e2 : (ns.map V.int)[i]? = some (.int ns[i]) := by rw [List.getElem?_map, List.getElem?_eq_getElem hi']; rfl
        exact Option.some.inj (ev.symm.trans e2)
      refine ⟨T, _, rfl, .inl (.inl upd_same), rfl, _, _, rfl, _, _, rfl, rfl, ?_⟩
      refine ⟨_, rfl, _, _, rfl, rfl, .inl ⟨by omega, by omega⟩, _, rfl, .inl ⟨_, rfl, _, rfl, _, _, rfl, rfl, _, _, rfl, rfl, .inr ⟨by omega, by omega⟩, _, _, rfl, rfl, .inl ⟨_, rfl, _, _, rfl, rfl, (by show (0 : Int) < 2147483629; decide), ?_⟩⟩⟩
      exact ⟨_, _, _, rfl, Int.emod_nonneg _ (by decide), Int.emod_lt_of_pos _ (by decide), fun b o e => same_upd nT _ _ (sm _ _ e)⟩
    · rintro σ H1 ⟨t, x1, x2, rfl, t0, t1, sm⟩
      refine ⟨_, rfl, a, rfl, ⟨_, sm.seq hS⟩, fun D nD => lc_it walk_list (fun i H' => Same H1 H' ∧ H' D = some (.lst (((ns.map absI).take i).map V.int))) ⟨same_upd nD, upd_same⟩
        (fun i H' _ ⟨s2, _⟩ => s2.seq (sm.seq hS)) ?_ ?_⟩
      · rintro i x H2 H3 hi ⟨s2, eD⟩ ⟨rfl, ex⟩
        have hi' : i < ns.length := by
          rw [List.length_map] at hi
          exact hi
        obtain rfl : x = .int ns[i] := by
          have e2 : (ns.map V.int)[i]? = some (.int ns[i]) := by rw [List.getElem?_map, List.getElem?_eq_getElem hi']; rfl
          exact Option.some.inj (ex.symm.trans e2)
        refine ⟨rfl, ?_⟩
        refine ⟨_, rfl, .inl ⟨_, rfl, _, rfl, _, eD, ?_, ?_⟩⟩
        · rw [List.length_map, List.length_take]
          exact Nat.lt_of_le_of_lt (Nat.min_le_left _ _) (Nat.lt_of_lt_of_le (Nat.lt_of_lt_of_le hi' hlen) (by decide))
        · refine ⟨fun b o e => ?_, ?_⟩
          · have nb : b ≠ D := ne_of_none e nD
            rw [upd_ne nb]
            exact s2 _ _ e
          · rw [upd_same, List.take_add_one, List.getElem?_map, List.getElem?_eq_getElem hi', List.map_append]
            rfl
      · rintro H2 ⟨s2, eD⟩
        have eall : ((ns.map absI).take (ns.map V.int).length) = ns.map absI := List.take_of_length_le (by rw [List.length_map, List.length_map]; exact Nat.le_refl _)
        rw [eall] at eD
        refine ⟨_, rfl, (by show 4 ≤ sizeLine; decide), fun p np => ?_⟩
        have npD : D ≠ p := ne_of_none eD np
        refine q _ p D t (fun b o e => same_upd np _ _ (s2 _ _ (sm _ _ e))) ?_ ⟨upd_same, ?_, ?_⟩
        · cases e : H p with
          | none => rfl
          | some o =>
            have e2 := s2 _ _ (sm _ _ e)
            rw [np] at e2
            cases e2
        · rw [upd_ne npD]
          exact eD
        · exact ⟨by rw [List.length_map]; exact hlen, fun c hc => by
            obtain ⟨y, _, rfl⟩ := List.mem_map.mp hc
            exact absI_nonneg y, by decide, by decide, by decide, t0, t1⟩
end
end K03

/-! tuple(d) of a dict: its keys in order -/
namespace K03
open PySem PySem.Spec PyProof.Rows
section
variable {prog : Program} {w : World} {A : Around} {E : Value → Shared → Prop} {s : Shared} {d : Addr} {n : Nat} {P : Nat → Value → Prop} {OK : Heap → Prop}
theorem collect_dict {Q : List Value → Shared → Prop} (K : PySem.W.KdlSrc prog w "dict" d d n P OK) (hh : A.handled = none) (hok : OK s.heap) (hn : n ≤ sizeLine)
    (hQ : ∀ (h' : Heap) (tk : Nat) (acc : Array Value), (∀ b o, s.heap.get? b = some o → h'.get? b = some o) → ItemsOf P acc n → Q acc.toList { s with heap := h', toks := tk }) :
    wpAny (model prog w) A (collect (.ref d)) Q E s := by
  have hlt := K.there _ hok
  unfold collect
  refine wpAny_bind (wpAny_runValue (codeAny_builtin F.entry_proto_collect ?_))
  rw [Around.under_plainId F.plain_proto_collect _]
  show wpAny _ A.in1 (newList [] >>= fun l => again (.builtin "list.__iadd__" ⟨[l, .ref d], []⟩)) _ _ s
  refine wpAny_bind (wpAny_newObj_type ?_)
  refine wpAny_pure ⟨plainId_quiet F.plain_list_iadd _, codeAny_builtin F.entry_list_iadd ?_⟩
  rw [Around.under_plainId F.plain_list_iadd _]
  show wpAny _ A.in1 (Builtin.List.listExtendWith (.ref s.heap.objs.size) (.ref d) (.ref s.heap.objs.size)) _ _ _
  have hS : (s.heap.push { cls := .type "list", data := .seq ([] : List Value).toArray }).get? s.heap.objs.size = some { cls := .type "list", data := .seq #[] 0 } := Heap.get?_push_size _ rfl
  have step := PySem.W.kdl_extend (A := A) (s := { s with heap := s.heap.push { cls := .type "list", data := .seq ([] : List Value).toArray } })
    (R := fun r s' => ∃ h' tk acc c, r = .ok (.ret (.ref s.heap.objs.size)) ∧ s' = { s with heap := h', toks := tk } ∧ (∀ b o, s.heap.get? b = some o → h'.get? b = some o) ∧ h'.get? s.heap.objs.size = some { cls := .type "list", dict := none, data := .seq acc c, slots := #[] } ∧ ItemsOf P acc n)
    K hh (K.keep _ _ hok fun b _ o e => Heap.get?_push_of_some _ e) s.heap.objs.size (Nat.ne_of_gt hlt.1) (Nat.ne_of_gt hlt.2) (.ref s.heap.objs.size) 0 hS
    (fun h' tk acc' c' hk hS' hacc => ⟨h', tk, acc', c', rfl, rfl, fun b o e => hk b o (Nat.ne_of_lt (Heap.lt_size e)) (Heap.get?_push_of_some _ e), hS', hacc⟩) hn
  have last : ∀ s', (∃ h' tk acc c, (Except.ok (Flow.ret (.ref s.heap.objs.size)) : Result) = .ok (.ret (.ref s.heap.objs.size)) ∧ s' = { s with heap := h', toks := tk } ∧ (∀ b o, s.heap.get? b = some o → h'.get? b = some o) ∧ h'.get? s.heap.objs.size = some { cls := .type "list", dict := none, data := .seq acc c, slots := #[] } ∧ ItemsOf P acc n) →
      wpAny (model prog w) A (match Value.ref s.heap.objs.size with
      | Value.ref a => do
        match (← load a).data with
          | Data.seq xs _ => pure xs.toList
          | _ => unsupported "internal:collect"
      | _ => unsupported "internal:collect") Q E s' := by
    rintro s' ⟨h', tk, acc, c, _, rfl, hk, hl, hacc⟩
    show wpAny (model prog w) A (load s.heap.objs.size >>= _) _ _ _
    refine wpAny_bind (wpAny_load hl ?_)
    exact wpAny_pure (hQ h' tk acc hk hacc)
  refine wpAny_mono step (fun fin s' h => ?_) (fun e s' h => ?_)
  · cases fin with
    | done f =>
      obtain ⟨h', tk, acc, c, e, r⟩ := h
      cases e
      exact last s' ⟨h', tk, acc, c, rfl, r⟩
    | again c' =>
      refine ⟨h.1, codeAny_mono h.2 fun r s'' hr => ?_⟩
      obtain ⟨h', tk, acc, c, e, r⟩ := hr
      subst e
      exact last s'' ⟨h', tk, acc, c, rfl, r⟩
  · obtain ⟨_, _, _, _, e, _⟩ := h
    cases e
theorem code_tuple_dict {Q₁ : Value → Shared → Prop} (K : PySem.W.KdlSrc prog w "dict" d d n P OK) (hh : A.handled = none) (hok : OK s.heap) (hn : n ≤ sizeLine)
    (h : ∀ (h' : Heap) (tk : Nat) (acc : Array Value), (∀ b o, s.heap.get? b = some o → h'.get? b = some o) → ItemsOf P acc n → Q₁ (.ref h'.objs.size) { s with heap := h'.push { cls := .type "tuple", data := .seq acc }, toks := tk }) :
    codeAny (model prog w) A (.call (.builtin "tuple.__new__") ⟨[.type "tuple", .ref d], []⟩) (wants Q₁ E) s := by
  refine codeAny_of_tree ?_
  show wpAny _ A.in1 (do checkBuiltinCall "tuple.__new__" ⟨[.type "tuple", .ref d], []⟩; again (.builtin "tuple.__new__" ⟨[.type "tuple", .ref d], []⟩)) _ _ s
  refine wpAny_bind (wpAny_of_eq (F.newCall_tuple_1 _) (wpAny_pure ⟨plainId_quiet F.plain_tuple_new _, codeAny_builtin F.entry_tuple_new ?_⟩))
  rw [Around.under_plainId F.plain_tuple_new _]
  have subT := sub_tuple_self
  have iniT := init_tuple_lookup
  have madeT := madeHere_tuple
  have typD := K.type s hok
  wp_walk using wpAny_typeOf typD, collect_dict (A := A.in1) K (show A.in1.handled = none from hh) hok hn
  intro h' tk acc hk hacc
  show wpAny _ _ (Builtin.Tuple.tupleExact acc.toList.toArray >>= fun v => ret v) _ _ _
  unfold Builtin.Tuple.tupleExact
  refine wpAny_bind (wpAny_newObj_type ?_ (by show acc.toList.toArray.size ≤ sizeLine; simp only [Array.toArray_toList]; rw [hacc.1]; exact hn))
  refine wpAny_pure ?_
  have e : acc.toList.toArray = acc := by simp
  rw [e]
  exact h h' tk acc hk hacc
theorem call_tuple_dict {Q : Value → Shared → Prop} (K : PySem.W.KdlSrc prog w "dict" d d n P OK) (hh : A.handled = none) (hok : OK s.heap) (hn : n ≤ sizeLine)
    (hQ : ∀ (h' : Heap) (tk : Nat) (acc : Array Value), (∀ b o, s.heap.get? b = some o → h'.get? b = some o) → ItemsOf P acc n → Q (.ref h'.objs.size) { s with heap := h'.push { cls := .type "tuple", data := .seq acc }, toks := tk }) :
    wpAny (model prog w) A (call (.type "tuple") [.ref d]) Q E s := by
  refine callType_codes (Q₁ := fun obj s₁ => s₁.TypeIs obj "tuple" ∧ Q obj s₁) F.called_tuple (F.typeCall_tuple_1 _) F.entry_object_init
    (code_tuple_dict (A := A.in1) K hh hok hn fun h' tk acc hk hacc => ⟨⟨_, Heap.get?_push_size _ rfl, rfl⟩, hQ h' tk acc hk hacc⟩) fun obj s₁ h₁ => ?_
  exact ⟨h₁.1, F.args_object_init_2 obj _, object_init_meets F.called_tuple.init.lookup F.called_tuple.made (by decide) prog w A.in1 _ s₁ ⟨h₁.1, rfl, h₁.2⟩⟩
end
open L2
/-- tuple(d): its keys -/
theorem call_tupleD {X : Cx} (hcalm : X.calm = true) : CallR X (.type "tuple") (fun xs H Q => ∃ (a : Addr) (kvs : List (Key × V)), xs = [.ref a] ∧ Rd H a (.dK kvs) ∧ ∀ p, H p = none → Q (.ref p) (upd H p (.tup (kvs.map fun kv => kV kv.1)))) := by
  intro pins s σ H xs us Q I r q
  obtain ⟨a, kvs, rfl, hd, q⟩ := q
  obtain ⟨u, rfl, rx⟩ := vals1 r
  cases rx
  obtain ⟨z, lo, vs, rel, dd⟩ := dk_rd I.hok hd
  obtain ⟨ep, hat⟩ := dd.dictAt
  have ek : (kvs.map fun kv => kV kv.1) = vs.map fun p => kV p.1 := by
    have e := congrArg (List.map kV) rel.keys
    rw [List.map_map, List.map_map] at e
    exact e
  refine call_tuple_dict (PySem.W.kdl_dict (knd := mixKind X.prog X.w) (kvs := vs) (ep := ep) lo) (I.ok.hd hcalm) hat (by rw [← rel.length]; exact z) fun h' tk acc hk hacc => ?_
  have hv : Vals (vs.map fun p => kV p.1) acc.toList := keys_at (by rw [Array.length_toList]; exact hacc.1) fun j v e => hacc.2 j v (by rw [← Array.getElem?_toList]; exact e)
  have J : Inv X pins σ H { s with heap := h', toks := tk } := I.kept hk
  have hn : H h'.objs.size = none := J.hok.fresh (Nat.le_refl _)
  refine ⟨.ref h'.objs.size, upd H h'.objs.size (.tup (kvs.map fun kv => kV kv.1)), J.laid (t' := tk) (fun b o e => Heap.get?_push_of_some _ e) (Nat.le_refl _) ?_, rfl, q _ hn⟩
  show _ ∧ ∃ its : List Value, Vals _ its ∧ IsTup _ _ its.toArray
  refine ⟨by rw [List.length_map]; exact z, acc.toList, by rw [ek]; exact hv, ?_⟩
  rw [Array.toArray_toList]
  exact IsTup.new _ _
end K03

/-! enumerate over a tuple -/
namespace K03
open PySem PySem.Spec PyProof.Rows
open AutoSeq1 (wpAny_loadPart')
theorem enum_new_tuple (l : Addr) (items : Array Value) (n : Nat) (dct : Option Addr) (sl : Array (Option Value)) :
    Meets (Builtin.«enumerate.__new__» ⟨[.type "enumerate", .ref l], []⟩) (fun _ R s => s.heap.get? l = some { cls := .type "tuple", dict := dct, data := .seq items n, slots := sl } ∧
      R (.ok (.ret (.ref (s.heap.push { cls := .type "tuple_iterator", data := .fields #[.ref l, .int 0 0] }).objs.size)))
        { s with heap := (s.heap.push { cls := .type "tuple_iterator", data := .fields #[.ref l, .int 0 0] }).push { cls := .type "enumerate", data := .fields #[.none, .bool false, .ref s.heap.objs.size, rawInt 0, .none, .none] } }) :=
  .of_wp fun prog w A R s h => by
    obtain ⟨hp, g, d, tk, os⟩ := s
    obtain ⟨hl, h⟩ := h
    have subE := sub_enumerate
    have isT : Heap.IsTuple (Shared.heap ⟨hp, g, d, tk, os⟩) l items := ⟨_, hl, rfl, n, rfl⟩
    wp_walk using wpAny_loadPart' hl
    refine wpAny_stack_any fun st => wpAny_pure ?_
    split
    · rename_i c _ _ _ _ _
      cases (c == Value.type "enumerate")
      · wp_walk using wpAny_loadPart' hl, wpAny_pyIter_tuple isT
        exact ⟨_, rfl, h⟩
      · wp_walk using wpAny_loadPart' hl, wpAny_pyIter_tuple isT
        exact ⟨_, rfl, h⟩
    · wp_walk using wpAny_loadPart' hl, wpAny_pyIter_tuple isT
      exact ⟨_, rfl, h⟩
section
variable {prog : Program} {w : World} {A : Around} {E : Value → Shared → Prop} {s : Shared}
theorem call_enum_tuple {l : Addr} {items : Array Value} {Q : Value → Shared → Prop} (hL : IsTup s.heap l items)
    (h : ∀ h', IsEnum h' (s.heap.objs.size + 1) s.heap.objs.size 0 .none → h'.IsTupleIter s.heap.objs.size l 0 → h'.objs.size = s.heap.objs.size + 2 →
      (∀ b o, s.heap.get? b = some o → h'.get? b = some o) → Q (.ref (s.heap.objs.size + 1)) { s with heap := h' }) :
    wpAny (model prog w) A (call (.type "enumerate") [.ref l]) Q E s := by
  obtain ⟨⟨c, dct, dt, sl⟩, hl, hc, n, hd⟩ := hL
  replace hc : c = .type "tuple" := hc
  replace hd : dt = .seq items n := hd
  subst hc hd
  refine callType_new F.called_enumerate (by decide) (F.typeCall_enumerate_1 _) (F.newCall_enumerate_1 _) (fun obj => F.args_object_init_2 obj _) F.entry_enumerate_new (enum_new_tuple l items n dct sl) ⟨hl, ?_⟩
  have hz : (s.heap.push { cls := .type "tuple_iterator", data := .fields #[.ref l, .int 0 0] }).objs.size = s.heap.objs.size + 1 := Heap.size_push ..
  show _ ∧ _
  rw [hz]
  have he : IsEnum ((s.heap.push { cls := .type "tuple_iterator", data := .fields #[.ref l, .int 0 0] }).push
      { cls := .type "enumerate", data := .fields #[.none, .bool false, .ref s.heap.objs.size, rawInt 0, .none, .none] }) (s.heap.objs.size + 1) s.heap.objs.size 0 .none := by
    have e0 := Heap.get?_push_size (s.heap.push { cls := .type "tuple_iterator", data := .fields #[.ref l, .int 0 0] })
      (o := { cls := .type "enumerate", data := .fields #[.none, .bool false, .ref s.heap.objs.size, rawInt 0, .none, .none] }) rfl
    rw [hz] at e0
    exact e0
  exact ⟨⟨_, he, rfl⟩, h _ he ⟨_, Heap.get?_push_of_some _ (Heap.get?_push_size _ rfl), rfl, rfl⟩ (by rw [Heap.size_push, hz]) fun b o x => Heap.get?_push_of_some _ (Heap.get?_push_of_some _ x)⟩
end
open L2
/-- the tuple at a, its items in new pairs with their numbers -/
def IteT (K : PySem.W.Frag) (a : Addr) : It :=
  ⟨fun i H => ∃ (xs : List V) (x : V), SqT K H a xs ∧ xs[i]? = some x, fun i H v H' => ∃ T x, v = .ref T ∧ H T = none ∧ H' = upd H T (.tup [.int (i : Nat), x]) ∧ ∀ xs, SqT K H a xs → xs[i]? = some x, fun i H => ∃ xs : List V, SqT K H a xs ∧ xs.length = i⟩
theorem turn_enumT {P : Program} {w : World} {K : PySem.W.Frag} {elts : List Expr} {kk : Nat} {tpos : Pos} (a e it : Addr) :
    Turn P w K (.Tuple elts kk tpos) (IteT K a) [e, it] e (fun i h => (∃ old, IsEnum h e it ((i : Nat) : Int) old) ∧ h.IsTupleIter it a i ∧ e ≠ it) where
  mem := by simp
  obj := fun i h st b hb => by
    obtain ⟨⟨old, he⟩, ⟨o, ho, hc, hd⟩, _⟩ := st
    have e' : b = e ∨ b = it := by simpa using hb
    rcases e' with z | z
    · rw [z]; exact ⟨_, he, fun v q => nomatch q⟩
    · rw [z]; exact ⟨o, ho, fun v q => by rw [hd] at q; cases q⟩
  keep := fun i h h' st k => let ⟨⟨old, he⟩, hi, hne⟩ := st; ⟨⟨old, k e (by simp) _ he⟩, hi.at fun o q => k it (by simp) o q, hne⟩
  item := by
    intro X hP hw hK hc i pins s σ H E I hf st hg
    subst hP hw hK
    obtain ⟨⟨old, he⟩, hit, hne⟩ := st
    obtain ⟨xs, x, hq, hx⟩ := hg
    obtain ⟨its, rv, p, hz⟩ := I.tuple hq
    obtain ⟨u, hu, ru⟩ := rv.get hx
    have hel : e < s.heap.objs.size := Heap.lt_size he
    have hil : it < s.heap.objs.size := by obtain ⟨_, q, _⟩ := hit; exact Heap.lt_size q
    have nae : e ≠ a := fun z => by
      obtain ⟨o, ho, hcl, _⟩ := p
      rw [← z, he] at ho
      have z2 := Option.some.inj ho
      subst z2
      exact absurd (Value.type.inj hcl) (by decide)
    have nai : a ≠ it := fun z => by
      obtain ⟨o, ho, hcl, _⟩ := p
      obtain ⟨o2, ho2, hc2, _⟩ := hit
      rw [z, ho2] at ho
      have z2 := Option.some.inj ho
      subst z2
      rw [hcl] at hc2
      exact absurd (Value.type.inj hc2) (by decide)
    have hi : i < its.toArray.size := by
      have z := (List.getElem?_eq_some_iff.mp hu).1
      simpa using z
    refine wpAny_pyNext_enum_itemD (Draws.tuple (A := X.A.in1) (I.ok.hd hc) it a nai its.toArray) he ⟨hit, show s.heap.IsTuple a its.toArray from p⟩ hi hne (by simp only [List.mem_cons, List.not_mem_nil, or_false, not_or]; exact ⟨hne, nae⟩) fun y h' tk hP ho hst' hT hsz hk => ?_
    have ey : y = u := by
      have z : its.toArray[i]? = some u := by simpa using hu
      exact Option.some.inj (hP.symm.trans z)
    subst ey
    refine ⟨_, rfl, wpAny_letOwnedTupleGo_enum (s := { s with heap := h', toks := tk + 1 }) ho fun h'' he' sb => ?_⟩
    have hT2 : h''.get? s.heap.objs.size = some { cls := .type "tuple", data := .seq #[.int i tk, y] } := (sb.2 _ (Nat.ne_of_gt hel)).trans hT
    have new : ObjOk X.prog X.w (upd H s.heap.objs.size (.tup [.int (i : Nat), x])) h'' s.heap.objs.size (.tup [.int (i : Nat), x]) :=
      ⟨by show 2 ≤ sizeLine; decide, [.int i tk, y], .cons ⟨_, rfl⟩ (.cons ru .nil), ⟨_, hT2, rfl, _, rfl⟩⟩
    have I1 : Inv X pins σ (upd H s.heap.objs.size (.tup [.int (i : Nat), x])) { s with heap := h'', toks := tk + 1 } :=
      I.turnedNew (ch := [e, it]) (fun b ob hb q => (sb.2 b (fun z => hb (by simp [z]))).trans (hk b ob (fun z => hb (by simp [z])) (fun z => hb (by simp [z])) q)) hf (Nat.le_refl _) new
    refine ⟨.ref s.heap.objs.size, _, I1, rfl, ⟨_, x, rfl, I.hok.fresh (Nat.le_refl _), rfl, fun ys hy => by rw [I.tuple_inj hy hq]; exact hx⟩, ⟨⟨y, ?_⟩, hst'.1.at fun o q => (sb.2 it (Ne.symm hne)).trans q, hne⟩, fun b hb => ?_⟩
    · have e1 : ((i + 1 : Nat) : Int) = (i : Int) + 1 := by omega
      rw [e1]; exact he'
    · have hb' : b < s.heap.objs.size := by
        have e' : b = e ∨ b = it := by simpa using hb
        rcases e' with z | z
        · rw [z]; exact hel
        · rw [z]; exact hil
      rw [upd_ne (Nat.ne_of_lt hb')]
      exact (hf b hb).1
  done := by
    intro X hP hw hK hc i pins s σ H E I hf st hg
    subst hP hw hK
    obtain ⟨⟨old, he⟩, hit, hne⟩ := st
    obtain ⟨xs, hq, hx⟩ := hg
    obtain ⟨its, rv, p, hz⟩ := I.tuple hq
    obtain ⟨f0, f1, f2, f3, f4, f5⟩ := hf it (by simp)
    have nai : a ≠ it := fun z => by
      obtain ⟨o, ho, hcl, _⟩ := p
      obtain ⟨o2, ho2, hc2, _⟩ := hit
      rw [z, ho2] at ho
      have z2 := Option.some.inj ho
      subst z2
      rw [hcl] at hc2
      exact absurd (Value.type.inj hc2) (by decide)
    have hn : its.toArray.size = i := by
      have hl := rv.length
      simp only [List.size_toArray]
      omega
    have D := Draws.tuple (prog := X.prog) (w := X.w) (A := X.A.in1) (I.ok.hd hc) it a nai its.toArray
    rw [hn] at D
    exact wpAny_pyNext_enum_endD D he ⟨hit, show s.heap.IsTuple a its.toArray from p⟩ fun h' eb => ⟨rfl, I.turned (t' := s.toks) (fun b o hb q => eb b o hb q) f0 f1 f3 f4 f5⟩
  self := fun A i s Q E st h => let ⟨⟨_, he⟩, _⟩ := st; wpAny_pyIter_enum he h
def iEnumT (K : PySem.W.Frag) (ta : TA) : TI := fun σ H R => ta σ H fun vs H1 => ∃ a xs, vs = [.ref a] ∧ SqT K H1 a xs ∧ R (IteT K a) H1
theorem pi_enumT {X : Cx} {e : Expr} {ta : TA} {p pos tpos : Pos} {elts : List Expr} {kk : Nat} (hg : Gl X "enumerate") (hm : X.mg "enumerate" = none) (ha : PA X [e] ta) (hs : starEach [e] X.env = [(false, eval e X.env)]) :
    PI X (.Tuple elts kk tpos) (.Call (.Name "enumerate" p) [e] [] pos) (iEnumT X.K ta) := by
  refine ⟨fun pins s σ H R I h => ?_⟩
  refine Call_ (ld_blt I hg hm boot_enumerate (PyProof.Rows.callWith_type1 (thn (ha.run pos pins s σ H _ I h) fun us s1 ⟨vs, H1, I1, r1, q1⟩ => ?_) hs rfl))
  obtain ⟨a, xs, rfl, hq, q⟩ := q1
  obtain ⟨u, rfl, rx⟩ := vals1 r1
  cases (show u = Value.ref a from rx)
  obtain ⟨its, rv, tp, hz⟩ := I1.tuple hq
  refine call_enum_tuple tp fun h' he hit hsz hk => wpAny_pyIter_enum he ?_
  have I2 : Inv X pins σ H1 { s1 with heap := h' } := I1.kept (t' := s1.toks) hk
  refine ⟨s1.heap.objs.size + 1, [s1.heap.objs.size + 1, s1.heap.objs.size], _, _, H1, rfl, I2, turn_enumT a (s1.heap.objs.size + 1) s1.heap.objs.size, ⟨⟨.none, he⟩, hit, Nat.succ_ne_self _⟩, fun b hb => ?_, q⟩
  have hle : s1.heap.objs.size ≤ b := by
    have e' : b = s1.heap.objs.size + 1 ∨ b = s1.heap.objs.size := by simpa using hb
    rcases e' with z | z
    · rw [z]
      exact Nat.le_succ _
    · rw [z]
      exact Nat.le_refl _
  exact I1.fpOk hle (I1.hok.fresh hle)
theorem walk_enumT {K : PySem.W.Frag} {a : Addr} {xs : List V} : Walk (IteT K a) xs.length (fun H => SqT K H a xs) (YPair (fun i => some (.int (i : Nat))) (fun i => xs[i]?)) := by
  refine ⟨fun i _ hi q => ⟨xs, xs[i], q, by simp [hi]⟩, fun _ q => ⟨xs, q, rfl⟩, fun i H v H' _ q y => ?_⟩
  obtain ⟨T, x, h1, h2, h3, h4⟩ := y
  exact ⟨T, .int (i : Nat), x, h1, h2, h3, rfl, h4 xs q⟩
/-- one walk or the other -/
theorem pi_or {X : Cx} {tg it : Expr} {w1 w2 : TI} (h1 : PI X tg it w1) (h2 : PI X tg it w2) : PI X tg it (fun σ H R => w1 σ H R ∨ w2 σ H R) :=
  ⟨fun pins s σ H R I h => h.elim (h1.run pins s σ H R I) (h2.run pins s σ H R I)⟩
end K03

/-! the questions: is it a whole number, a name, a label, a kind, a way; the law's own -/
namespace K03
open PySem PySem.Spec PyProof.Rows L2
/-- any thing that the law draws: its type's name -/
inductive Odd (H : Hp) : V → String → Prop where
  | int (i : Int) : Odd H (.int i) "int"
  | bl (b : Bool) : Odd H (.bl b) "bool"
  | non : Odd H .non "NoneType"
  | str (x : Str) (hx : x.length ≤ 1000) (hs : (PyData.str x).canLay0 = true) : Odd H (.str x) "str"
  | tup {a : Addr} {xs : List V} (h : H a = some (.tup xs)) : Odd H (.ref a) "tuple"
  | lst {a : Addr} {xs : List V} (h : H a = some (.lst xs)) : Odd H (.ref a) "list"
  | dic {a : Addr} {kvs : List (Key × V)} (h : H a = some (.dK kvs)) : Odd H (.ref a) "dict"
theorem Odd.ty {K : PySem.W.Frag} {H : Hp} {v : V} {t : String} (o : Odd H v t) : TyX K H v (.type t) := by
  cases o with
  | int i => exact .base (.int i)
  | bl b => exact .base (.bl b)
  | non => exact .base .non
  | str x _ _ => exact .base (.str x)
  | tup h => exact .base (.tup h)
  | lst h => exact .base (.lst h)
  | dic h => exact .base (.dK h)
def wholeV (v : V) (lo hi : Int) : Bool := match v with
  | .int i => decide (lo ≤ i) && decide (i ≤ hi)
  | _ => false
def spWhole : Sp := fun vs H Q _ => ∃ (v : V) (t : String) (lo hi : Int), vs = [v, .int lo, .int hi] ∧ Odd H v t ∧ Q (.bl (wholeV v lo hi)) H
section
variable {P : Program} {w : World} {K : PySem.W.Frag} {mg : Str → Option Value} {base : Heap}
theorem scWhole : FnScope ["thing", "low", "high"] ["thing", "low", "high"] (defScope sPIsWhole) := ⟨rfl, rfl, rfl, by decide +kernel, rfl, by decide +kernel, by decide +kernel⟩
theorem ok_whole {f : Addr} {fd : FuncData} (F : FnP K "is_whole" sPIsWhole f fd) (zi : mg "int" = none) (zb : mg "bool" = none) (zs : mg "isinstance" = none) : FnOk P w K mg base CX0 1 f fd ["thing", "low", "high"] spWhole := by
  refine F.ok scWhole (fun vs H Q E h => ?_) (fun cdv A outer s H vs Q E hr h => ?_)
  · obtain ⟨v, t, lo, hi, rfl, _⟩ := h
    rfl
  · obtain ⟨v, t, lo, hi, rfl, o, q⟩ := h
    refine ⟨_, PSs.nox (pss_one (ps_ret (pe_and (pe_callB call_isi (by rfl) zs (by decide +kernel) (pa_cons (pv 0) (pa_cons (pe_bltn (by rfl) zi (by decide +kernel) (v := .ty "int") rfl) pa_nil)))
      (pe_and (pe_not (pe_callB call_isi (by rfl) zs (by decide +kernel) (pa_cons (pv 0) (pa_cons (pe_bltn (by rfl) zb (by decide +kernel) (v := .ty "bool") rfl) pa_nil)))) (pe_one (pe_chain op_le op_le (pv 1) (pv 0) (pv 2))))))), ?_⟩
    have ty := o.ty (K := K)
    cases o with
    | int i =>
      refine ⟨_, rfl, _, _, _, _, true, rfl, .ty _, ty, kit_ty (by decide +kernel), _, rfl, iteT ⟨_, rfl, _, _, _, _, false, rfl, .ty _, ty, kit_ty (by decide +kernel), _, rfl, _, rfl, iteT ⟨_, rfl, _, rfl, _, _, rfl, rfl, _, rfl, ?_⟩⟩⟩
      have e : wholeV (.int i) lo hi = (decide (lo ≤ i) && decide (i ≤ hi)) := rfl
      rw [e] at q
      refine ite2 (fun h => ?_) (fun h => ?_)
      · rw [h, Bool.true_and] at q
        exact ⟨_, rfl, _, _, rfl, rfl, q⟩
      · rw [Bool.eq_false_iff.mpr h, Bool.false_and] at q
        exact q
    | bl b => exact ⟨_, rfl, _, _, _, _, true, rfl, .ty _, ty, kit_ty (by decide +kernel), _, rfl, iteT ⟨_, rfl, _, _, _, _, true, rfl, .ty _, ty, kit_ty (by decide +kernel), _, rfl, _, rfl, iteF q⟩⟩
    | _ => exact ⟨_, rfl, _, _, _, _, false, rfl, .ty _, ty, kit_ty (by decide +kernel), _, rfl, iteF q⟩
/-! ### names, kinds, sequences -/
def spName : Sp := fun vs H Q _ => ∃ (v : V) (t : String), vs = [v] ∧ Odd H v t ∧ Q (.bl (wholeV v 0 (10 ^ 30))) H
theorem scName : FnScope ["thing"] ["thing"] (defScope sPIsName) := ⟨rfl, rfl, rfl, by decide +kernel, rfl, by decide +kernel, by decide +kernel⟩
theorem ok_name {f fW : Addr} {fd fdW : FuncData} (F : FnP K "is_name" sPIsName f fd) (GW : FnOk P w K mg base CX0 1 fW fdW ["thing", "low", "high"] spWhole) (bW : Binds K fdW ["thing", "low", "high"] []) (kW : PySem.W.keepIn K (.ref fW) = true) (gW : mg "is_whole" = some (.ref fW))
    (gN : ∃ t, mg "MOST_NAME" = some (.int (10 ^ 30) t)) : FnOk P w K mg base CX0 2 f fd ["thing"] spName := by
  obtain ⟨tk, gN⟩ := gN
  refine F.ok scName (fun vs H Q E h => ?_) (fun cdv A outer s H vs Q E hr h => ?_)
  · obtain ⟨v, t, rfl, _⟩ := h
    rfl
  · obtain ⟨v, t, rfl, o, q⟩ := h
    refine ⟨_, PSs.nox (pss_one (ps_ret (pe_call GW hr (by rfl) gW kW bW .nil pass0 (pa_cons (pv 0) (pa_cons pe_int (pa_cons (pe_glob (by rfl) gN (v := .int (10 ^ 30)) ⟨_, rfl⟩) pa_nil)))))), ?_⟩
    exact ⟨_, rfl, v, t, 0, _, rfl, o, q⟩
def kindV (v : V) : Bool := match v with
  | .str x => inV (.str x) [.str "s", .str "d"]
  | _ => false
def spKind : Sp := fun vs H Q _ => ∃ (v : V) (t : String), vs = [v] ∧ Odd H v t ∧ Q (.bl (kindV v)) H
theorem scKind : FnScope ["thing"] ["thing"] (defScope sPIsKind) := ⟨rfl, rfl, rfl, by decide +kernel, rfl, by decide +kernel, by decide +kernel⟩
theorem ok_kind {f a : Addr} {fd : FuncData} (F : FnP K "is_kind" sPIsKind f fd) (zt : mg "str" = none) (zs : mg "isinstance" = none) (gK : mg "KINDS" = some (.ref a)) (hK : ∀ H, SqT K H a [.str "s", .str "d"]) : FnOk P w K mg base CX0 1 f fd ["thing"] spKind := by
  refine F.ok scKind (fun vs H Q E h => ?_) (fun cdv A outer s H vs Q E hr h => ?_)
  · obtain ⟨v, t, rfl, _⟩ := h
    rfl
  · obtain ⟨v, t, rfl, o, q⟩ := h
    refine ⟨_, PSs.nox (pss_one (ps_ret (pe_and (pe_callB call_isi (by rfl) zs (by decide +kernel) (pa_cons (pv 0) (pa_cons (pe_bltn (by rfl) zt (by decide +kernel) (v := .ty "str") rfl) pa_nil)))
      (pe_one (pe_cmpR op_in_seq (pv 0) (pe_glob (by rfl) gK (v := .ref a) rfl) (by rfl)))))), ?_⟩
    have ty := o.ty (K := K)
    cases o with
    | str x hx hs => exact ⟨_, rfl, _, _, _, _, true, rfl, .ty _, ty, kit_ty (by decide +kernel), _, rfl, iteT ⟨_, rfl, _, _, rfl, .inr (hK H), rfl, rfl, q⟩⟩
    | _ => exact ⟨_, rfl, _, _, _, _, false, rfl, .ty _, ty, kit_ty (by decide +kernel), _, rfl, iteF q⟩
def seqT (t : String) : Bool := t == "list" || t == "tuple"
def spSeq : Sp := fun vs H Q _ => ∃ (v : V) (t : String), vs = [v] ∧ Odd H v t ∧ ∀ p, H p = none → Q (.bl (seqT t)) (upd H p (.tup [.ty "list", .ty "tuple"]))
theorem kit_seq {K : PySem.W.Frag} {t : String} {b1 b2 r : Bool} (h1 : kitB t "list" = some b1) (h2 : kitB t "tuple" = some b2) (e : (b1 || b2) = r) : PySem.W.kitAny K (.type t) [.type "list", .type "tuple"] = some r := by
  subst e
  refine kitAny_cons (kit_ty h1) (fun e1 => ?_) (fun e1 => by rw [e1]; rfl)
  subst e1
  refine kitAny_cons (kit_ty h2) (fun e2 => ?_) (fun e2 => by rw [e2]; rfl)
  subst e2
  exact kitAny_nil
theorem scSeq : FnScope ["thing"] ["thing"] (defScope sPIsSequence) := ⟨rfl, rfl, rfl, by decide +kernel, rfl, by decide +kernel, by decide +kernel⟩
theorem Odd.same {H H' : Hp} {v : V} {t : String} (o : Odd H v t) (s : Same H H') : Odd H' v t := by
  cases o with
  | int i => exact .int i
  | bl b => exact .bl b
  | non => exact .non
  | str x hx hs => exact .str x hx hs
  | tup h => exact .tup (s _ _ h)
  | lst h => exact .lst (s _ _ h)
  | dic h => exact .dic (s _ _ h)
theorem ok_seq {f : Addr} {fd : FuncData} (F : FnP K "is_sequence" sPIsSequence f fd) (zl : mg "list" = none) (zt : mg "tuple" = none) (zs : mg "isinstance" = none) : FnOk P w K mg base CX0 1 f fd ["thing"] spSeq := by
  refine F.ok scSeq (fun vs H Q E h => ?_) (fun cdv A outer s H vs Q E hr h => ?_)
  · obtain ⟨v, t, rfl, _⟩ := h
    rfl
  · obtain ⟨v, t, rfl, o, q⟩ := h
    refine ⟨_, PSs.nox (pss_one (ps_ret (pe_callB call_isiT (by rfl) zs (by decide +kernel) (pa_cons (pv 0) (pa_cons (pe_tup (pa_cons (pe_bltn (by rfl) zl (by decide +kernel) (v := .ty "list") rfl) (pa_cons (pe_bltn (by rfl) zt (by decide +kernel) (v := .ty "tuple") rfl) pa_nil))) pa_nil))))), ?_⟩
    refine ⟨_, rfl, (by show 2 ≤ sizeLine; decide), fun p np => ⟨_, p, _, _, [.type "list", .type "tuple"], seqT t, rfl, upd_same, .cons (.ty _) (.cons (.ty _) .nil), (o.same (same_upd np)).ty, ?_, q p np⟩⟩
    cases o with
    | tup _ => exact kit_seq (b1 := false) (b2 := true) (by decide +kernel) (by decide +kernel) (by decide +kernel)
    | lst _ => exact kit_seq (b1 := true) (b2 := false) (by decide +kernel) (by decide +kernel) (by decide +kernel)
    | _ => exact kit_seq (b1 := false) (b2 := false) (by decide +kernel) (by decide +kernel) (by decide +kernel)
/-! ### labels and ways -/
/-- "a" <= letter <= "z" -/
def lowC (c : Nat) : Bool := !decide ([c] < [97]) && !decide ([122] < [c])
def labelV (v : V) : Bool := match v with
  | .str x => (decide ((1 : Int) ≤ x.length) && decide ((x.length : Int) ≤ 6)) && x.cps.toList.all lowC
  | _ => false
def spLabel : Sp := fun vs H Q _ => ∃ (v : V) (t : String), vs = [v] ∧ Odd H v t ∧ ∀ H', Same H H' → Q (.bl (labelV v)) H'
theorem not_t {b : Bool} (h : (!b) = true) : b = false := by
  cases b with
  | false => rfl
  | true => cases h
theorem not_f {b : Bool} (h : ¬ (!b) = true) : b = true := by
  cases b with
  | true => rfl
  | false => exact absurd rfl h
theorem scLabel : FnScope ["thing", "letter"] ["thing"] (defScope sPIsLabel) := ⟨rfl, rfl, rfl, by decide +kernel, rfl, by decide +kernel, by decide +kernel⟩
theorem ok_label {f : Addr} {fd : FuncData} (F : FnP K "is_label" sPIsLabel f fd) (zt : mg "str" = none) (zs : mg "isinstance" = none) (zl : mg "len" = none) (za : mg "all" = none) : FnOk P w K mg base CX0 1 f fd ["thing"] spLabel := by
  refine F.ok scLabel (fun vs H Q E h => ?_) (fun cdv A outer s H vs Q E hr h => ?_)
  · obtain ⟨v, t, rfl, _⟩ := h
    rfl
  · obtain ⟨v, t, rfl, o, q⟩ := h
    refine ⟨_, PSs.nox (pss_cons (ps_if (PW.pt (pw_or (pt_not (pt_val (pe_callB call_isi (by rfl) zs (by decide +kernel) (pa_cons (pv 0) (pa_cons (pe_bltn (by rfl) zt (by decide +kernel) (v := .ty "str") rfl) pa_nil)))))
        (pw_or1 (pt_not (pt_chain op_le op_le pe_int (pe_callB call_len_str (by rfl) zl boot_len (pa_cons (pv 0) pa_nil)) pe_int))))) (pss_one (ps_ret pe_bl)) pss_nil)
      (pss_one (ps_ret (pe_callB (cr_all rfl) (by rfl) za (by decide +kernel) (pa_cons (pe_lc (own := [("letter", 1)]) (g := gName 1) (tt := tYes) rfl scLabel.nd (pi_str (pv 0)) (blkOk_by (N := ["thing", "letter"]) (sc := defScope sPIsLabel) (by decide +kernel))
          (fun _ _ _ _ _ => pg_name (i := 1) scLabel.nd rfl (Or.inl rfl)) (fun _ _ _ _ _ => pts_nil) (fun _ _ _ _ _ => pe_chain op_le_str op_le_str pe_str (pv 1) pe_str)) pa_nil))))), ?_⟩
    have ty := o.ty (K := K)
    cases o with
    | str x hx hs =>
      have e : labelV (.str x) = ((decide ((1 : Int) ≤ x.length) && decide ((x.length : Int) ≤ 6)) && x.cps.toList.all lowC) := rfl
      rw [e] at q
      refine ⟨_, rfl, _, _, _, _, true, rfl, .ty _, ty, kit_ty (by decide +kernel), _, rfl, iteF ?_⟩
      refine ⟨_, rfl, _, rfl, Nat.le_trans hx (by decide), _, _, rfl, rfl, _, rfl, ?_⟩
      refine ite2 (fun h1 => ?_) (fun h1 => ?_)
      · rw [h1, Bool.true_and] at q
        refine ⟨_, _, rfl, rfl, _, rfl, ?_⟩
        refine ite2 (fun h2 => ?_) (fun h2 => ?_)
        · rw [not_t h2, Bool.false_and] at q
          exact q H (Same.refl H)
        · rw [not_f h2, Bool.true_and] at q
          refine ⟨_, rfl, x, rfl, fun D nD => lc_it walk_str (fun i H' => Same H H' ∧ H' D = some (.lst (((x.cps.toList.take i).map lowC).map V.bl))) ⟨same_upd nD, upd_same⟩ (fun _ _ _ _ => trivial) ?_ ?_⟩
          · rintro i y H2 H3 hi ⟨s2, eD⟩ ⟨rfl, c, hc, rfl⟩
            have hi' : i < x.cps.toList.length := by
              rw [Array.length_toList]
              exact hi
            have hc' : x.cps.toList[i]? = some c := by
              rw [Array.getElem?_toList]
              exact hc
            have nx : ∀ b : Bool, b = lowC c → ∃ acc, H3 D = some (.lst acc) ∧ acc.length < sizeLine ∧ (Same H (upd H3 D (.lst (acc ++ [V.bl b]))) ∧ (upd H3 D (.lst (acc ++ [V.bl b]))) D = some (.lst (((x.cps.toList.take (i + 1)).map lowC).map V.bl))) := fun b eb => by
              subst eb
              refine ⟨_, eD, ?_, fun b' o' e' => ?_, ?_⟩
              · rw [List.length_map, List.length_map, List.length_take]
                exact Nat.lt_of_le_of_lt (Nat.min_le_left _ _) (Nat.lt_of_lt_of_le hi (Nat.le_trans hx (by decide)))
              · rw [upd_ne (ne_of_none e' nD)]
                exact s2 _ _ e'
              · rw [upd_same, List.take_add_one, hc', List.map_append, List.map_append]
                rfl
            refine ⟨rfl, ?_⟩
            refine ⟨_, rfl, _, _, rfl, rfl, _, rfl, ?_⟩
            refine ite2 (fun g1 => ?_) (fun g1 => ?_)
            · exact ⟨_, _, rfl, rfl, nx _ (by unfold lowC; rw [show (!decide ([c] < [97])) = true from g1, Bool.true_and]; rfl)⟩
            · exact nx _ (by unfold lowC; rw [show (!decide ([c] < [97])) = false from Bool.eq_false_iff.mpr g1, Bool.false_and])
          · rintro H2 ⟨s2, eD⟩
            have eall : x.cps.toList.take x.cps.size = x.cps.toList := List.take_of_length_le (by rw [Array.length_toList]; exact Nat.le_refl _)
            rw [eall] at eD
            refine ⟨D, _, rfl, SqL.of eD, ?_⟩
            rw [show ((x.cps.toList.map lowC).all id) = x.cps.toList.all lowC by rw [List.all_map]; rfl]
            exact q H2 s2
      · rw [Bool.eq_false_iff.mpr h1, Bool.false_and, Bool.false_and] at q
        exact ⟨_, rfl, iteT (q H (Same.refl H))⟩
    | _ => exact ⟨_, rfl, _, _, _, _, false, rfl, .ty _, ty, kit_ty (by decide +kernel), _, rfl, iteT (q H (Same.refl H))⟩
def fmC (c : Nat) : Bool := decide (c = 102 ∨ c = 109)
def wayV (v : V) (lo hi : Int) : Bool := match v with
  | .str x => (decide (lo ≤ x.length) && decide ((x.length : Int) ≤ hi)) && x.cps.toList.all fmC
  | _ => false
def rKd (K : PySem.W.Frag) (d : Addr) : R2 := fun x y H Q => ∃ (z : Str) (r : Option Value), x = .str z ∧ y = .ref d ∧ PySem.W.nsIn K d z = some r ∧ Q (.bl r.isSome) H
def spWay : Sp := fun vs H Q _ => ∃ (v : V) (t : String) (lo hi : Int), vs = [v, .int lo, .int hi] ∧ Odd H v t ∧ ∀ H', Same H H' → Q (.bl (wayV v lo hi)) H'
theorem scWay : FnScope ["thing", "least", "most", "letter"] ["thing", "least", "most"] (defScope sPIsWay) := ⟨rfl, rfl, rfl, by decide +kernel, rfl, by decide +kernel, by decide +kernel⟩
theorem ok_way {f d : Addr} {es : Array DictEntry} {n : Nat} {fd : FuncData} (F : FnP K "is_way" sPIsWay f fd) (zt : mg "str" = none) (zs : mg "isinstance" = none) (zl : mg "len" = none) (za : mg "all" = none) (gP : mg "PARENT_KIND" = some (.ref d)) (D : KDict K w d es n)
    (hK : ∀ c : Nat, ∃ r, PySem.W.nsIn K d ⟨#[c]⟩ = some r ∧ r.isSome = fmC c) : FnOk P w K mg base CX0 1 f fd ["thing", "least", "most"] spWay := by
  refine F.ok scWay (fun vs H Q E h => ?_) (fun cdv A outer s H vs Q E hr h => ?_)
  · obtain ⟨v, t, lo, hi, rfl, _⟩ := h
    rfl
  · obtain ⟨v, t, lo, hi, rfl, o, q⟩ := h
    refine ⟨_, PSs.nox (pss_cons (ps_if (PW.pt (pw_or (pt_not (pt_val (pe_callB call_isi (by rfl) zs (by decide +kernel) (pa_cons (pv 0) (pa_cons (pe_bltn (by rfl) zt (by decide +kernel) (v := .ty "str") rfl) pa_nil)))))
        (pw_or1 (pt_not (pt_chain op_le op_le (pv 1) (pe_callB call_len_str (by rfl) zl boot_len (pa_cons (pv 0) pa_nil)) (pv 2)))))) (pss_one (ps_ret pe_bl)) pss_nil)
      (pss_one (ps_ret (pe_callB (cr_all rfl) (by rfl) za (by decide +kernel) (pa_cons (pe_lc (own := [("letter", 3)]) (g := gName 3) (tt := tYes) rfl scWay.nd (pi_str (pv 0)) (blkOk_by (N := ["thing", "least", "most", "letter"]) (sc := defScope sPIsWay) (by decide +kernel))
          (fun _ _ _ _ _ => pg_name (i := 3) scWay.nd rfl (Or.inl rfl)) (fun _ _ _ _ _ => pts_nil) (fun _ _ _ _ _ => pe_cmpR (r := rKd K d) (op_in_kd D) (pv 3) (pe_glob (by rfl) gP (v := .ref d) rfl) (by rfl))) pa_nil))))), ?_⟩
    have ty := o.ty (K := K)
    cases o with
    | str x hx hs =>
      have e : wayV (.str x) lo hi = ((decide (lo ≤ x.length) && decide ((x.length : Int) ≤ hi)) && x.cps.toList.all fmC) := rfl
      rw [e] at q
      refine ⟨_, rfl, _, _, _, _, true, rfl, .ty _, ty, kit_ty (by decide +kernel), _, rfl, iteF ?_⟩
      refine ⟨_, rfl, _, rfl, _, rfl, Nat.le_trans hx (by decide), _, _, rfl, rfl, _, rfl, ?_⟩
      refine ite2 (fun h1 => ?_) (fun h1 => ?_)
      · rw [h1, Bool.true_and] at q
        refine ⟨_, rfl, _, _, rfl, rfl, _, rfl, ?_⟩
        refine ite2 (fun h2 => ?_) (fun h2 => ?_)
        · rw [not_t h2, Bool.false_and] at q
          exact q H (Same.refl H)
        · rw [not_f h2, Bool.true_and] at q
          refine ⟨_, rfl, x, rfl, fun D nD => lc_it walk_str (fun i H' => Same H H' ∧ H' D = some (.lst (((x.cps.toList.take i).map fmC).map V.bl))) ⟨same_upd nD, upd_same⟩ (fun _ _ _ _ => trivial) ?_ ?_⟩
          · rintro i y H2 H3 hi' ⟨s2, eD⟩ ⟨rfl, c, hc, rfl⟩
            have hc' : x.cps.toList[i]? = some c := by
              rw [Array.getElem?_toList]
              exact hc
            obtain ⟨r, hr1, hr2⟩ := hK c
            refine ⟨rfl, ?_⟩
            refine ⟨_, rfl, _, r, rfl, rfl, hr1, ?_⟩
            refine ⟨_, eD, ?_, fun b' o' e' => ?_, ?_⟩
            · rw [List.length_map, List.length_map, List.length_take]
              exact Nat.lt_of_le_of_lt (Nat.min_le_left _ _) (Nat.lt_of_lt_of_le hi' (Nat.le_trans hx (by decide)))
            · rw [upd_ne (ne_of_none e' nD)]
              exact s2 _ _ e'
            · rw [upd_same, List.take_add_one, hc', List.map_append, List.map_append, hr2]
              rfl
          · rintro H2 ⟨s2, eD⟩
            have eall : x.cps.toList.take x.cps.size = x.cps.toList := List.take_of_length_le (by rw [Array.length_toList]; exact Nat.le_refl _)
            rw [eall] at eD
            refine ⟨D, _, rfl, SqL.of eD, ?_⟩
            rw [show ((x.cps.toList.map fmC).all id) = x.cps.toList.all fmC by rw [List.all_map]; rfl]
            exact q H2 s2
      · rw [Bool.eq_false_iff.mpr h1, Bool.false_and, Bool.false_and] at q
        exact ⟨_, rfl, iteT (q H (Same.refl H))⟩
    | _ => exact ⟨_, rfl, _, _, _, _, false, rfl, .ty _, ty, kit_ty (by decide +kernel), _, rfl, iteT (q H (Same.refl H))⟩
/-! ### the law's own questions -/
theorem scNum : FnScope ["_law_thing", "_law_low", "_law_high"] ["_law_thing", "_law_low", "_law_high"] (defScope sIsNumber) := ⟨rfl, rfl, rfl, by decide +kernel, rfl, by decide +kernel, by decide +kernel⟩
theorem ok_num {f : Addr} {fd : FuncData} (F : FnP K "_law_is_number" sIsNumber f fd) (zi : mg "int" = none) (zb : mg "bool" = none) (zs : mg "isinstance" = none) : FnOk P w K mg base CX0 1 f fd ["_law_thing", "_law_low", "_law_high"] spWhole := by
  refine F.ok scNum (fun vs H Q E h => ?_) (fun cdv A outer s H vs Q E hr h => ?_)
  · obtain ⟨v, t, lo, hi, rfl, _⟩ := h
    rfl
  · obtain ⟨v, t, lo, hi, rfl, o, q⟩ := h
    refine ⟨_, PSs.nox (pss_one (ps_ret (pe_and (pe_callB call_isi (by rfl) zs (by decide +kernel) (pa_cons (pv 0) (pa_cons (pe_bltn (by rfl) zi (by decide +kernel) (v := .ty "int") rfl) pa_nil)))
      (pe_and (pe_not (pe_callB call_isi (by rfl) zs (by decide +kernel) (pa_cons (pv 0) (pa_cons (pe_bltn (by rfl) zb (by decide +kernel) (v := .ty "bool") rfl) pa_nil)))) (pe_one (pe_chain op_le op_le (pv 1) (pv 0) (pv 2))))))), ?_⟩
    have ty := o.ty (K := K)
    cases o with
    | int i =>
      refine ⟨_, rfl, _, _, _, _, true, rfl, .ty _, ty, kit_ty (by decide +kernel), _, rfl, iteT ⟨_, rfl, _, _, _, _, false, rfl, .ty _, ty, kit_ty (by decide +kernel), _, rfl, _, rfl, iteT ⟨_, rfl, _, rfl, _, _, rfl, rfl, _, rfl, ?_⟩⟩⟩
      have e : wholeV (.int i) lo hi = (decide (lo ≤ i) && decide (i ≤ hi)) := rfl
      rw [e] at q
      refine ite2 (fun h => ?_) (fun h => ?_)
      · rw [h, Bool.true_and] at q
        exact ⟨_, rfl, _, _, rfl, rfl, q⟩
      · rw [Bool.eq_false_iff.mpr h, Bool.false_and] at q
        exact q
    | bl b => exact ⟨_, rfl, _, _, _, _, true, rfl, .ty _, ty, kit_ty (by decide +kernel), _, rfl, iteT ⟨_, rfl, _, _, _, _, true, rfl, .ty _, ty, kit_ty (by decide +kernel), _, rfl, _, rfl, iteF q⟩⟩
    | _ => exact ⟨_, rfl, _, _, _, _, false, rfl, .ty _, ty, kit_ty (by decide +kernel), _, rfl, iteF q⟩
/-- the signs of x that are none of z's -/
def restC (z x : Str) : List Nat := x.cps.toList.filter fun c => !decide (c ∈ z.cps.toList)
def onlyV (v : V) (z : Str) (lo hi : Int) : Bool := match v with
  | .str x => (decide (lo ≤ x.length) && decide ((x.length : Int) ≤ hi)) && (restC z x).isEmpty
  | _ => false
def spOnly : Sp := fun vs H Q _ => ∃ (v : V) (t : String) (z : Str) (lo hi : Int), vs = [v, .str z, .int lo, .int hi] ∧ Odd H v t ∧ ∀ H', Same H H' → Q (.bl (onlyV v z lo hi)) H'
def signV (c : Nat) : V := .str ⟨#[c]⟩
def signD (c : Nat) : PyData := .str ⟨#[c]⟩
theorem dp_signs {K : PySem.W.Frag} {H : Hp} : ∀ l : List Nat, DpAll K H (l.map signV) (l.map signD)
  | [] => .nil
  | c :: l => .cons (.str _) (dp_signs l)
theorem eqv_empty : ∀ l : List Nat, PyData.eqv (.list (l.map signD)) (.list []) = l.isEmpty
  | [] => rfl
  | c :: l => rfl
theorem lay_signs : ∀ {l : List Nat}, (∀ c ∈ l, (signD c).canLay0 = true) → PyData.canLayAll0 (l.map signD) = true
  | [], _ => rfl
  | c :: l, h => by
    show (PyData.canLay0 (signD c) && PyData.canLayAll0 (l.map signD)) = true
    rw [h c List.mem_cons_self, lay_signs fun d m => h d (List.mem_cons_of_mem _ m)]
    rfl
theorem deep_signs : ∀ l : List Nat, PyData.depthAll (l.map signD) ≤ 1
  | [] => by show (0 : Nat) ≤ 1; decide
  | c :: l => by
    show max (PyData.depth (signD c)) (PyData.depthAll (l.map signD)) ≤ 1
    exact Nat.max_le.mpr ⟨(show (0 : Nat) ≤ 1 by decide), deep_signs l⟩
theorem shaped_signs {l : List Nat} (h : ∀ c ∈ l, (signD c).canLay0 = true) : SeqAt.shaped (.list (l.map signD)) = true := by
  refine Bool.and_eq_true_iff.mpr ⟨lay_signs h, decide_eq_true ?_⟩
  have z := deep_signs l
  show PyData.depthAll (l.map signD) + 1 ≤ 64
  omega
theorem sign_lay {x : Str} (h : (PyData.str x).canLay0 = true) {c : Nat} (hc : c ∈ x.cps.toList) : (signD c).canLay0 = true := by
  have h1 : x.cps.all (fun c => decide (c < 0x110000)) = true := h
  rw [← Array.all_toList] at h1
  have h2 := List.all_eq_true.mp h1 c hc
  show (#[c] : Array Nat).all (fun c => decide (c < 0x110000)) = true
  rw [← Array.all_toList]
  exact List.all_eq_true.mpr fun d hd => by
    have e : d = c := List.mem_singleton.mp hd
    rw [e]
    exact h2
theorem flt1 {c : Nat} {l : List Nat} (h : (!decide (c ∈ l)) = true) : [c].filter (fun c => !decide (c ∈ l)) = [c] := by
  rw [List.filter_cons, if_pos h]
  rfl
theorem flt0 {c : Nat} {l : List Nat} (h : ¬ (!decide (c ∈ l)) = true) : [c].filter (fun c => !decide (c ∈ l)) = [] := by
  rw [List.filter_cons, if_neg h]
  rfl
theorem scOnly : FnScope ["_law_thing", "_law_signs", "_law_least", "_law_most", "_law_sign"] ["_law_thing", "_law_signs", "_law_least", "_law_most"] (defScope sOnly) := ⟨rfl, rfl, rfl, by decide +kernel, rfl, by decide +kernel, by decide +kernel⟩
theorem ok_only {f : Addr} {fd : FuncData} (F : FnP K "_law_only" sOnly f fd) (zt : mg "str" = none) (zs : mg "isinstance" = none) (zl : mg "len" = none) : FnOk P w K mg base CX0 1 f fd ["_law_thing", "_law_signs", "_law_least", "_law_most"] spOnly := by
  refine F.ok scOnly (fun vs H Q E h => ?_) (fun cdv A outer s H vs Q E hr h => ?_)
  · obtain ⟨v, t, z, lo, hi, rfl, _⟩ := h
    rfl
  · obtain ⟨v, t, z, lo, hi, rfl, o, q⟩ := h
    refine ⟨_, PSs.nox (pss_cons (ps_if (PW.pt (pw_or (pt_not (pt_val (pe_callB call_isi (by rfl) zs (by decide +kernel) (pa_cons (pv 0) (pa_cons (pe_bltn (by rfl) zt (by decide +kernel) (v := .ty "str") rfl) pa_nil)))))
        (pw_or1 (pt_not (pt_chain op_le op_le (pv 2) (pe_callB call_len_str (by rfl) zl boot_len (pa_cons (pv 0) pa_nil)) (pv 3)))))) (pss_one (ps_ret pe_bl)) pss_nil)
      (pss_one (ps_ret (pe_cmpR (op_eqD hr.units) (pe_lc (own := [("_law_sign", 4)]) (g := gName 4) rfl scOnly.nd (pi_str (pv 0)) (blkOk_by (N := ["_law_thing", "_law_signs", "_law_least", "_law_most", "_law_sign"]) (sc := defScope sOnly) (by decide +kernel))
          (fun _ _ _ _ _ => pg_name (i := 4) scOnly.nd rfl (Or.inl rfl)) (fun _ _ _ _ _ => pts_one (pt_cmpR op_notIn_sign (pv 4) (pv 1) (by rfl))) (fun _ _ _ _ _ => pv 4)) (pe_lst pa_nil) (nomark _))))), ?_⟩
    have ty := o.ty (K := K)
    cases o with
    | str x hx hs =>
      have e : onlyV (.str x) z lo hi = ((decide (lo ≤ x.length) && decide ((x.length : Int) ≤ hi)) && (restC z x).isEmpty) := rfl
      rw [e] at q
      refine ⟨_, rfl, _, _, _, _, true, rfl, .ty _, ty, kit_ty (by decide +kernel), _, rfl, iteF ?_⟩
      refine ⟨_, rfl, _, rfl, _, rfl, Nat.le_trans hx (by decide), _, _, rfl, rfl, _, rfl, ?_⟩
      refine ite2 (fun h1 => ?_) (fun h1 => ?_)
      · rw [h1, Bool.true_and] at q
        refine ⟨_, rfl, _, _, rfl, rfl, _, rfl, ?_⟩
        refine ite2 (fun h2 => ?_) (fun h2 => ?_)
        · rw [not_t h2, Bool.false_and] at q
          exact q H (Same.refl H)
        · rw [not_f h2, Bool.true_and] at q
          refine ⟨_, rfl, x, rfl, fun D nD => lc_it walk_str (fun i H' => Same H H' ∧ H' D = some (.lst (((x.cps.toList.take i).filter fun c => !decide (c ∈ z.cps.toList)).map signV))) ⟨same_upd nD, upd_same⟩ (fun _ _ _ _ => trivial) ?_ ?_⟩
          · rintro i y H2 H3 hi' ⟨s2, eD⟩ ⟨rfl, c, hc, rfl⟩
            have hc' : x.cps.toList[i]? = some c := by
              rw [Array.getElem?_toList]
              exact hc
            have etake : x.cps.toList.take (i + 1) = x.cps.toList.take i ++ [c] := by
              rw [List.take_add_one, hc']
              rfl
            refine ⟨rfl, ?_⟩
            refine ⟨_, rfl, _, rfl, c, z, rfl, rfl, _, rfl, ?_⟩
            refine ite2 (fun g => ?_) (fun g => ?_)
            · refine ⟨_, rfl, _, eD, ?_, fun b' o' e' => ?_, ?_⟩
              · rw [List.length_map]
                refine Nat.lt_of_le_of_lt (List.length_filter_le _ _) ?_
                rw [List.length_take]
                exact Nat.lt_of_le_of_lt (Nat.min_le_left _ _) (Nat.lt_of_lt_of_le hi' (Nat.le_trans hx (by decide)))
              · rw [upd_ne (ne_of_none e' nD)]
                exact s2 _ _ e'
              · rw [upd_same, etake, List.filter_append, List.map_append, flt1 g]
                rfl
            · refine ⟨s2, ?_⟩
              rw [etake, List.filter_append, List.map_append, flt0 g, eD]
              show some (HO.lst _) = some (HO.lst (_ ++ []))
              rw [List.append_nil]
          · rintro H2 ⟨s2, eD⟩
            have eall : x.cps.toList.take x.cps.size = x.cps.toList := List.take_of_length_le (by rw [Array.length_toList]; exact Nat.le_refl _)
            rw [eall] at eD
            refine ⟨Nat.zero_le _, fun p np => ?_⟩
            have sp := same_upd (o := .lst []) np
            refine ⟨_, _, .lst (SqL.of (sp _ _ eD)) (dp_signs _), .lst (SqL.of upd_same) .nil, shaped_signs (fun c hc => sign_lay hs (List.mem_filter.mp hc).1), by decide +kernel, ?_⟩
            rw [eqv_empty]
            exact q _ (s2.trans sp)
      · rw [Bool.eq_false_iff.mpr h1, Bool.false_and, Bool.false_and] at q
        exact ⟨_, rfl, iteT (q H (Same.refl H))⟩
    | _ => exact ⟨_, rfl, _, _, _, _, false, rfl, .ty _, ty, kit_ty (by decide +kernel), _, rfl, iteT (q H (Same.refl H))⟩
end
end K03

/-! all the questions about one thing -/
namespace K03
open PySem PySem.Spec PyProof.Rows L2
abbrev lettersS : Str := "abcdefghijklmnopqrstuvwxyz"
theorem letters_are : lettersS.cps.toList = (List.range 26).map (· + 97) := by decide +kernel
theorem fm_are : ("fm" : Str).cps.toList = [102, 109] := by decide +kernel
theorem lt_one (a b : Nat) : decide ([a] < [b]) = decide (a < b) := by
  refine decide_eq_decide.mpr ⟨fun h => ?_, fun h => ?_⟩
  · cases h with
    | rel h => exact h
    | cons h => cases h
  · exact List.Lex.rel h
theorem low_mem (c : Nat) : lowC c = decide (c ∈ lettersS.cps.toList) := by
  rw [letters_are]
  unfold lowC
  rw [lt_one, lt_one]
  by_cases h : 97 ≤ c ∧ c ≤ 122
  · have m : c ∈ (List.range 26).map (· + 97) := List.mem_map.mpr ⟨c - 97, List.mem_range.mpr (by omega), by omega⟩
    rw [decide_eq_true m, decide_eq_false (by omega), decide_eq_false (by omega)]
    rfl
  · have m : ¬ c ∈ (List.range 26).map (· + 97) := fun z => by
      obtain ⟨d, hd, e⟩ := List.mem_map.mp z
      have := List.mem_range.mp hd
      omega
    rw [decide_eq_false m]
    by_cases h2 : c < 97
    · rw [decide_eq_true h2]
      rfl
    · rw [decide_eq_true (show 122 < c by omega), decide_eq_false h2]
      rfl
theorem fm_mem (c : Nat) : fmC c = decide (c ∈ ("fm" : Str).cps.toList) := by
  rw [fm_are]
  unfold fmC
  refine decide_eq_decide.mpr ?_
  simp only [List.mem_cons, List.not_mem_nil, or_false]
theorem rest_all (z x : Str) (p : Nat → Bool) (hp : ∀ c, p c = decide (c ∈ z.cps.toList)) : (restC z x).isEmpty = x.cps.toList.all p := by
  unfold restC
  induction x.cps.toList with
  | nil => rfl
  | cons c l ih =>
    rw [List.all_cons, hp c, List.filter_cons]
    cases h : decide (c ∈ z.cps.toList) with
    | true =>
      rw [if_neg (by decide), Bool.true_and]
      exact ih
    | false =>
      rw [if_pos (by decide), Bool.false_and]
      rfl
theorem label_only (v : V) : onlyV v lettersS 1 6 = labelV v := by
  cases v with
  | str x =>
    show ((decide ((1 : Int) ≤ x.length) && decide ((x.length : Int) ≤ 6)) && (restC lettersS x).isEmpty) = ((decide ((1 : Int) ≤ x.length) && decide ((x.length : Int) ≤ 6)) && x.cps.toList.all lowC)
    rw [rest_all lettersS x lowC low_mem]
  | _ => rfl
theorem way_only (v : V) (lo hi : Int) : onlyV v "fm" lo hi = wayV v lo hi := by
  cases v with
  | str x =>
    show ((decide (lo ≤ x.length) && decide ((x.length : Int) ≤ hi)) && (restC "fm" x).isEmpty) = ((decide (lo ≤ x.length) && decide ((x.length : Int) ≤ hi)) && x.cps.toList.all fmC)
    rw [rest_all "fm" x fmC fm_mem]
  | _ => rfl
structure Df (P : Program) (w : World) (K : PySem.W.Frag) (mg : Str → Option Value) (base : Heap) (x : Str) (k : Nat) (ps : List Str) (sp : Sp) (f : Addr) (fd : FuncData) : Prop where
  gl : mg x = some (.ref f)
  ok : FnOk P w K mg base CX0 k f fd ps sp
  bi : Binds K fd ps []
  kp : PySem.W.keepIn K (.ref f) = true
theorem and_kind {K : PySem.W.Frag} {σ : L2.St} {H : Hp} {v : V} {t : String} {Qc : V → Hp → Prop} (o : Odd H v t) (e0 : σ[0]? = some (some v)) (k : ∀ H', Same H H' → Qc (.bl (kindV v)) H') :
    tAndV (tCB (rIsi K) (tCons (tVar 0) (tCons (tC (.ty "str")) tNil))) (tOp (rIn K false) (tVar 0) (tLst (tCons (tC (.str "s")) (tCons (tC (.str "d")) tNil)))) σ H Qc := by
  have ty := o.ty (K := K)
  cases o with
  | str x hx hs => exact ⟨_, e0, _, _, _, _, true, rfl, .ty _, ty, kit_ty (by decide +kernel), _, rfl, iteT ⟨_, e0, (by show 2 ≤ sizeLine; decide), fun q nq => ⟨q, _, rfl, .inl (SqL.of upd_same), rfl, rfl, k _ (same_upd nq)⟩⟩⟩
  | _ => exact ⟨_, e0, _, _, _, _, false, rfl, .ty _, ty, kit_ty (by decide +kernel), _, rfl, iteF (k _ (Same.refl _))⟩
abbrev nmQ : List Str := ["_law_thing", "_law_low", "_law_high", "_law_letters", "_law_told", "_law_due", "_law_k"]
theorem scQ : FnScope nmQ ["_law_thing", "_law_low", "_law_high"] (defScope sQuestions) := ⟨rfl, rfl, rfl, by decide +kernel, rfl, by decide +kernel, by decide +kernel⟩
def spQuest : Sp := fun vs H Q _ => ∃ (v : V) (t : String) (lo hi : Int), vs = [v, .int lo, .int hi] ∧ Odd H v t ∧ ∀ H', Same H H' → Q (.bl true) H'
theorem ok_quest {P : Program} {w : World} {K : PySem.W.Frag} {mg : Str → Option Value} {base : Heap} {f f1 f2 f3 f4 f5 f6 f7 : Addr} {fd fd1 fd2 fd3 fd4 fd5 fd6 fd7 : FuncData} (F : FnP K "_law_questions" sQuestions f fd)
    (zt : mg "str" = none) (zs : mg "isinstance" = none) (zb : mg "bool" = none) (zr : mg "range" = none)
    (d1 : Df P w K mg base "is_whole" 1 ["thing", "low", "high"] spWhole f1 fd1) (d2 : Df P w K mg base "is_name" 2 ["thing"] spName f2 fd2) (d3 : Df P w K mg base "is_label" 1 ["thing"] spLabel f3 fd3)
    (d4 : Df P w K mg base "is_kind" 1 ["thing"] spKind f4 fd4) (d5 : Df P w K mg base "is_way" 1 ["thing", "least", "most"] spWay f5 fd5)
    (d6 : Df P w K mg base "_law_is_number" 1 ["_law_thing", "_law_low", "_law_high"] spWhole f6 fd6) (d7 : Df P w K mg base "_law_only" 1 ["_law_thing", "_law_signs", "_law_least", "_law_most"] spOnly f7 fd7) :
    FnOk P w K mg base CX0 3 f fd ["_law_thing", "_law_low", "_law_high"] spQuest := by
  refine F.ok scQ (fun vs H Q E h => ?_) (fun cdv A outer s H vs Q E hr h => ?_)
  · obtain ⟨v, t, lo, hi, rfl, _⟩ := h
    rfl
  · obtain ⟨v, t, lo, hi, rfl, o, q⟩ := h
    have hr1 : Room 1 _ := hr.mono (by decide)
    refine ⟨_, PSs.nox (pss_cons (ps_set (i := 3) scQ.nd rfl (.inl rfl) pe_str)
      (pss_cons (ps_set (i := 4) scQ.nd rfl (.inl rfl) (pe_lst (pa_cons (pe_call d1.ok hr1 (by rfl) d1.gl d1.kp d1.bi .nil pass0 (pa_cons (pv 0) (pa_cons (pv 1) (pa_cons (pv 2) pa_nil))))
        (pa_cons (pe_call d2.ok hr (by rfl) d2.gl d2.kp d2.bi .nil pass0 (pa_cons (pv 0) pa_nil)) (pa_cons (pe_call d3.ok hr1 (by rfl) d3.gl d3.kp d3.bi .nil pass0 (pa_cons (pv 0) pa_nil))
        (pa_cons (pe_call d4.ok hr1 (by rfl) d4.gl d4.kp d4.bi .nil pass0 (pa_cons (pv 0) pa_nil)) (pa_cons (pe_call d5.ok hr1 (by rfl) d5.gl d5.kp d5.bi .nil pass0 (pa_cons (pv 0) (pa_cons (pv 1) (pa_cons (pv 2) pa_nil)))) pa_nil)))))))
      (pss_cons (ps_set (i := 5) scQ.nd rfl (.inl rfl) (pe_lst (pa_cons (pe_call d6.ok hr1 (by rfl) d6.gl d6.kp d6.bi .nil pass0 (pa_cons (pv 0) (pa_cons (pv 1) (pa_cons (pv 2) pa_nil))))
        (pa_cons (pe_call d6.ok hr1 (by rfl) d6.gl d6.kp d6.bi .nil pass0 (pa_cons (pv 0) (pa_cons pe_int (pa_cons (pe_op op_pow pe_int pe_int) pa_nil))))
        (pa_cons (pe_call d7.ok hr1 (by rfl) d7.gl d7.kp d7.bi .nil pass0 (pa_cons (pv 0) (pa_cons (pv 3) (pa_cons pe_int (pa_cons pe_int pa_nil)))))
        (pa_cons (pe_and (pe_callB call_isi (by rfl) zs (by decide +kernel) (pa_cons (pv 0) (pa_cons (pe_bltn (by rfl) zt (by decide +kernel) (v := .ty "str") rfl) pa_nil))) (pe_one (pe_cmpR op_in_seq (pv 0) (pe_lst (pa_cons pe_str (pa_cons pe_str pa_nil))) (by rfl))))
        (pa_cons (pe_call d7.ok hr1 (by rfl) d7.gl d7.kp d7.bi .nil pass0 (pa_cons (pv 0) (pa_cons pe_str (pa_cons (pv 1) (pa_cons (pv 2) pa_nil))))) pa_nil)))))))
      (pss_cons (ps_for PassesOwn.never rfl (pi_range1 (by rfl) zr (pa_cons pe_int pa_nil)) (pg_name (i := 6) scQ.nd rfl (.inl rfl))
        (pss_one (ps_if (PW.pt (pw_or (pt_not (pt_val (pe_callB call_isi (by rfl) zs (by decide +kernel) (pa_cons (pe_ix ix_list (pv 4) (pv 6) (fun _ _ => rfl)) (pa_cons (pe_bltn (by rfl) zb (by decide +kernel) (v := .ty "bool") rfl) pa_nil)))))
          (pw_or1 (pt_cmpR op_ne (pe_ix ix_list (pv 4) (pv 6) (fun _ _ => rfl)) (pe_ix ix_list (pv 5) (pv 6) (fun _ _ => rfl)) (nomark _))))) (pss_one (ps_ret pe_bl)) pss_nil)))
      (pss_one (ps_ret pe_bl)))))), ?_⟩
    -- what is told
    refine ⟨_, rfl, _, rfl, _, rfl, v, t, lo, hi, rfl, o, ?_⟩
    refine ⟨_, rfl, v, t, rfl, o, _, rfl, v, t, rfl, o, fun H1 s1 => ?_⟩
    refine ⟨_, rfl, v, t, rfl, o.same s1, _, rfl, _, rfl, _, rfl, v, t, lo, hi, rfl, o.same s1, fun H2 s2 => ⟨(by show 5 ≤ sizeLine; decide), fun p np => ?_⟩⟩
    have sp := same_upd (o := .lst [V.bl (wholeV v lo hi), .bl (wholeV v 0 (10 ^ 30)), .bl (labelV v), .bl (kindV v), .bl (wayV v lo hi)]) np
    have s3 := (s1.trans s2).trans sp
    have ep := upd_same (H := H2) (a := p) (o := .lst [V.bl (wholeV v lo hi), .bl (wholeV v 0 (10 ^ 30)), .bl (labelV v), .bl (kindV v), .bl (wayV v lo hi)])
    generalize upd H2 p (.lst [V.bl (wholeV v lo hi), .bl (wholeV v 0 (10 ^ 30)), .bl (labelV v), .bl (kindV v), .bl (wayV v lo hi)]) = H3 at sp s3 ep
    have o3 := o.same s3
    -- what is due
    refine ⟨_, rfl, _, rfl, _, rfl, v, t, lo, hi, rfl, o3, ?_⟩
    refine ⟨_, rfl, _, _, rfl, rfl, ⟨by decide, by decide, by decide⟩, v, t, 0, _, rfl, o3, ?_⟩
    refine ⟨_, rfl, _, rfl, v, t, lettersS, 1, 6, rfl, o3, fun H4 s4 => ?_⟩
    refine and_kind (o3.same s4) rfl fun H5 s5 => ?_
    have o5 := (o3.same s4).same s5
    refine ⟨_, rfl, _, rfl, _, rfl, v, t, "fm", lo, hi, rfl, o5, fun H6 s6 => ⟨(by show 5 ≤ sizeLine; decide), fun p2 np2 => ?_⟩⟩
    rw [label_only, way_only]
    have sq := same_upd (o := .lst [V.bl (wholeV v lo hi), .bl (wholeV v 0 (10 ^ 30)), .bl (labelV v), .bl (kindV v), .bl (wayV v lo hi)]) np2
    have ep1 := sq _ _ (s6 _ _ (s5 _ _ (s4 _ _ ep)))
    have ep2 := upd_same (H := H6) (a := p2) (o := .lst [V.bl (wholeV v lo hi), .bl (wholeV v 0 (10 ^ 30)), .bl (labelV v), .bl (kindV v), .bl (wayV v lo hi)])
    have s7 : Same H _ := (((s3.trans s4).trans s5).trans s6).trans sq
    change Same H (upd H6 p2 (.lst ([wholeV v lo hi, wholeV v 0 (10 ^ 30), labelV v, kindV v, wayV v lo hi].map V.bl))) at s7
    generalize hbs : [wholeV v lo hi, wholeV v 0 (10 ^ 30), labelV v, kindV v, wayV v lo hi] = bs
    have e1 : (upd H6 p2 (.lst (bs.map V.bl))) p = some (.lst (bs.map V.bl)) := by rw [← hbs]; exact ep1
    have e2 : (upd H6 p2 (.lst (bs.map V.bl))) p2 = some (.lst (bs.map V.bl)) := upd_same
    have hl : bs.length = 5 := by rw [← hbs]; rfl
    rw [hbs] at s7
    refine ⟨5, rfl, by decide, by decide, for_it walk_range (fun i σ H' => ∃ u : Option V, σ = [some v, some (.int lo), some (.int hi), some (.str lettersS), some (.ref p), some (.ref p2), u] ∧ Same (upd H6 p2 (.lst (bs.map V.bl))) H')
      ⟨none, rfl, by rw [← hbs]; exact Same.refl _⟩ (fun _ _ _ _ _ => trivial) ?_ ?_⟩
    · rintro k x σ H8 H9 hk ⟨u, rfl, s8⟩ ⟨rfl, rfl⟩
      have hk5 : k < bs.length := by
        rw [hl]
        exact hk
      have hat : atI (bs.map V.bl) (0 + (k : Int)) = some (.bl bs[k]) := by
        rw [Int.zero_add]
        exact atI_nat (by rw [List.getElem?_map, List.getElem?_eq_getElem hk5]; rfl)
      refine ⟨_, rfl, _, rfl, _, _, _, _, rfl, rfl, SqL.of (s8 _ _ e1), hat, _, _, _, _, true, rfl, .ty _, .base (.bl _), kit_ty (by decide +kernel), _, rfl, iteF ?_⟩
      refine ⟨_, rfl, _, rfl, _, _, _, _, rfl, rfl, SqL.of (s8 _ _ e1), hat, _, rfl, _, rfl, _, _, _, _, rfl, rfl, SqL.of (s8 _ _ e2), hat, rfl, _, rfl, ?_⟩
      refine iteNS rfl ?_
      exact ⟨_, rfl, s8⟩
    · rintro σ H8 ⟨u, rfl, s8⟩
      exact q _ (s7.trans s8)
end K03

/-! odd things are drawn -/
namespace K03
open PySem PySem.Spec PyProof.Rows L2
def Kept (p : Addr) (H H' : Hp) : Prop := ∀ b o, b ≠ p → H b = some o → H' b = some o
theorem Kept.upd {p : Addr} {H : Hp} {o : HO} : Kept p H (upd H p o) := fun b u n e => by
  rw [upd_ne n]
  exact e
theorem Kept.refl {p : Addr} {H : Hp} : Kept p H H := fun b u n e => e
theorem Kept.trans {p : Addr} {H H1 H2 : Hp} (a : Kept p H H1) (b : Kept p H1 H2) : Kept p H H2 := fun c o n e => b c o n (a c o n e)
theorem Kept.same {p : Addr} {H H1 : Hp} (a : Same H H1) : Kept p H H1 := fun c o _ e => a c o e
theorem Kept.seq {p : Addr} {H H1 : Hp} {K : PySem.W.Frag} {a : Addr} {xs : List V} (k : Kept p H H1) (n : a ≠ p) (h : SqL K H a xs) : SqL K H1 a xs := by
  rcases h with (h | ⟨o, h⟩) | h
  · exact .inl (.inl (k _ _ n h))
  · exact .inl (.inr ⟨o, k _ _ n h⟩)
  · exact .inr h
theorem hand_apart {H : Hp} {p l : Addr} {cells : List Int} {i r t : Int} (h : HandAt H p l cells i r t) : l ≠ p := fun z => by
  have h1 := h.1
  have h2 := h.2.1
  rw [z, h1] at h2
  have h3 := Option.some.inj h2
  injection h3 with h4
  have h5 := congrArg List.head? h4
  cases cells with
  | nil => cases h5
  | cons c cs => cases h5
theorem hand_upd {H : Hp} {p l : Addr} {cells : List Int} {i r t i' r' t' : Int} (h : HandAt H p l cells i r t) (o : HandOk cells i' r' t') : HandAt (upd H p (handO l i' r' t')) p l cells i' r' t' := by
  refine ⟨upd_same, ?_, o⟩
  rw [upd_ne (hand_apart h)]
  exact h.2.1
theorem hand_same {H H' : Hp} {p l : Addr} {cells : List Int} {i r t : Int} (h : HandAt H p l cells i r t) (s : Same H H') : HandAt H' p l cells i r t := ⟨s _ _ h.1, s _ _ h.2.1, h.2.2⟩
theorem callR_or {X : Cx} {f : Value} {r1 r2 : List V → Hp → VK → Prop} (h1 : CallR X f r1) (h2 : CallR X f r2) : CallR X f (fun xs H Q => r1 xs H Q ∨ r2 xs H Q) := fun pins s σ H xs us Q I rv h => h.elim (h1 pins s σ H xs us Q I rv) (h2 pins s σ H xs us Q I rv)
/-- a list's item, or a text's sign -/
def spPick (K : PySem.W.Frag) : Sp := fun vs H Q _ => ∃ (p l : Addr) (cells : List Int) (i r t : Int), HandAt H p l cells i r t ∧
  ((∃ (a : Addr) (xs : List V), vs = [.ref p, .ref a] ∧ SqL K H a xs ∧ a ≠ p ∧ 0 < xs.length ∧ xs.length ≤ 1000 ∧ ∀ (v : V) (i' r' t' : Int), v ∈ xs → HandOk cells i' r' t' → Q v (upd H p (handO l i' r' t'))) ∨
   (∃ z : Str, vs = [.ref p, .str z] ∧ 0 < z.length ∧ z.length ≤ 1000 ∧ ∀ (c : Nat) (i' r' t' : Int), c ∈ z.cps.toList → HandOk cells i' r' t' → Q (.str ⟨#[c]⟩) (upd H p (handO l i' r' t'))))
section
variable {P : Program} {w : World} {K : PySem.W.Frag} {mg : Str → Option Value} {base : Heap}
theorem scPick : FnScope ["_law_hand_here", "_law_things"] ["_law_hand_here", "_law_things"] (defScope sPick) := ⟨rfl, rfl, rfl, by decide +kernel, rfl, by decide +kernel, by decide +kernel⟩
theorem ok_pick {f fD : Addr} {fd fdD : FuncData} (F : FnP K "_law_pick" sPick f fd) (zl : mg "len" = none) (dD : Df P w K mg base "_law_draw" 2 ["_law_hand_here", "_law_many_here"] spDraw fD fdD) : FnOk P w K mg base CX0 3 f fd ["_law_hand_here", "_law_things"] (spPick K) := by
  refine F.ok scPick (fun vs H Q E h => ?_) (fun cdv A outer s H vs Q E hr h => ?_)
  · obtain ⟨p, l, cells, i, r, t, hh, (⟨a, xs, rfl, _⟩ | ⟨z, rfl, _⟩)⟩ := h <;> rfl
  · obtain ⟨p, l, cells, i, r, t, hh, h⟩ := h
    refine ⟨_, PSs.nox (pss_one (ps_ret (pe_ix ix_seq (pv 1) (pe_call dD.ok hr (by rfl) dD.gl dD.kp dD.bi .nil pass0 (pa_cons (pv 0) (pa_cons (pe_callB (callR_or call_len_seq call_len_str) (by rfl) zl boot_len (pa_cons (pv 1) pa_nil)) pa_nil))) (fun _ _ => rfl)))), ?_⟩
    rcases h with ⟨a, xs, rfl, hS, nap, h0, h1, q⟩ | ⟨z, rfl, h0, h1, q⟩
    · refine ⟨_, rfl, _, rfl, _, rfl, .inl ⟨_, _, rfl, .inl hS, p, l, cells, i, r, t, _, rfl, hh, by omega, ?_, fun d i' r' t' d0 d1 ok' => ?_⟩⟩
      · have e : ((xs.length : Int)).natAbs = xs.length := by omega
        rw [e]
        exact Nat.lt_of_le_of_lt h1 (Nat.lt_of_lt_of_le (m := 2 ^ 20) (by decide) (Nat.pow_le_pow_right (by decide) (by decide)))
      · have hd : d.toNat < xs.length := by omega
        have hget : atI xs d = some xs[d.toNat] := by
          have z := atI_nat (xs := xs) (j := d.toNat) (v := xs[d.toNat]) (List.getElem?_eq_getElem hd)
          rw [Int.toNat_of_nonneg d0] at z
          exact z
        exact .inl ⟨_, _, _, _, rfl, rfl, Kept.upd.seq nap hS, hget, q _ i' r' t' (List.getElem_mem hd) ok'⟩
    · refine ⟨_, rfl, _, rfl, _, rfl, .inr ⟨z, rfl, Nat.le_trans h1 (by decide), p, l, cells, i, r, t, _, rfl, hh, by omega, ?_, fun d i' r' t' d0 d1 ok' => ?_⟩⟩
      · have e : ((z.length : Int)).natAbs = z.length := by omega
        rw [e]
        exact Nat.lt_of_le_of_lt h1 (Nat.lt_of_lt_of_le (m := 2 ^ 20) (by decide) (Nat.pow_le_pow_right (by decide) (by decide)))
      · have hl : z.cps.toList.length = z.length := Array.length_toList
        have hd : d.toNat < z.cps.toList.length := by omega
        have hget : atI z.cps.toList d = some (z.cps.toList[d.toNat]) := by
          have y := atI_nat (xs := z.cps.toList) (j := d.toNat) (v := z.cps.toList[d.toNat]) (List.getElem?_eq_getElem hd)
          rw [Int.toNat_of_nonneg d0] at y
          exact y
        exact .inr (.inr ⟨z, d, _, rfl, rfl, Nat.le_trans h1 (by decide), hget, q _ i' r' t' (List.getElem_mem hd) ok'⟩)
/-! ### one odd thing -/
def OddK (p : Addr) (H : Hp) (v : V) (ty : String) : Prop := ∀ H' : Hp, Kept p H H' → Odd H' v ty
def spOdd : Sp := fun vs H Q _ => ∃ (p l : Addr) (cells : List Int) (i r t : Int), vs = [.ref p] ∧ HandAt H p l cells i r t ∧
  ∀ (v : V) (ty : String) (H' : Hp) (i' r' t' : Int), OddK p H' v ty → Kept p H H' → HandAt H' p l cells i' r' t' → Q v H'
def layS (x : Str) : Prop := (PyData.str x).canLay0 = true
theorem lay_app {x : Str} {c : Nat} (h : layS x) (hc : c < 0x110000) : layS (x ++ ⟨#[c]⟩) := by
  have h1 : x.cps.all (fun c => decide (c < 0x110000)) = true := h
  show (x.cps ++ #[c]).all (fun c => decide (c < 0x110000)) = true
  rw [← Array.all_toList] at h1 ⊢
  rw [Array.toList_append, List.all_append, h1, Bool.true_and]
  show (List.all [c] _) = true
  rw [List.all_cons, decide_eq_true hc]
  rfl
theorem len_app {x : Str} {c : Nat} : (x ++ (⟨#[c]⟩ : Str)).length = x.length + 1 := by
  show (x.cps ++ #[c]).size = x.cps.size + 1
  rw [Array.size_append]
  rfl
theorem same_upd2 {H : Hp} {a : Addr} {o u : HO} (h : H a = none) : Same H (upd (upd H a o) a u) := fun b x e => by
  rw [upd_ne (ne_of_none e h), upd_ne (ne_of_none e h)]
  exact e
abbrev wordsL : List V := [.str "", .str "s", .str "d", .str "f", .str "m", .str "fm", .str "sd", .str "S", .str "ffm", .str "mfmf", .str " "]
theorem small2 {m : Int} (h : m.natAbs < 2 ^ 200) : m.natAbs < 2 ^ 8000 := Nat.lt_of_lt_of_le h (Nat.pow_le_pow_right (by decide) (by decide))
theorem scOdd : FnScope ["_law_hand_here", "_law_sort", "_law_word", "_law_k"] ["_law_hand_here"] (defScope sOdd) := ⟨rfl, rfl, rfl, by decide +kernel, rfl, by decide +kernel, by decide +kernel⟩
theorem ok_odd {f fD fP : Addr} {fd fdD fdP : FuncData} (F : FnP K "_law_odd" sOdd f fd) (zr : mg "range" = none) (dD : Df P w K mg base "_law_draw" 2 ["_law_hand_here", "_law_many_here"] spDraw fD fdD) (dP : Df P w K mg base "_law_pick" 3 ["_law_hand_here", "_law_things"] (spPick K) fP fdP) :
    FnOk P w K mg base CX0 4 f fd ["_law_hand_here"] spOdd := by
  refine F.ok scOdd (fun vs H Q E h => ?_) (fun cdv A outer s H vs Q E hr h => ?_)
  · obtain ⟨p, l, cells, i, r, t, rfl, _⟩ := h
    rfl
  · obtain ⟨p, l, cells, i, r, t, rfl, hh, q⟩ := h
    have hr2 : Room 2 _ := hr.mono (by decide)
    refine ⟨_, PSs.nox (pss_cons (ps_set (i := 1) scOdd.nd rfl (.inl rfl) (pe_call dD.ok hr2 (by rfl) dD.gl dD.kp dD.bi .nil pass0 (pa_cons (pv 0) (pa_cons pe_int pa_nil))))
      (pss_cons (ps_if (pt_cmpR op_eq (pv 1) pe_int (nomark _)) (pss_one (ps_ret (pe_op op_sub (pe_call dD.ok hr2 (by rfl) dD.gl dD.kp dD.bi .nil pass0 (pa_cons (pv 0) (pa_cons (pe_op op_pow pe_int pe_int) pa_nil))) (pe_op op_pow pe_int pe_int)))) pss_nil)
      (pss_cons (ps_if (pt_cmpR op_eq (pv 1) pe_int (nomark _)) (pss_one (ps_ret (pe_op op_sub (pe_op op_add (pe_op op_pow pe_int pe_int) (pe_call dD.ok hr2 (by rfl) dD.gl dD.kp dD.bi .nil pass0 (pa_cons (pv 0) (pa_cons pe_int pa_nil)))) pe_int))) pss_nil)
      (pss_cons (ps_if (pt_cmpR op_eq (pv 1) pe_int (nomark _)) (pss_one (ps_ret (pe_op op_sub (pe_call dD.ok hr2 (by rfl) dD.gl dD.kp dD.bi .nil pass0 (pa_cons (pv 0) (pa_cons pe_int pa_nil))) pe_int))) pss_nil)
      (pss_cons (ps_if (pt_cmpR op_eq (pv 1) pe_int (nomark _)) (pss_one (ps_ret (pe_call dP.ok hr (by rfl) dP.gl dP.kp dP.bi .nil pass0 (pa_cons (pv 0) (pa_cons (pe_lst (pa_cons pe_bl (pa_cons pe_bl (pa_cons pe_non (pa_cons (pe_tup pa_nil) (pa_cons (pe_lst pa_nil)
          (pa_cons (pe_tup (pa_cons pe_str pa_nil)) (pa_cons (pe_disp (pps_cons pe_str pe_int pps_nil) (by rfl) (by rfl) (fun z => by cases z) (by decide)) pa_nil)))))))) pa_nil))))) pss_nil)
      (pss_cons (ps_if (pt_cmpR op_eq (pv 1) pe_int (nomark _)) (pss_one (ps_ret (pe_call dP.ok hr (by rfl) dP.gl dP.kp dP.bi .nil pass0 (pa_cons (pv 0) (pa_cons (pe_lst (pa_cons pe_str (pa_cons pe_str (pa_cons pe_str (pa_cons pe_str (pa_cons pe_str
          (pa_cons pe_str (pa_cons pe_str (pa_cons pe_str (pa_cons pe_str (pa_cons pe_str (pa_cons pe_str pa_nil)))))))))))) pa_nil))))) pss_nil)
      (pss_cons (ps_set (i := 2) scOdd.nd rfl (.inl rfl) pe_str)
      (pss_cons (ps_for PassesOwn.never rfl (pi_range1 (by rfl) zr (pa_cons (pe_call dD.ok hr2 (by rfl) dD.gl dD.kp dD.bi .nil pass0 (pa_cons (pv 0) (pa_cons pe_int pa_nil))) pa_nil)) (pg_name (i := 3) scOdd.nd rfl (.inl rfl))
        (pss_one (ps_set (i := 2) scOdd.nd rfl (.inl rfl) (pe_op op_add_str (pv 2) (pe_call dP.ok hr (by rfl) dP.gl dP.kp dP.bi .nil pass0 (pa_cons (pv 0) (pa_cons (pe_ifExp (pt_cmpR op_lt (pv 1) pe_int (nomark _)) pe_str pe_str) pa_nil)))))))
      (pss_one (ps_ret (pv 2))))))))))), ?_⟩
    refine ⟨_, rfl, p, l, cells, i, r, t, _, rfl, hh, by decide, by decide +kernel, fun d i1 r1 t1 d0 d1 ok1 => ?_⟩
    have hh1 := hand_upd hh ok1
    have kk : Kept p H (upd H p (handO l i1 r1 t1)) := Kept.upd
    generalize upd H p (handO l i1 r1 t1) = H1 at hh1 kk
    -- 0
    refine ⟨_, rfl, rfl, _, rfl, ite2 (fun e0 => ?_) (fun e0 => ?_)⟩
    · refine ⟨_, rfl, _, _, rfl, rfl, ⟨by decide, by decide, by decide⟩, p, l, cells, i1, r1, t1, _, rfl, hh1, by decide +kernel, small2 (by decide +kernel), fun d2 i2 r2 t2 d20 d21 ok2 => ?_⟩
      refine ⟨_, _, rfl, rfl, ⟨by decide, by decide, by decide⟩, _, _, rfl, rfl, ?_⟩
      exact q _ _ _ i2 r2 t2 (fun _ _ => .int _) (kk.trans Kept.upd) (hand_upd hh1 ok2)
    -- 1
    refine ⟨_, rfl, rfl, _, rfl, ite2 (fun e1 => ?_) (fun e1 => ?_)⟩
    · refine ⟨_, _, rfl, rfl, ⟨by decide, by decide, by decide⟩, _, rfl, p, l, cells, i1, r1, t1, _, rfl, hh1, by decide, by decide +kernel, fun d2 i2 r2 t2 d20 d21 ok2 => ?_⟩
      refine ⟨_, _, rfl, rfl, _, _, rfl, rfl, ?_⟩
      exact q _ _ _ i2 r2 t2 (fun _ _ => .int _) (kk.trans Kept.upd) (hand_upd hh1 ok2)
    -- 2
    refine ⟨_, rfl, rfl, _, rfl, ite2 (fun e2 => ?_) (fun e2 => ?_)⟩
    · refine ⟨_, rfl, p, l, cells, i1, r1, t1, _, rfl, hh1, by decide, by decide +kernel, fun d2 i2 r2 t2 d20 d21 ok2 => ?_⟩
      refine ⟨_, _, rfl, rfl, ?_⟩
      exact q _ _ _ i2 r2 t2 (fun _ _ => .int _) (kk.trans Kept.upd) (hand_upd hh1 ok2)
    -- 3
    refine ⟨_, rfl, rfl, _, rfl, ite2 (fun e3 => ?_) (fun e3 => ?_)⟩
    · refine ⟨_, rfl, Nat.zero_le _, fun a0 n0 => ⟨Nat.zero_le _, fun a1 n1 => ⟨(by show 1 ≤ sizeLine; decide), fun a2 n2 => fun a3 n3 => ⟨upd_same, [(Sum.inr "s", .int 1)], rfl, (by show 1 ≤ 15; decide), ⟨(by show 7 ≤ sizeLine; decide), fun a na => ?_⟩⟩⟩⟩⟩
      have s0 := same_upd (o := .tup []) n0
      have s1 := same_upd (o := .lst []) n1
      have s2 := same_upd (o := .tup [.str "s"]) n2
      have s3 := same_upd2 (o := .dK []) (u := .dK (mergeK [] [(Sum.inr "s", .int 1)])) n3
      have s4 := same_upd (o := .lst [.bl true, .bl false, .non, .ref a0, .ref a1, .ref a2, .ref a3]) na
      have sall := (((s0.trans s1).trans s2).trans s3).trans s4
      have m0 : a0 ≠ p := (ne_of_none hh1.1 n0).symm
      have m1 : a1 ≠ p := (ne_of_none (s0 _ _ hh1.1) n1).symm
      have m2 : a2 ≠ p := (ne_of_none (s1 _ _ (s0 _ _ hh1.1)) n2).symm
      have m3 : a3 ≠ p := (ne_of_none (s2 _ _ (s1 _ _ (s0 _ _ hh1.1))) n3).symm
      have nap : a ≠ p := (ne_of_none (s3 _ _ (s2 _ _ (s1 _ _ (s0 _ _ hh1.1)))) na).symm
      have g0 := s4 _ _ (s3 _ _ (s2 _ _ (s1 _ _ (upd_same (H := H1) (a := a0) (o := .tup [])))))
      have g1 := s4 _ _ (s3 _ _ (s2 _ _ (upd_same (a := a1) (o := .lst []))))
      have g2 := s4 _ _ (s3 _ _ (upd_same (a := a2) (o := .tup [.str "s"])))
      have g3 := s4 _ _ (upd_same (a := a3) (o := .dK (mergeK [] [(Sum.inr "s", .int 1)])))
      refine ⟨p, l, cells, i1, r1, t1, hand_same hh1 sall, .inl ⟨a, _, rfl, SqL.of upd_same, nap, (by show 0 < 7; decide), (by show 7 ≤ 1000; decide), fun v i2 r2 t2 hv ok2 => ?_⟩⟩
      have fin : ∀ ty, OddK p _ v ty → Q v _ := fun ty th => q v ty _ i2 r2 t2 th ((kk.trans (Kept.same sall)).trans Kept.upd) (hand_upd (hand_same hh1 sall) ok2)
      simp only [List.mem_cons, List.not_mem_nil, or_false] at hv
      rcases hv with rfl | rfl | rfl | rfl | rfl | rfl | rfl
      · exact fin _ (fun _ _ => .bl true)
      · exact fin _ (fun _ _ => .bl false)
      · exact fin _ (fun _ _ => .non)
      · exact fin _ (fun H' k => .tup (k _ _ m0 (Kept.upd _ _ m0 g0)))
      · exact fin _ (fun H' k => .lst (k _ _ m1 (Kept.upd _ _ m1 g1)))
      · exact fin _ (fun H' k => .tup (k _ _ m2 (Kept.upd _ _ m2 g2)))
      · exact fin _ (fun H' k => .dic (k _ _ m3 (Kept.upd _ _ m3 g3)))
    -- 4
    refine ⟨_, rfl, rfl, _, rfl, ite2 (fun e4 => ?_) (fun e4 => ?_)⟩
    · refine ⟨_, rfl, (by show 11 ≤ sizeLine; decide), fun a na => ?_⟩
      have nap : a ≠ p := (ne_of_none hh1.1 na).symm
      have hh2 := hand_same hh1 (same_upd (o := .lst wordsL) na)
      refine ⟨p, l, cells, i1, r1, t1, hh2, .inl ⟨a, _, rfl, SqL.of upd_same, nap, (by show 0 < 11; decide), (by show 11 ≤ 1000; decide), fun v i2 r2 t2 hv ok2 => ?_⟩⟩
      refine q v "str" _ i2 r2 t2 ?_ ((kk.trans (Kept.same (same_upd na))).trans Kept.upd) (hand_upd hh2 ok2)
      simp only [List.mem_cons, List.not_mem_nil, or_false] at hv
      rcases hv with rfl | rfl | rfl | rfl | rfl | rfl | rfl | rfl | rfl | rfl | rfl <;> exact fun _ _ => .str _ (by decide +kernel) (by decide +kernel)
    -- a word
    refine ⟨_, rfl, p, l, cells, i1, r1, t1, _, rfl, hh1, by decide, by decide +kernel, fun d2 i2 r2 t2 d20 d21 ok2 => ⟨d2, rfl, by omega, by omega,
      for_it walk_range (fun n σ H' => ∃ (x : Str) (u : Option V) (i' r' t' : Int), σ = [some (.ref p), some (.int d), some (.str x), u] ∧ x.length ≤ n ∧ layS x ∧ Kept p H H' ∧ HandAt H' p l cells i' r' t')
        ⟨"", none, i2, r2, t2, rfl, Nat.le_refl _, by unfold layS; decide +kernel, kk.trans Kept.upd, hand_upd hh1 ok2⟩ (fun _ _ _ _ _ => trivial) ?_ ?_⟩⟩
    · rintro n y σ H3 H4 hn ⟨x, u, i', r', t', rfl, hx, lx, k3, hh3⟩ ⟨rfl, rfl⟩
      have hn9 : n < 9 := by omega
      have lit1 : ∀ c ∈ ("fmsdazbyn" : Str).cps.toList, c < 0x110000 := by decide +kernel
      have lit2 : ∀ c ∈ ("fmsdaz AB1-_" : Str).cps.toList, c < 0x110000 := by decide +kernel
      have nx : ∀ (c : Nat) (i3 r3 t3 : Int), c < 0x110000 → HandOk cells i3 r3 t3 → x.length + (⟨#[c]⟩ : Str).length ≤ sizeLine ∧
          ∃ (x' : Str) (u : Option V) (i' r' t' : Int), [some (V.ref p), some (V.int d), some (V.str (x ++ ⟨#[c]⟩)), some (V.int (0 + (n : Int)))] = [some (.ref p), some (.int d), some (.str x'), u] ∧ x'.length ≤ n + 1 ∧ layS x' ∧ Kept p H (upd H4 p (handO l i3 r3 t3)) ∧ HandAt (upd H4 p (handO l i3 r3 t3)) p l cells i' r' t' := fun c i3 r3 t3 hc ok3 => by
        refine ⟨?_, _, _, i3, r3, t3, rfl, ?_, lay_app lx hc, k3.trans Kept.upd, hand_upd hh3 ok3⟩
        · show x.length + 1 ≤ sizeLine
          exact Nat.le_trans (show x.length + 1 ≤ 10 by omega) (by decide)
        · rw [len_app]
          omega
      refine ⟨_, rfl, _, rfl, _, rfl, _, _, rfl, rfl, _, rfl, ?_⟩
      refine ite2 (fun g => ?_) (fun g => ?_)
      · refine ⟨p, l, cells, i', r', t', hh3, .inr ⟨_, rfl, by decide +kernel, by decide +kernel, fun c i3 r3 t3 hc ok3 => ?_⟩⟩
        obtain ⟨z1, z2⟩ := nx c i3 r3 t3 (lit1 c hc) ok3
        exact ⟨_, _, rfl, rfl, z1, z2⟩
      · refine ⟨p, l, cells, i', r', t', hh3, .inr ⟨_, rfl, by decide +kernel, by decide +kernel, fun c i3 r3 t3 hc ok3 => ?_⟩⟩
        obtain ⟨z1, z2⟩ := nx c i3 r3 t3 (lit2 c hc) ok3
        exact ⟨_, _, rfl, rfl, z1, z2⟩
    · rintro σ H3 ⟨x, u, i', r', t', rfl, hx, lx, k3, hh3⟩
      refine ⟨_, rfl, ?_⟩
      exact q (.str x) "str" H3 i' r' t' (fun _ _ => .str x (by omega) lx) k3 hh3
end
end K03

/-! many rows are made -/
namespace K03
open PySem PySem.Spec PyProof.Rows L2
def lab (n : Nat) : Str := ⟨#[97 + n / 676 % 26, 97 + n / 26 % 26, 97 + n % 26]⟩
theorem atI_letters {i : Int} (h0 : 0 ≤ i) (h1 : i < 26) : atI lettersS.cps.toList i = some (97 + i.toNat) := by
  have z := atI_nat (xs := lettersS.cps.toList) (j := i.toNat) (v := 97 + i.toNat) (by
    rw [letters_are, List.getElem?_map, List.getElem?_range (by omega)]
    show some (i.toNat + 97) = some (97 + i.toNat)
    rw [Nat.add_comm])
  rw [Int.toNat_of_nonneg h0] at z
  exact z
def spLong : Sp := fun vs H Q _ => ∃ n : Nat, vs = [.int (n : Int)] ∧ Q (.str (lab n)) H
/-- a founder's row, a son, of no house name -/
def RowAt (H : Hp) (t : Addr) (lb : Str) (i : Nat) : Prop := ∃ e : Addr, H t = some (.tup [.str "comes", .str lb, .str "s", .int (i : Int), .ref e]) ∧ H e = some (.tup [])
def RowsAt (H : Hp) (ts : List Addr) (lb : Nat → Str) : Prop := ∀ (i : Nat) (t : Addr), ts[i]? = some t → RowAt H t (lb i) i
theorem RowsAt.same {H H' : Hp} {ts : List Addr} {lb : Nat → Str} (r : RowsAt H ts lb) (s : Same H H') : RowsAt H' ts lb := fun i t h => by
  obtain ⟨e, h1, h2⟩ := r i t h
  exact ⟨e, s _ _ h1, s _ _ h2⟩
def spMany : Sp := fun vs H Q _ => ∃ n : Nat, vs = [.int (n : Int)] ∧ n ≤ 5010 ∧
  ∀ (H' : Hp) (a : Addr) (ts : List Addr), Same H H' → H a = none → ts.length = n → H' a = some (.lst (ts.map V.ref)) → RowsAt H' ts lab → Q (.ref a) H'
section
variable {P : Program} {w : World} {K : PySem.W.Frag} {mg : Str → Option Value} {base : Heap}
theorem scLong : FnScope ["_law_k", "_law_letters"] ["_law_k"] (defScope sLongLabel) := ⟨rfl, rfl, rfl, by decide +kernel, rfl, by decide +kernel, by decide +kernel⟩
theorem ok_long {f : Addr} {fd : FuncData} (F : FnP K "_law_long_label" sLongLabel f fd) : FnOk P w K mg base CX0 1 f fd ["_law_k"] spLong := by
  refine F.ok scLong (fun vs H Q E h => ?_) (fun cdv A outer s H vs Q E hr h => ?_)
  · obtain ⟨n, rfl, _⟩ := h
    rfl
  · obtain ⟨n, rfl, q⟩ := h
    refine ⟨_, PSs.nox (pss_cons (ps_set (i := 1) scLong.nd rfl (.inl rfl) pe_str)
      (pss_one (ps_ret (pe_op op_add_str (pe_op op_add_str (pe_ix ix_str (pv 1) (pe_op op_mod (pe_op op_fdiv (pv 0) pe_int) pe_int) (fun _ _ => rfl)) (pe_ix ix_str (pv 1) (pe_op op_mod (pe_op op_fdiv (pv 0) pe_int) pe_int) (fun _ _ => rfl)))
        (pe_ix ix_str (pv 1) (pe_op op_mod (pv 0) pe_int) (fun _ _ => rfl)))))), ?_⟩
    have sz : lettersS.length ≤ sizeLine := by decide +kernel
    refine ⟨_, rfl, _, rfl, _, _, rfl, rfl, ⟨by decide, by decide⟩, _, _, rfl, rfl, (by show (0 : Int) < 26; decide), _, _, _, rfl, rfl, sz, atI_letters (Int.emod_nonneg _ (by decide)) (Int.emod_lt_of_pos _ (by decide)), ?_⟩
    refine ⟨_, rfl, _, rfl, _, _, rfl, rfl, ⟨by decide, by decide⟩, _, _, rfl, rfl, (by show (0 : Int) < 26; decide), _, _, _, rfl, rfl, sz, atI_letters (Int.emod_nonneg _ (by decide)) (Int.emod_lt_of_pos _ (by decide)), _, _, rfl, rfl, (by show 1 + 1 ≤ sizeLine; decide), ?_⟩
    refine ⟨_, rfl, _, rfl, _, _, rfl, rfl, (by show (0 : Int) < 26; decide), _, _, _, rfl, rfl, sz, atI_letters (Int.emod_nonneg _ (by decide)) (Int.emod_lt_of_pos _ (by decide)), _, _, rfl, rfl, (by show 2 + 1 ≤ sizeLine; decide), ?_⟩
    rw [show ((n : Int) / 676 % 26).toNat = n / 676 % 26 by omega, show ((n : Int) / 26 % 26).toNat = n / 26 % 26 by omega, show ((n : Int) % 26).toNat = n % 26 by omega]
    exact q
theorem scMany : FnScope ["_law_many_here", "_law_k"] ["_law_many_here"] (defScope sMany) := ⟨rfl, rfl, rfl, by decide +kernel, rfl, by decide +kernel, by decide +kernel⟩
theorem ok_many {f fL : Addr} {fd fdL : FuncData} (F : FnP K "_law_many" sMany f fd) (zr : mg "range" = none) (dL : Df P w K mg base "_law_long_label" 1 ["_law_k"] spLong fL fdL) : FnOk P w K mg base CX0 2 f fd ["_law_many_here"] spMany := by
  refine F.ok scMany (fun vs H Q E h => ?_) (fun cdv A outer s H vs Q E hr h => ?_)
  · obtain ⟨n, rfl, _⟩ := h
    rfl
  · obtain ⟨n, rfl, hn, q⟩ := h
    refine ⟨_, PSs.nox (pss_one (ps_ret (pe_lc (own := [("_law_k", 1)]) (g := gName 1) (tt := tYes) rfl scMany.nd (pi_range1 (by rfl) zr (pa_cons (pv 0) pa_nil)) (blkOk_by (N := ["_law_many_here", "_law_k"]) (sc := defScope sMany) (by decide +kernel))
      (fun _ _ _ _ _ => pg_name (i := 1) scMany.nd rfl (Or.inl rfl)) (fun _ _ _ _ _ => pts_nil)
      (fun _ _ _ _ _ => pe_tup (pa_cons pe_str (pa_cons (pe_call dL.ok hr (by rfl) dL.gl dL.kp dL.bi .nil pass0 (pa_cons (pv 1) pa_nil)) (pa_cons pe_str (pa_cons (pv 1) (pa_cons (pe_tup pa_nil) pa_nil))))))))), ?_⟩
    refine ⟨_, rfl, (n : Int), rfl, by omega, by omega, fun D nD => lc_it walk_range (fun i H' => ∃ ts : List Addr, ts.length = i ∧ Same H H' ∧ H' D = some (.lst (ts.map V.ref)) ∧ RowsAt H' ts lab) ⟨[], rfl, same_upd nD, upd_same, fun i t h => by cases h⟩ (fun _ _ _ _ => trivial) ?_ ?_⟩
    · rintro i y H2 H3 hi ⟨ts, hl, s2, eD, rows⟩ ⟨rfl, rfl⟩
      have hi' : i < n := by omega
      refine ⟨rfl, ?_⟩
      refine ⟨_, rfl, i, by show [V.int (0 + (i : Int))] ++ [] = [V.int (i : Int)]; rw [Int.zero_add]; rfl, _, rfl, (Nat.zero_le _), fun e ne => ⟨(by show 5 ≤ sizeLine; decide), fun t nt => ?_⟩⟩
      have se := same_upd (o := .tup []) ne
      have st := same_upd (o := .tup [.str "comes", .str (lab i), .str "s", .int (0 + (i : Int)), .ref e]) nt
      have eD2 := st _ _ (se _ _ eD)
      have nDt : D ≠ t := ne_of_none (se _ _ eD) nt
      have nDe : D ≠ e := ne_of_none eD ne
      refine ⟨_, eD2, ?_, ts ++ [t], by rw [List.length_append, hl]; rfl, fun b o h => ?_, by rw [upd_same, List.map_append]; rfl, fun j u hj => ?_⟩
      · rw [List.length_map, hl]
        exact Nat.lt_of_lt_of_le hi' (Nat.le_trans hn (by decide))
      · rw [upd_ne (ne_of_none h nD)]
        exact st _ _ (se _ _ (s2 _ _ h))
      · have net : e ≠ t := ne_of_none upd_same nt
        by_cases hlt : j < ts.length
        · rw [List.getElem?_append_left hlt] at hj
          obtain ⟨e', h1, h2⟩ := rows j u hj
          refine ⟨e', ?_, ?_⟩
          · rw [upd_ne (ne_of h1 eD (by intro z; cases z))]
            exact st _ _ (se _ _ h1)
          · rw [upd_ne (ne_of h2 eD (by intro z; cases z))]
            exact st _ _ (se _ _ h2)
        · have ej : j = ts.length := by
            have z := (List.getElem?_eq_some_iff.mp hj).1
            rw [List.length_append] at z
            have z2 : ([t] : List Addr).length = 1 := rfl
            omega
          subst ej
          rw [List.getElem?_append_right (Nat.le_refl _), Nat.sub_self] at hj
          have eu := Option.some.inj hj
          subst eu
          refine ⟨e, ?_, ?_⟩
          · rw [upd_ne (Ne.symm nDt), upd_same, hl]; show some (HO.tup [_, _, _, V.int (0 + (i : Int)), V.ref e]) = _; rw [Int.zero_add]
          · rw [upd_ne (Ne.symm nDe), upd_ne net, upd_same]
    · rintro H2 ⟨ts, hl, s2, eD, rows⟩
      exact q H2 D ts s2 nD (by rw [hl]; omega) eD rows
end
end K03

/-! is it a row -/
namespace K03
open PySem PySem.Spec PyProof.Rows L2
/-- what a row may be here: None, or a founder's row -/
inductive RowV (H : Hp) : V → Bool → Prop where
  | non : RowV H .non false
  | row {t : Addr} {lb : Str} {i : Nat} (r : RowAt H t lb i) (hi : i ≤ 10 ^ 30) (hl : lb.length ≤ 6) (hc : (PyData.str lb).canLay0 = true) (hb : labelV (.str lb) = true) : RowV H (.ref t) true
def spNames : Sp := fun vs H Q _ => ∃ e : Addr, vs = [.ref e] ∧ H e = some (.tup []) ∧ ∀ H', Same H H' → Q (.bl true) H'
def spRow : Sp := fun vs H Q _ => ∃ (v : V) (b : Bool), vs = [v] ∧ RowV H v b ∧ ∀ H', Same H H' → Q (.bl b) H'
section
variable {P : Program} {w : World} {K : PySem.W.Frag} {mg : Str → Option Value} {base : Heap}
theorem whole_nat {i : Nat} (hi : i ≤ 10 ^ 30) : wholeV (.int (i : Int)) 0 (10 ^ 30) = true := by
  have e : ∀ (x lo hi : Int), wholeV (.int x) lo hi = (decide (lo ≤ x) && decide (x ≤ hi)) := fun _ _ _ => rfl
  rw [e, decide_eq_true (Int.natCast_nonneg i), decide_eq_true (show (i : Int) ≤ 10 ^ 30 by omega)]
  rfl
theorem scNames : FnScope ["thing", "name"] ["thing"] (defScope sPAreNames) := ⟨rfl, rfl, rfl, by decide +kernel, rfl, by decide +kernel, by decide +kernel⟩
theorem ok_names {f fS fN : Addr} {fd fdS fdN : FuncData} (F : FnP K "_are_names" sPAreNames f fd) (za : mg "all" = none) (dS : Df P w K mg base "is_sequence" 1 ["thing"] spSeq fS fdS) (dN : Df P w K mg base "is_name" 2 ["thing"] spName fN fdN) :
    FnOk P w K mg base CX0 3 f fd ["thing"] spNames := by
  refine F.ok scNames (fun vs H Q E h => ?_) (fun cdv A outer s H vs Q E hr h => ?_)
  · obtain ⟨e, rfl, _⟩ := h
    rfl
  · obtain ⟨e, rfl, he, q⟩ := h
    refine ⟨_, PSs.nox (pss_one (ps_ret (pe_and (pe_call dS.ok (hr.mono (by decide)) (by rfl) dS.gl dS.kp dS.bi .nil pass0 (pa_cons (pv 0) pa_nil))
      (pe_one (pe_callB (cr_all rfl) (by rfl) za (by decide +kernel) (pa_cons (pe_lc (own := [("name", 1)]) (g := gName 1) (tt := tYes) rfl scNames.nd (pi_tup (pv 0)) (blkOk_by (N := ["thing", "name"]) (sc := defScope sPAreNames) (by decide +kernel))
          (fun _ _ _ _ _ => pg_name (i := 1) scNames.nd rfl (Or.inl rfl)) (fun _ _ _ _ _ => pts_nil) (fun _ _ _ _ _ => pe_call dN.ok hr (by rfl) dN.gl dN.kp dN.bi .nil pass0 (pa_cons (pv 1) pa_nil))) pa_nil)))))), ?_⟩
    refine ⟨_, rfl, _, "tuple", rfl, .tup he, fun p np => ?_⟩
    have sp := same_upd (o := .tup [.ty "list", .ty "tuple"]) np
    refine ⟨true, rfl, iteT ⟨_, rfl, e, rfl, ⟨[], SqT.of (sp _ _ he)⟩, fun D nD => lc_it (walk_tup (xs := [])) (fun i H' => Same H H' ∧ H' D = some (.lst []) ∧ H' e = some (.tup [])) ⟨sp.trans (same_upd nD), upd_same, same_upd nD _ _ (sp _ _ he)⟩ (fun _ _ _ h => SqT.of h.2.2) (fun i _ _ _ hi => absurd hi (Nat.not_lt_zero i)) ?_⟩⟩
    rintro H2 ⟨s2, eD, _⟩
    exact ⟨D, [], rfl, SqL.of eD, q H2 s2⟩
theorem scRow : FnScope ["row", "labels"] ["row"] (defScope sPIsRow) := ⟨rfl, rfl, rfl, by decide +kernel, rfl, by decide +kernel, by decide +kernel⟩
theorem ok_row {f fS fL fK fN fA : Addr} {fd fdS fdL fdK fdN fdA : FuncData} (F : FnP K "is_row" sPIsRow f fd) (zi : mg "isinstance" = none) (zs : mg "str" = none) (zl : mg "len" = none)
    (dS : Df P w K mg base "is_sequence" 1 ["thing"] spSeq fS fdS) (dL : Df P w K mg base "is_label" 1 ["thing"] spLabel fL fdL) (dK : Df P w K mg base "is_kind" 1 ["thing"] spKind fK fdK)
    (dN : Df P w K mg base "is_name" 2 ["thing"] spName fN fdN) (dA : Df P w K mg base "_are_names" 3 ["thing"] spNames fA fdA) : FnOk P w K mg base CX0 4 f fd ["row"] spRow := by
  refine F.ok scRow (fun vs H Q E h => ?_) (fun cdv A outer s H vs Q E hr h => ?_)
  · obtain ⟨v, b, rfl, _⟩ := h
    rfl
  · obtain ⟨v, b, rfl, o, q⟩ := h
    refine ⟨_, PSs.nox (pss_cons (ps_if (PW.pt (pw_or (pt_not (pt_val (pe_call dS.ok (hr.mono (by decide)) (by rfl) dS.gl dS.kp dS.bi .nil pass0 (pa_cons (pv 0) pa_nil))))
        (pw_or (pt_not (pt_truth (pv 0) (fun _ => rfl))) (pw_or1 (pt_not (pt_val (pe_callB call_isi (by rfl) zi (by decide +kernel) (pa_cons (pe_ix ix_tup (pv 0) pe_int (fun _ _ => rfl)) (pa_cons (pe_bltn (by rfl) zs (by decide +kernel) (v := .ty "str") rfl) pa_nil))))))))) (pss_one (ps_ret pe_bl)) pss_nil)
      (pss_cons (ps_if (pt_cmpR op_eq (pe_ix ix_tup (pv 0) pe_int (fun _ _ => rfl)) pe_str (nomark _))
        (pss_one (ps_ret (pe_and (pe_cmpR op_eq (pe_callB call_len_seq (by rfl) zl boot_len (pa_cons (pv 0) pa_nil)) pe_int (by rfl))
          (pe_and (pe_call dL.ok (hr.mono (by decide)) (by rfl) dL.gl dL.kp dL.bi .nil pass0 (pa_cons (pe_ix ix_tup (pv 0) pe_int (fun _ _ => rfl)) pa_nil))
          (pe_and (pe_call dK.ok (hr.mono (by decide)) (by rfl) dK.gl dK.kp dK.bi .nil pass0 (pa_cons (pe_ix ix_tup (pv 0) pe_int (fun _ _ => rfl)) pa_nil))
          (pe_and (pe_call dN.ok (hr.mono (by decide)) (by rfl) dN.gl dN.kp dN.bi .nil pass0 (pa_cons (pe_ix ix_tup (pv 0) pe_int (fun _ _ => rfl)) pa_nil))
          (pe_one (pe_call dA.ok hr (by rfl) dA.gl dA.kp dA.bi .nil pass0 (pa_cons (pe_ix ix_tup (pv 0) pe_int (fun _ _ => rfl)) pa_nil)))))))))
        pss_nil) pss_never)), ?_⟩
    cases o with
    | non =>
      refine ⟨_, rfl, _, _, rfl, .non, fun p np => ?_⟩
      exact ⟨_, rfl, iteT (q _ (same_upd np))⟩
    | row r hi hl hc hb =>
      obtain ⟨e, ht, he⟩ := r
      refine ⟨_, rfl, _, _, rfl, .tup ht, fun p np => ?_⟩
      have sp := same_upd (o := .tup [.ty "list", .ty "tuple"]) np
      have ht' := sp _ _ ht
      have he' := sp _ _ he
      refine ⟨_, rfl, iteF ⟨_, rfl, true, .inr (.inl ⟨_, SqT.of ht', rfl⟩), iteF ?_⟩⟩
      refine ⟨_, rfl, _, _, _, _, rfl, rfl, SqT.of ht', rfl, _, _, _, _, true, rfl, .ty _, .base (.str _), kit_ty (by decide +kernel), _, rfl, iteF ?_⟩
      refine ⟨_, rfl, _, _, _, _, rfl, rfl, SqT.of ht', rfl, rfl, _, rfl, iteT ?_⟩
      refine ⟨_, rfl, _, _, rfl, .inr (SqT.of ht'), rfl, true, rfl, iteT ?_⟩
      refine ⟨_, rfl, _, _, _, _, rfl, rfl, SqT.of ht', rfl, _, _, rfl, .str _ (Nat.le_trans hl (by decide)) hc, fun H1 s1 => ?_⟩
      refine ⟨true, by rw [hb], iteT ?_⟩
      have ht1 := s1 _ _ ht'
      refine ⟨_, rfl, _, _, _, _, rfl, rfl, SqT.of ht1, rfl, _, _, rfl, .str _ (by decide +kernel) (by decide +kernel), true, rfl, iteT ?_⟩
      refine ⟨_, rfl, _, _, _, _, rfl, rfl, SqT.of ht1, rfl, _, _, rfl, .int _, true, ?_, iteT ?_⟩
      · rw [whole_nat hi]
      refine ⟨_, rfl, _, _, _, _, rfl, rfl, SqT.of ht1, rfl, e, rfl, s1 _ _ he', fun H2 s2 => ?_⟩
      exact q H2 ((sp.trans s1).trans s2)
end
end K03

/-! the book: its making, a founder's row written -/
namespace K03
open PySem PySem.Spec PyProof.Rows L2
abbrev sBInit : Stmt := inClass (top 18) 0
abbrev sBWrite : Stmt := inClass (top 18) 2
abbrev sBBring : Stmt := inClass (top 18) 3
/-- the class of books -/
structure BookC (K : PySem.W.Frag) (CB : Addr) : Prop where
  cl : Cls K CB
  nKinds : NoAttr K CB "kinds"
  nParents : NoAttr K CB "parents"
  nRows : NoAttr K CB "row_numbers"
  nDead : NoAttr K CB "dead"
  nNow : NoAttr K CB "mate_now"
  nAll : NoAttr K CB "all_mates"
  nKids : NoAttr K CB "children"
abbrev bookF (k p r d m a c : Addr) : List (Str × V) := [("kinds", .ref k), ("parents", .ref p), ("row_numbers", .ref r), ("dead", .ref d), ("mate_now", .ref m), ("all_mates", .ref a), ("children", .ref c)]
def kindsL (lb : Nat → Str) (n : Nat) : List (Key × V) := (List.range n).map fun j => (Sum.inr (lb j), .str "s")
/-- a book behind n founders -/
structure BookAt (CB : Addr) (lb : Nat → Str) (n : Nat) (H : Hp) (b dx k p r d m a c : Addr) (rs as : List (Key × V)) : Prop where
  hb : H b = some (.ins CB dx (bookF k p r d m a c))
  nd : [k, p, r, d, m, a, c].Nodup
  hk : H k = some (.dK (kindsL lb n))
  hp : H p = some (.dK [])
  hr : H r = some (.dK rs)
  hd : H d = some (.dK [])
  hm : H m = some (.dK [])
  ha : H a = some (.dK as)
  hc : H c = some (.dK [])
  lr : rs.length ≤ n
  la : as.length ≤ n
def Ini (H0 H : Hp) (b CB dx : Addr) (fs : List (Str × V)) (as : List Addr) : Prop :=
  H b = some (.ins CB dx fs) ∧ as.Nodup ∧ (∀ x ∈ as, H x = some (.dK []) ∧ H0 x = none) ∧ ∀ x o, H0 x = some o → x ≠ b → H x = some o
theorem Ini.put {H0 H : Hp} {b CB dx p : Addr} {fs fs' : List (Str × V)} {as : List Addr} (I : Ini H0 H b CB dx fs as) (np : H p = none) : Ini H0 (upd (upd H p (.dK [])) b (.ins CB dx fs')) b CB dx fs' (as ++ [p]) := by
  obtain ⟨h1, h2, h3, h4⟩ := I
  have npb : p ≠ b := Ne.symm (ne_of_none h1 np)
  refine ⟨upd_same, List.nodup_append.mpr ⟨h2, List.nodup_cons.mpr ⟨by simp, List.nodup_nil⟩, fun x hx y hy e => ?_⟩, fun x hx => ?_, fun x o e ne => ?_⟩
  · rw [List.mem_singleton] at hy
    subst hy
    subst e
    rw [(h3 _ hx).1] at np
    cases np
  · rcases List.mem_append.mp hx with h | h
    · obtain ⟨e, e0⟩ := h3 x h
      refine ⟨?_, e0⟩
      rw [upd_ne (ne_of e h1 (by intro z; cases z)), upd_ne (ne_of_none e np)]
      exact e
    · rw [List.mem_singleton] at h
      subst h
      refine ⟨by rw [upd_ne npb, upd_same], ?_⟩
      cases e : H0 x with
      | none => rfl
      | some o =>
        rw [h4 x o e npb] at np
        cases np
  · rw [upd_ne ne, upd_ne (ne_of_none (h4 x o e ne) np)]
    exact h4 x o e ne
theorem Ini.at_ {H0 H : Hp} {b CB dx p : Addr} {fs : List (Str × V)} {as : List Addr} (I : Ini H0 H b CB dx fs as) (np : H p = none) : upd H p (.dK []) b = some (.ins CB dx fs) := by
  rw [upd_ne (ne_of_none I.1 np)]
  exact I.1
def spBInit (CB : Addr) : Sp := fun vs H Q _ => ∃ (b dx : Addr) (lb : Nat → Str), vs = [.ref b] ∧ H b = some (.ins CB dx []) ∧
  ∀ (H' : Hp) (k p r d m a c : Addr), BookAt CB lb 0 H' b dx k p r d m a c [] [] → (∀ x o, H x = some o → x ≠ b → H' x = some o) → H k = none → H r = none → H a = none → Q .non H'
section
variable {P : Program} {w : World} {K : PySem.W.Frag} {mg : Str → Option Value} {base : Heap}
theorem scBInit : FnScope ["self"] ["self"] (defScope sBInit) := ⟨rfl, rfl, rfl, by decide +kernel, rfl, by decide +kernel, by decide +kernel⟩
theorem ok_binit {f CB : Addr} {fd : FuncData} (F : FunD K "__init__" "Book.__init__" (defArgs sBInit) (defBody sBInit) (defScope sBInit) [] [] f fd) (T : BookC K CB) : FnOk P w K mg base CX0 1 f fd ["self"] (spBInit CB) := by
  refine F.ok scBInit (fun vs H Q E h => ?_) (fun cdv A outer s H vs Q E hr h => ?_)
  · obtain ⟨b, dx, lb, rfl, _⟩ := h
    rfl
  · obtain ⟨b, dx, lb, rfl, hb, q⟩ := h
    refine ⟨_, PSs.nox (pss_cons (ps_fld (pv 0) pe_dnewK rfl) (pss_cons (ps_fld (pv 0) pe_dnewK rfl) (pss_cons (ps_fld (pv 0) pe_dnewK rfl) (pss_cons (ps_fld (pv 0) pe_dnewK rfl) (pss_cons (ps_fld (pv 0) pe_dnewK rfl) (pss_cons (ps_fld (pv 0) pe_dnewK rfl) (pss_one (ps_fld (pv 0) pe_dnewK rfl)))))))), ?_⟩
    have I0 : Ini H H b CB dx [] [] := ⟨hb, List.nodup_nil, (fun _ h => by cases h), fun _ _ e _ => e⟩
    intro k nk
    have I1 := I0.put (fs' := putF "kinds" (.ref k) []) nk
    refine ⟨_, rfl, b, CB, dx, _, rfl, I0.at_ nk, T.cl, T.nKinds, by decide, ?_⟩
    intro p np
    have I2 := I1.put (fs' := putF "parents" (.ref p) (putF "kinds" (.ref k) [])) np
    refine ⟨_, rfl, b, CB, dx, _, rfl, I1.at_ np, T.cl, T.nParents, (show 1 < 1000 by decide), ?_⟩
    intro r nr
    have I3 := I2.put (fs' := putF "row_numbers" (.ref r) (putF "parents" (.ref p) (putF "kinds" (.ref k) []))) nr
    refine ⟨_, rfl, b, CB, dx, _, rfl, I2.at_ nr, T.cl, T.nRows, (show 2 < 1000 by decide), ?_⟩
    intro d nd
    have I4 := I3.put (fs' := putF "dead" (.ref d) (putF "row_numbers" (.ref r) (putF "parents" (.ref p) (putF "kinds" (.ref k) [])))) nd
    refine ⟨_, rfl, b, CB, dx, _, rfl, I3.at_ nd, T.cl, T.nDead, (show 3 < 1000 by decide), ?_⟩
    intro m nm
    have I5 := I4.put (fs' := putF "mate_now" (.ref m) (putF "dead" (.ref d) (putF "row_numbers" (.ref r) (putF "parents" (.ref p) (putF "kinds" (.ref k) []))))) nm
    refine ⟨_, rfl, b, CB, dx, _, rfl, I4.at_ nm, T.cl, T.nNow, (show 4 < 1000 by decide), ?_⟩
    intro a na
    have I6 := I5.put (fs' := putF "all_mates" (.ref a) (putF "mate_now" (.ref m) (putF "dead" (.ref d) (putF "row_numbers" (.ref r) (putF "parents" (.ref p) (putF "kinds" (.ref k) [])))))) na
    refine ⟨_, rfl, b, CB, dx, _, rfl, I5.at_ na, T.cl, T.nAll, (show 5 < 1000 by decide), ?_⟩
    intro c nc
    have I7 := I6.put (fs' := bookF k p r d m a c) nc
    refine ⟨_, rfl, b, CB, dx, _, rfl, I6.at_ nc, T.cl, T.nKids, (show 6 < 1000 by decide), ?_⟩
    obtain ⟨h1, h2, h3, h4⟩ := I7
    exact q _ k p r d m a c ⟨h1, h2, (h3 k (by simp)).1, (h3 p (by simp)).1, (h3 r (by simp)).1, (h3 d (by simp)).1, (h3 m (by simp)).1, (h3 a (by simp)).1, (h3 c (by simp)).1, Nat.le_refl _, Nat.le_refl _⟩ h4 (h3 k (by simp)).2 (h3 r (by simp)).2 (h3 a (by simp)).2
end
end K03

/-! a founder's row is judged, and written -/
namespace K03
open PySem PySem.Spec PyProof.Rows L2
theorem valV_kinds {lb : Nat → Str} {n j : Nat} (h : ∀ i, i < n → lb i ≠ lb j) : valV (kindsL lb n) (Sum.inr (lb j)) = none := by
  unfold valV
  rw [List.find?_eq_none.mpr]
  · rfl
  · intro x hx e
    obtain ⟨i, hi, rfl⟩ := List.mem_map.mp hx
    exact h i (List.mem_range.mp hi) (Sum.inr.inj (of_decide_eq_true e))
theorem kinds_succ {lb : Nat → Str} {n : Nat} : kindsL lb (n + 1) = kindsL lb n ++ [(Sum.inr (lb n), .str "s")] := by
  unfold kindsL
  rw [List.range_succ, List.map_append]
  rfl
def spBring (CB : Addr) : Sp := fun vs H Q _ => ∃ (b dx : Addr) (lb : Nat → Str) (n : Nat) (k p r d m a c : Addr) (rs as : List (Key × V)), vs = [.ref b, .int (n : Int), .str (lb n), .str "s"] ∧
  BookAt CB lb n H b dx k p r d m a c rs as ∧ n < 5010 ∧ (∀ i, i < n → lb i ≠ lb n) ∧
  ∀ (H' : Hp) (rs' as' : List (Key × V)), BookAt CB lb (n + 1) H' b dx k p r d m a c rs' as' → (∀ x o, H x = some o → x ≠ k → x ≠ r → x ≠ a → H' x = some o) → Q .non H'
def spWrite (CB : Addr) : Sp := fun vs H Q _ => ∃ (b dx : Addr) (lb : Nat → Str) (n : Nat) (k p r d m a c : Addr) (rs as : List (Key × V)) (t : Addr), vs = [.ref b, .int (n : Int), .ref t] ∧
  BookAt CB lb n H b dx k p r d m a c rs as ∧ RowAt H t (lb n) n ∧ n < 5010 ∧ (∀ i, i < n → lb i ≠ lb n) ∧
  ∀ (H' : Hp) (rs' as' : List (Key × V)), BookAt CB lb (n + 1) H' b dx k p r d m a c rs' as' → (∀ x o, H x = some o → x ≠ k → x ≠ r → x ≠ a → H' x = some o) → Q .non H'
theorem lt_line {n m : Nat} (h : n ≤ m) (hm : m < 5010) : n < sizeLine := Nat.lt_of_le_of_lt h (Nat.lt_of_lt_of_le hm (by decide))
section
variable {P : Program} {w : World} {K : PySem.W.Frag} {mg : Str → Option Value} {base : Heap}
theorem scBBring : FnScope ["self", "index", "label", "kind"] ["self", "index", "label", "kind"] (defScope sBBring) := ⟨rfl, rfl, rfl, by decide +kernel, rfl, by decide +kernel, by decide +kernel⟩
theorem ok_bring {f CB : Addr} {fd : FuncData} (F : FunD K "bring" "Book.bring" (defArgs sBBring) (defBody sBBring) (defScope sBBring) [] [] f fd) (T : BookC K CB) : FnOk P w K mg base CX0 1 f fd ["self", "index", "label", "kind"] (spBring CB) := by
  refine F.ok scBBring (fun vs H Q E h => ?_) (fun cdv A outer s H vs Q E hr h => ?_)
  · obtain ⟨b, dx, lb, n, k, p, r, d, m, a, c, rs, as, rfl, _⟩ := h
    rfl
  · obtain ⟨b, dx, lb, n, k, p, r, d, m, a, c, rs, as, rfl, B, hn, hne, q⟩ := h
    have hu := hu_of hr
    refine ⟨_, PSs.nox (pss_cons (ps_dput hu (pe_fld (pv 0) rfl) (pv 2) (pv 3) rfl) (pss_cons (ps_dput hu (pe_fld (pv 0) rfl) (pv 2) (pv 1) rfl) (pss_one (ps_dput hu (pe_fld (pv 0) rfl) (pv 2) (pe_lst pa_nil) rfl)))), ?_⟩
    have nd := B.nd
    simp only [List.nodup_cons, List.mem_cons, List.not_mem_nil, not_or, or_false] at nd
    obtain ⟨⟨kp, kr, kd, km, ka, kc⟩, ⟨pr, pd, pm, pa, pc⟩, ⟨rd, rm, ra, rc⟩, ⟨dm, da, dc⟩, ⟨ma, mc⟩, ac, _⟩ := nd
    have lk : (kindsL lb n).length = n := by
      unfold kindsL
      rw [List.length_map, List.length_range]
    have bk : b ≠ k := ne_of B.hb B.hk (by intro z; cases z)
    have br : b ≠ r := ne_of B.hb B.hr (by intro z; cases z)
    have ba : b ≠ a := ne_of B.hb B.ha (by intro z; cases z)
    refine ⟨_, rfl, _, rfl, b, CB, dx, _, _, rfl, B.hb, T.cl, T.nKinds, rfl, _, rfl, k, _, rfl, DPut.k (k := Sum.inr (lb n)) B.hk (by rw [lk]; exact lt_line (Nat.le_refl _) hn), ?_⟩
    refine ⟨_, rfl, _, rfl, b, CB, dx, _, _, rfl, by rw [upd_ne bk]; exact B.hb, T.cl, T.nRows, rfl, _, rfl, r, _, rfl, DPut.k (k := Sum.inr (lb n)) (by rw [upd_ne (Ne.symm kr)]; exact B.hr) (lt_line B.lr hn), ?_⟩
    refine ⟨(by decide), fun l nl => ?_⟩
    have hl : ∀ x o, upd (upd H k (.dK (putK (kindsL lb n) (Sum.inr (lb n)) (.str "s")))) r (.dK (putK rs (Sum.inr (lb n)) (.int n))) x = some o → upd (upd (upd H k (.dK (putK (kindsL lb n) (Sum.inr (lb n)) (.str "s")))) r (.dK (putK rs (Sum.inr (lb n)) (.int n)))) l (.lst []) x = some o := fun x o e => same_upd nl x o e
    have st : ∀ x o, H x = some o → x ≠ k → x ≠ r → upd (upd (upd H k (.dK (putK (kindsL lb n) (Sum.inr (lb n)) (.str "s")))) r (.dK (putK rs (Sum.inr (lb n)) (.int n)))) l (.lst []) x = some o := fun x o e xk xr => hl x o (by rw [upd_ne xr, upd_ne xk]; exact e)
    refine ⟨_, rfl, b, CB, dx, _, _, rfl, st _ _ B.hb bk br, T.cl, T.nAll, rfl, _, rfl, a, _, rfl, DPut.k (k := Sum.inr (lb n)) (st _ _ B.ha (Ne.symm ka) (Ne.symm ra)) (lt_line B.la hn), ?_⟩
    refine q _ (putK rs (Sum.inr (lb n)) (.int n)) (putK as (Sum.inr (lb n)) (.ref l)) ⟨?_, B.nd, ?_, ?_, ?_, ?_, ?_, upd_same, ?_, Nat.le_trans (DSub.putK_len rs _ _) (Nat.succ_le_succ B.lr), Nat.le_trans (DSub.putK_len as _ _) (Nat.succ_le_succ B.la)⟩ (fun x o e xk xr xa => by rw [upd_ne xa]; exact st x o e xk xr)
    · rw [upd_ne ba]
      exact st _ _ B.hb bk br
    · rw [upd_ne ka, kinds_succ, ← putK_new (.str "s") (valV_kinds hne)]
      exact hl _ _ (by rw [upd_ne kr, upd_same])
    · rw [upd_ne pa]
      exact st _ _ B.hp (Ne.symm kp) pr
    · rw [upd_ne ra]
      exact hl _ _ upd_same
    · rw [upd_ne da]
      exact st _ _ B.hd (Ne.symm kd) (Ne.symm rd)
    · rw [upd_ne ma]
      exact st _ _ B.hm (Ne.symm km) (Ne.symm rm)
    · rw [upd_ne (Ne.symm ac)]
      exact st _ _ B.hc (Ne.symm kc) (Ne.symm rc)
theorem scBWrite : FnScope ["self", "index", "row"] ["self", "index", "row"] (defScope sBWrite) := ⟨rfl, rfl, rfl, by decide +kernel, rfl, by decide +kernel, by decide +kernel⟩
theorem ok_write {f g CB : Addr} {fd gd : FuncData} (F : FunD K "write" "Book.write" (defArgs sBWrite) (defBody sBWrite) (defScope sBWrite) [] [] f fd) (T : BookC K CB) (hm : Meth K CB "bring" g)
    (G : FnOk P w K mg base CX0 1 g gd ["self", "index", "label", "kind"] (spBring CB)) (hb : Binds K gd ["self", "index", "label", "kind"] []) : FnOk P w K mg base CX0 2 f fd ["self", "index", "row"] (spWrite CB) := by
  refine F.ok scBWrite (fun vs H Q E h => ?_) (fun cdv A outer s H vs Q E hr h => ?_)
  · obtain ⟨b, dx, lb, n, k, p, r, d, m, a, c, rs, as, t, rfl, _⟩ := h
    rfl
  · obtain ⟨b, dx, lb, n, k, p, r, d, m, a, c, rs, as, t, rfl, B, ⟨e, ht, he⟩, hn, hne, q⟩ := h
    refine ⟨_, PSs.nox (pss_one (ps_if (pt_cmpR op_eq (pe_ix ix_tup (pv 2) pe_int (fun _ _ => rfl)) pe_str (nomark _))
      (pss_one (ps_expr (pe_meth (pv 0) T.cl hm G hr hb .nil pass0 (pa_cons (pv 1) (pa_cons (pe_ix ix_tup (pv 2) pe_int (fun _ _ => rfl)) (pa_cons (pe_ix ix_tup (pv 2) pe_int (fun _ _ => rfl)) pa_nil)))))) pss_never)), ?_⟩
    refine ⟨_, rfl, _, _, _, _, rfl, rfl, SqT.of ht, rfl, rfl, _, rfl, iteT ?_⟩
    refine ⟨_, rfl, b, dx, _, rfl, B.hb, rfl, ?_⟩
    refine ⟨_, rfl, _, rfl, _, _, _, _, rfl, rfl, SqT.of ht, rfl, _, rfl, _, _, _, _, rfl, rfl, SqT.of ht, rfl, ?_⟩
    exact ⟨b, dx, lb, n, k, p, r, d, m, a, c, rs, as, rfl, B, hn, hne, q⟩
end
end K03

/-! what is wrong with a row -/
namespace K03
open PySem PySem.Spec PyProof.Rows L2
def goodL (x : Str) : Prop := x.length ≤ 6 ∧ (PyData.str x).canLay0 = true ∧ labelV (.str x) = true
def wideV (wd : Int) : V := if wd = 0 then .non else .str "width"
theorem BookAt.same {CB : Addr} {lb : Nat → Str} {n : Nat} {H H' : Hp} {b dx k p r d m a c : Addr} {rs as : List (Key × V)} (B : BookAt CB lb n H b dx k p r d m a c rs as) (s : Same H H') : BookAt CB lb n H' b dx k p r d m a c rs as :=
  ⟨s _ _ B.hb, B.nd, s _ _ B.hk, s _ _ B.hp, s _ _ B.hr, s _ _ B.hd, s _ _ B.hm, s _ _ B.ha, s _ _ B.hc, B.lr, B.la⟩
theorem RowAt.same {H H' : Hp} {t : Addr} {x : Str} {i : Nat} (r : RowAt H t x i) (s : Same H H') : RowAt H' t x i := by
  obtain ⟨e, h1, h2⟩ := r
  exact ⟨e, s _ _ h1, s _ _ h2⟩
def spComing (CB : Addr) : Sp := fun vs H Q _ => ∃ (b dx : Addr) (lb : Nat → Str) (n : Nat) (k p r d m a c : Addr) (rs as : List (Key × V)) (t : Addr) (wd : Int), vs = [.ref b, .int wd, .ref t] ∧
  BookAt CB lb n H b dx k p r d m a c rs as ∧ RowAt H t (lb n) n ∧ (∀ i, i < n → lb i ≠ lb n) ∧ Q (wideV wd) H
def spFault (CB : Addr) : Sp := fun vs H Q _ => ∃ (b dx : Addr) (lb : Nat → Str) (n : Nat) (k p r d m a c : Addr) (rs as : List (Key × V)) (v : V) (wd : Int), vs = [.ref b, .int wd, v] ∧
  BookAt CB lb n H b dx k p r d m a c rs as ∧ ((v = .non ∧ ∀ H', Same H H' → Q (.str "row") H') ∨
    ∃ t : Addr, v = .ref t ∧ RowAt H t (lb n) n ∧ n ≤ 10 ^ 30 ∧ goodL (lb n) ∧ (∀ i, i < n → lb i ≠ lb n) ∧ ∀ H', Same H H' → Q (wideV wd) H')
section
variable {P : Program} {w : World} {K : PySem.W.Frag} {mg : Str → Option Value} {base : Heap}
theorem scComing : FnScope ["book", "width", "row"] ["book", "width", "row"] (defScope sPComingFault) := ⟨rfl, rfl, rfl, by decide +kernel, rfl, by decide +kernel, by decide +kernel⟩
theorem ok_coming {f CB : Addr} {fd : FuncData} (F : FnP K "_coming_fault" sPComingFault f fd) (T : BookC K CB) (zl : mg "len" = none) : FnOk P w K mg base CX0 1 f fd ["book", "width", "row"] (spComing CB) := by
  refine F.ok scComing (fun vs H Q E h => ?_) (fun cdv A outer s H vs Q E hr h => ?_)
  · obtain ⟨b, dx, lb, n, k, p, r, d, m, a, c, rs, as, t, wd, rfl, _⟩ := h
    rfl
  · obtain ⟨b, dx, lb, n, k, p, r, d, m, a, c, rs, as, t, wd, rfl, B, ⟨e, ht, he⟩, hne, q⟩ := h
    have hu := hu_of hr
    refine ⟨_, PSs.nox (pss_cons (ps_if (pt_cmp (pc_din hu (pe_ix ix_tup (pv 2) pe_int (fun _ _ => rfl)) (pe_fld (pv 0) rfl))) (pss_one (ps_ret pe_str)) pss_nil)
      (pss_one (ps_ret (pe_ifExp (pt_cmpR op_eq (pe_callB call_len_seq (by rfl) zl boot_len (pa_cons (pe_ix ix_tup (pv 2) pe_int (fun _ _ => rfl)) pa_nil)) (pv 1) (nomark _)) pe_non pe_str)))), ?_⟩
    have g : DGet H k (.str (lb n)) none := by
      have z := DGet.k (k := Sum.inr (lb n)) B.hk
      rw [valV_kinds hne] at z
      exact z
    refine ⟨_, rfl, _, _, _, _, rfl, rfl, SqT.of ht, rfl, _, rfl, b, CB, dx, _, _, rfl, B.hb, T.cl, T.nKinds, rfl, k, _, rfl, g, _, rfl, iteF ?_⟩
    refine ⟨_, rfl, _, _, _, _, rfl, rfl, SqT.of ht, rfl, _, _, rfl, .inr (SqT.of he), _, rfl, rfl, _, rfl, ?_⟩
    unfold wideV at q
    by_cases h0 : wd = 0
    · subst h0
      rw [if_pos rfl] at q
      exact iteT q
    · rw [if_neg h0] at q
      exact ite2 (fun z => absurd (V.int.inj (of_decide_eq_true z)).symm h0) (fun _ => q)
theorem scFault : FnScope ["book", "width", "row"] ["book", "width", "row"] (defScope sPRowFault) := ⟨rfl, rfl, rfl, by decide +kernel, rfl, by decide +kernel, by decide +kernel⟩
theorem ok_fault {f fR fC CB : Addr} {fd fdR fdC : FuncData} (F : FnP K "row_fault" sPRowFault f fd) (dR : Df P w K mg base "is_row" 4 ["row"] spRow fR fdR) (dC : Df P w K mg base "_coming_fault" 1 ["book", "width", "row"] (spComing CB) fC fdC) :
    FnOk P w K mg base CX0 5 f fd ["book", "width", "row"] (spFault CB) := by
  refine F.ok scFault (fun vs H Q E h => ?_) (fun cdv A outer s H vs Q E hr h => ?_)
  · obtain ⟨b, dx, lb, n, k, p, r, d, m, a, c, rs, as, v, wd, rfl, _⟩ := h
    rfl
  · obtain ⟨b, dx, lb, n, k, p, r, d, m, a, c, rs, as, v, wd, rfl, B, q⟩ := h
    refine ⟨_, PSs.nox (pss_cons (ps_if (pt_not (pt_val (pe_call dR.ok hr (by rfl) dR.gl dR.kp dR.bi .nil pass0 (pa_cons (pv 2) pa_nil)))) (pss_one (ps_ret pe_str)) pss_nil)
      (pss_cons (ps_if (pt_cmpR op_eq (pe_ix ix_tup (pv 2) pe_int (fun _ _ => rfl)) pe_str (nomark _))
        (pss_one (ps_ret (pe_call dC.ok (hr.mono (by decide)) (by rfl) dC.gl dC.kp dC.bi .nil pass0 (pa_cons (pv 0) (pa_cons (pv 1) (pa_cons (pv 2) pa_nil)))))) pss_nil) pss_never)), ?_⟩
    rcases q with ⟨rfl, q⟩ | ⟨t, rfl, hrow, hn, ⟨g1, g2, g3⟩, hne, q⟩
    · exact ⟨_, rfl, _, _, rfl, .non, fun H' s' => ⟨_, rfl, iteT (q H' s')⟩⟩
    · refine ⟨_, rfl, _, _, rfl, .row hrow hn g1 g2 g3, fun H' s' => ⟨_, rfl, iteF ?_⟩⟩
      have hrow' := hrow.same s'
      obtain ⟨e, ht, he⟩ := hrow'
      refine ⟨_, rfl, _, _, _, _, rfl, rfl, SqT.of ht, rfl, rfl, _, rfl, iteT ?_⟩
      exact ⟨_, rfl, _, rfl, _, rfl, b, dx, lb, n, k, p, r, d, m, a, c, rs, as, t, wd, rfl, B.same s', ⟨e, ht, he⟩, hne, q H' s'⟩
end
end K03

/-! all rows are written, or the first fault is told -/
namespace K03
open PySem PySem.Spec PyProof.Rows L2
/-- a width, rows: what is told of them (how many are written; the fault) -/
inductive Pl (H : Hp) (lb : Nat → Str) : V → V → Nat → Option (Int × Str) → Prop where
  | width {wv y : V} {t : String} (o : Odd H wv t) (h : wholeV wv 0 2 = false) : Pl H lb wv y 0 (some (0, "width"))
  | rows {wd : Int} {y : V} {t : String} (h : wholeV (.int wd) 0 2 = true) (o : Odd H y t) (hs : seqT t = false) : Pl H lb (.int wd) y 0 (some (0, "rows"))
  | many {wd : Int} {l : Addr} {xs : List V} (h : wholeV (.int wd) 0 2 = true) (hl : H l = some (.lst xs)) (h1 : 5000 < xs.length) : Pl H lb (.int wd) (.ref l) 0 (some (5000, "many"))
  | nons {wd : Int} {l : Addr} {n : Nat} (h : wholeV (.int wd) 0 2 = true) (hl : H l = some (.lst (List.replicate (n + 1) .non))) (hn : n < 5000) : Pl H lb (.int wd) (.ref l) 0 (some (0, "row"))
  | bad {wd : Int} {l : Addr} {ts : List Addr} (h : wholeV (.int wd) 0 2 = true) (h0 : wd ≠ 0) (hl : H l = some (.lst (ts.map V.ref))) (rw : RowsAt H ts lb) (h1 : 0 < ts.length) (h2 : ts.length ≤ 5000) (g : goodL (lb 0)) : Pl H lb (.int wd) (.ref l) 0 (some (0, "width"))
  | good {l : Addr} {ts : List Addr} (hl : H l = some (.lst (ts.map V.ref))) (rw : RowsAt H ts lb) (h2 : ts.length ≤ 5000) (g : ∀ i, i < ts.length → goodL (lb i)) (d : ∀ i j, i < j → j < ts.length → lb i ≠ lb j) : Pl H lb (.int 0) (.ref l) ts.length none
  | nil {wd : Int} {l : Addr} (h : wholeV (.int wd) 0 2 = true) (hl : H l = some (.lst [])) : Pl H lb (.int wd) (.ref l) 0 none
  | tup {wd : Int} {l : Addr} (h : wholeV (.int wd) 0 2 = true) (hl : H l = some (.tup [])) : Pl H lb (.int wd) (.ref l) 0 none
def Fx (H H' : Hp) (k r a : Addr) : Prop := ∀ x o, H x = some o → x ≠ k → x ≠ r → x ≠ a → H' x = some o
theorem Fx.of {H H' : Hp} {k r a : Addr} (s : Same H H') : Fx H H' k r a := fun x o e _ _ _ => s x o e
theorem Fx.then {H H1 H2 : Hp} {k r a : Addr} (f : Fx H H1 k r a) (g : Fx H1 H2 k r a) : Fx H H2 k r a := fun x o e h1 h2 h3 => g x o (f x o e h1 h2 h3) h1 h2 h3
theorem Fx.row {H H' : Hp} {CB : Addr} {lb : Nat → Str} {n i : Nat} {b dx k p r d m a c t : Addr} {rs as : List (Key × V)} {x : Str} (f : Fx H H' k r a) (B : BookAt CB lb n H b dx k p r d m a c rs as) (w : RowAt H t x i) : RowAt H' t x i := by
  obtain ⟨e, h1, h2⟩ := w
  exact ⟨e, f _ _ h1 (ne_of h1 B.hk (by intro z; cases z)) (ne_of h1 B.hr (by intro z; cases z)) (ne_of h1 B.ha (by intro z; cases z)), f _ _ h2 (ne_of h2 B.hk (by intro z; cases z)) (ne_of h2 B.hr (by intro z; cases z)) (ne_of h2 B.ha (by intro z; cases z))⟩
theorem map_ref_at {ts : List Addr} {i : Nat} {v : V} (h : (ts.map V.ref)[i]? = some v) : ∃ t, ts[i]? = some t ∧ v = .ref t := by
  rw [List.getElem?_map] at h
  cases e : ts[i]? with
  | none => rw [e] at h; cases h
  | some t => rw [e] at h; exact ⟨t, rfl, (Option.some.inj h).symm⟩
def spWR (CB : Addr) : Sp := fun vs H Q _ => ∃ (b dx : Addr) (lb : Nat → Str) (k p r d m a c : Addr) (wv y : V) (n : Nat) (o : Option (Int × Str)), vs = [.ref b, wv, y] ∧
  BookAt CB lb 0 H b dx k p r d m a c [] [] ∧ Pl H lb wv y n o ∧
  (o = none → ∀ (H' : Hp) (rs' as' : List (Key × V)), BookAt CB lb n H' b dx k p r d m a c rs' as' → Fx H H' k r a → Q .non H') ∧
  ∀ i x, o = some (i, x) → ∀ (H' : Hp) (z : Addr), Fx H H' k r a → H' z = some (.tup [.int i, .str x]) → Q (.ref z) H'
theorem whole_int {wd : Int} {lo hi : Int} : wholeV (.int wd) lo hi = (decide (lo ≤ wd) && decide (wd ≤ hi)) := rfl
section
variable {P : Program} {w : World} {K : PySem.W.Frag} {mg : Str → Option Value} {base : Heap}
theorem scWR : FnScope ["book", "width", "rows", "index", "row", "what"] ["book", "width", "rows"] (defScope sPWriteRows) := ⟨rfl, rfl, rfl, by decide +kernel, rfl, by decide +kernel, by decide +kernel⟩
theorem ok_wr {f fW fS fF fM CB : Addr} {fd fdW fdS fdF fdM : FuncData} (F : FnP K "_write_rows" sPWriteRows f fd) (T : BookC K CB) (zl : mg "len" = none) (ze : mg "enumerate" = none) (gR : ∃ t, mg "MOST_ROWS" = some (.int 5000 t)) (gW : ∃ t, mg "MOST_WIDTH" = some (.int 2 t))
    (dW : Df P w K mg base "is_whole" 1 ["thing", "low", "high"] spWhole fW fdW) (dS : Df P w K mg base "is_sequence" 1 ["thing"] spSeq fS fdS)
    (dF : Df P w K mg base "row_fault" 5 ["book", "width", "row"] (spFault CB) fF fdF) (hm : Meth K CB "write" fM) (G : FnOk P w K mg base CX0 2 fM fdM ["self", "index", "row"] (spWrite CB)) (hb : Binds K fdM ["self", "index", "row"] []) :
    FnOk P w K mg base CX0 6 f fd ["book", "width", "rows"] (spWR CB) := by
  obtain ⟨tr, gR⟩ := gR
  obtain ⟨tw, gW⟩ := gW
  refine F.ok scWR (fun vs H Q E h => ?_) (fun cdv A outer s H vs Q E hr h => ?_)
  · obtain ⟨b, dx, lb, k, p, r, d, m, a, c, wv, y, n, o, rfl, _⟩ := h
    rfl
  · obtain ⟨b, dx, lb, k, p, r, d, m, a, c, wv, y, n, o, rfl, B, pl, q1, q2⟩ := h
    refine ⟨_, PSs.nox (pss_cons (ps_if (pt_not (pt_val (pe_call dW.ok (hr.mono (by decide)) (by rfl) dW.gl dW.kp dW.bi .nil pass0 (pa_cons (pv 1) (pa_cons pe_int (pa_cons (pe_glob (by rfl) gW (v := .int 2) ⟨_, rfl⟩) pa_nil))))))
        (pss_one (ps_ret (pe_tup (pa_cons pe_int (pa_cons pe_str pa_nil))))) pss_nil)
      (pss_cons (ps_if (pt_not (pt_val (pe_call dS.ok (hr.mono (by decide)) (by rfl) dS.gl dS.kp dS.bi .nil pass0 (pa_cons (pv 2) pa_nil))))
        (pss_one (ps_ret (pe_tup (pa_cons pe_int (pa_cons pe_str pa_nil))))) pss_nil)
      (pss_cons (ps_if (pt_cmpR op_gt (pe_callB call_len_seq (by rfl) zl boot_len (pa_cons (pv 2) pa_nil)) (pe_glob (by rfl) gR (v := .int 5000) ⟨_, rfl⟩) (nomark _))
        (pss_one (ps_ret (pe_tup (pa_cons (pe_glob (by rfl) gR (v := .int 5000) ⟨_, rfl⟩) (pa_cons pe_str pa_nil))))) pss_nil)
      (pss_cons (ps_for PassesOwn.never rfl (pi_or (pi_enum (by rfl) ze (pa_cons (pv 2) pa_nil)) (pi_enumT (by rfl) ze (pa_cons (pv 2) pa_nil) rfl))
          (pg_tup (by rfl) (pgs_cons (pg_name (i := 3) scWR.nd rfl (.inl rfl)) (pgs_cons (pg_name (i := 4) scWR.nd rfl (.inl rfl)) pgs_nil)))
        (pss_cons (ps_set (i := 5) scWR.nd rfl (.inl rfl) (pe_call dF.ok hr (by rfl) dF.gl dF.kp dF.bi .nil pass0 (pa_cons (pv 0) (pa_cons (pv 1) (pa_cons (pv 4) pa_nil)))))
        (pss_cons (ps_if (pt_cmpR op_notN (pv 5) pe_non (nomark _)) (pss_one (ps_ret (pe_tup (pa_cons (pv 3) (pa_cons (pv 5) pa_nil))))) pss_nil)
        (pss_one (ps_expr (pe_meth (pv 0) T.cl hm G (hr.mono (by decide)) hb .nil pass0 (pa_cons (pv 3) (pa_cons (pv 4) pa_nil))))))))
      (pss_one (ps_ret pe_non)))))), ?_⟩
    cases pl with
    | width o h =>
      refine ⟨_, rfl, _, _, _, _, rfl, o, ?_⟩
      rw [h]
      exact ⟨_, rfl, iteT ⟨(by show 2 ≤ sizeLine; decide), fun z nz => q2 _ _ rfl _ z (Fx.of (same_upd nz)) upd_same⟩⟩
    | rows h o hs =>
      refine ⟨_, rfl, _, _, _, _, rfl, .int _, ?_⟩
      rw [h]
      refine ⟨_, rfl, iteF ⟨_, rfl, _, _, rfl, o, fun u nu => ?_⟩⟩
      rw [hs]
      exact ⟨_, rfl, iteT ⟨(by show 2 ≤ sizeLine; decide), fun z nz => q2 _ _ rfl _ z (Fx.of ((same_upd nu).trans (same_upd nz))) upd_same⟩⟩
    | many h hl h1 =>
      refine ⟨_, rfl, _, _, _, _, rfl, .int _, ?_⟩
      rw [h]
      refine ⟨_, rfl, iteF ⟨_, rfl, _, _, rfl, .lst hl, fun u nu => ⟨_, rfl, iteF ?_⟩⟩⟩
      refine ⟨_, rfl, _, _, rfl, .inl (SqL.of (same_upd nu _ _ hl)), _, _, rfl, rfl, _, rfl, ite2 (fun _ => ⟨(by show 2 ≤ sizeLine; decide), fun z nz => q2 _ _ rfl _ z (Fx.of ((same_upd nu).trans (same_upd nz))) upd_same⟩) (fun z => absurd (decide_eq_true (by omega)) z)⟩
    | nons h hl hn =>
      refine ⟨_, rfl, _, _, _, _, rfl, .int _, ?_⟩
      rw [h]
      refine ⟨_, rfl, iteF ⟨_, rfl, _, _, rfl, .lst hl, fun u nu => ⟨_, rfl, iteF ?_⟩⟩⟩
      have su := same_upd (o := .tup [.ty "list", .ty "tuple"]) nu
      have hl1 := su _ _ hl
      refine ⟨_, rfl, _, _, rfl, .inl (SqL.of hl1), _, _, rfl, rfl, _, rfl, ite2 (fun z => absurd (of_decide_eq_true z) (by rw [List.length_replicate]; omega)) (fun _ => ?_)⟩
      refine .inl ⟨_, rfl, _, _, rfl, SqL.of hl1, for_it walk_enum (fun i σ H' => i = 0 ∧ σ = _ ∧ Same H H') ⟨rfl, rfl, su⟩ (fun i σ H' _ h => SqL.of (h.2.2 _ _ hl)) ?_ (fun σ H' h => absurd h.1 (by rw [List.length_replicate]; omega))⟩
      rintro i x σ H1 H2 hi ⟨rfl, rfl, sm⟩ ⟨T', u', v, rfl, nT, rfl, eu, ev⟩
      obtain rfl : u' = .int 0 := (Option.some.inj eu).symm
      obtain rfl : v = .non := by
        have ev2 : (List.replicate (_ + 1) V.non)[0]? = some v := ev
        rw [List.getElem?_replicate, if_pos (by omega)] at ev2
        exact (Option.some.inj ev2).symm
      refine ⟨T', _, rfl, .inl (.inl upd_same), rfl, _, _, rfl, _, _, rfl, rfl, ?_⟩
      refine ⟨_, rfl, _, rfl, _, rfl, b, dx, lb, 0, k, p, r, d, m, a, c, [], [], _, _, rfl, B.same (sm.trans (same_upd nT)), .inl ⟨rfl, fun H3 s3 => ?_⟩⟩
      refine ⟨_, rfl, rfl, _, rfl, iteT ⟨_, rfl, _, rfl, (by show 2 ≤ sizeLine; decide), fun z nz => ?_⟩⟩
      exact q2 _ _ rfl _ z (Fx.of (((sm.trans (same_upd nT)).trans s3).trans (same_upd nz))) upd_same
    | bad h h0 hl rws h1 h2 g =>
      refine ⟨_, rfl, _, _, _, _, rfl, .int _, ?_⟩
      rw [h]
      refine ⟨_, rfl, iteF ⟨_, rfl, _, _, rfl, .lst hl, fun u nu => ⟨_, rfl, iteF ?_⟩⟩⟩
      have su := same_upd (o := .tup [.ty "list", .ty "tuple"]) nu
      have hl1 := su _ _ hl
      refine ⟨_, rfl, _, _, rfl, .inl (SqL.of hl1), _, _, rfl, rfl, _, rfl, ite2 (fun z => absurd (of_decide_eq_true z) (by rw [List.length_map]; omega)) (fun _ => ?_)⟩
      refine .inl ⟨_, rfl, _, _, rfl, SqL.of hl1, for_it walk_enum (fun i σ H' => i = 0 ∧ σ = _ ∧ Same H H') ⟨rfl, rfl, su⟩ (fun i σ H' _ h => SqL.of (h.2.2 _ _ hl)) ?_ (fun σ H' h => absurd h.1 (by rw [List.length_map]; omega))⟩
      rintro i x σ H1 H2 hi ⟨rfl, rfl, sm⟩ ⟨T', u', v, rfl, nT, rfl, eu, ev⟩
      obtain rfl : u' = .int 0 := (Option.some.inj eu).symm
      obtain ⟨t, et, rfl⟩ := map_ref_at ev
      have s1 := sm.trans (same_upd (o := .tup [.int 0, .ref t]) nT)
      refine ⟨T', _, rfl, .inl (.inl upd_same), rfl, _, _, rfl, _, _, rfl, rfl, ?_⟩
      refine ⟨_, rfl, _, rfl, _, rfl, b, dx, lb, 0, k, p, r, d, m, a, c, [], [], _, _, rfl, B.same s1, .inr ⟨t, rfl, (rws 0 t et).same s1, Nat.zero_le _, g, (fun j hj => absurd hj (Nat.not_lt_zero j)), fun H3 s3 => ?_⟩⟩
      rw [show wideV _ = V.str "width" from if_neg h0]
      refine ⟨_, rfl, rfl, _, rfl, iteT ⟨_, rfl, _, rfl, (by show 2 ≤ sizeLine; decide), fun z nz => ?_⟩⟩
      exact q2 _ _ rfl _ z (Fx.of ((s1.trans s3).trans (same_upd nz))) upd_same
    | @good l ts hl rws h2 g dd =>
      refine ⟨_, rfl, _, _, _, _, rfl, .int _, ?_⟩
      rw [show wholeV (.int 0) 0 2 = true by decide]
      refine ⟨_, rfl, iteF ⟨_, rfl, _, _, rfl, .lst hl, fun u nu => ⟨_, rfl, iteF ?_⟩⟩⟩
      have su := same_upd (o := .tup [.ty "list", .ty "tuple"]) nu
      have hl1 := su _ _ hl
      have lm : (ts.map V.ref).length = ts.length := List.length_map ..
      have lk : l ≠ k := ne_of hl B.hk (by intro z; cases z)
      have lr : l ≠ r := ne_of hl B.hr (by intro z; cases z)
      have la : l ≠ a := ne_of hl B.ha (by intro z; cases z)
      refine ⟨_, rfl, _, _, rfl, .inl (SqL.of hl1), _, _, rfl, rfl, _, rfl, ite2 (fun z => absurd (of_decide_eq_true z) (by rw [lm]; omega)) (fun _ => ?_)⟩
      refine .inl ⟨_, rfl, _, _, rfl, SqL.of hl1, for_it walk_enum (fun i σ H' => ∃ (x3 x4 x5 : Option V) (rs as : List (Key × V)), σ = [some (.ref b), some (.int 0), some (.ref l), x3, x4, x5] ∧ BookAt CB lb i H' b dx k p r d m a c rs as ∧ Fx H H' k r a)
        ⟨none, none, none, [], [], rfl, B.same su, Fx.of su⟩ (fun i σ H' _ ⟨_, _, _, _, _, _, _, f⟩ => SqL.of (f _ _ hl lk lr la)) ?_ ?_⟩
      · rintro i x σ H1 H2 hi ⟨x3, x4, x5, rs, as, rfl, B1, f1⟩ ⟨T', u', v, rfl, nT, rfl, eu, ev⟩
        rw [lm] at hi
        obtain rfl : u' = .int (i : Int) := (Option.some.inj eu).symm
        obtain ⟨t, et, rfl⟩ := map_ref_at ev
        have s1 := same_upd (o := .tup [.int (i : Int), .ref t]) nT
        have row1 := f1.row B (rws i t et)
        refine ⟨T', _, rfl, .inl (.inl upd_same), rfl, _, _, rfl, _, _, rfl, rfl, ?_⟩
        refine ⟨_, rfl, _, rfl, _, rfl, b, dx, lb, i, k, p, r, d, m, a, c, rs, as, _, _, rfl, B1.same s1, .inr ⟨t, rfl, row1.same s1, Nat.le_trans (Nat.le_of_lt (Nat.lt_of_lt_of_le hi h2)) (by decide), g i hi, (fun j hj => dd j i hj hi), fun H3 s3 => ?_⟩⟩
        refine ⟨_, rfl, rfl, _, rfl, iteF ?_⟩
        refine ⟨_, rfl, b, dx, _, rfl, s3 _ _ (s1 _ _ B1.hb), rfl, _, rfl, _, rfl, b, dx, lb, i, k, p, r, d, m, a, c, rs, as, t, rfl, (B1.same s1).same s3, (row1.same s1).same s3, Nat.lt_of_lt_of_le hi (Nat.le_trans h2 (by decide)), (fun j hj => dd j i hj hi), fun H4 rs' as' B4 f4 => ?_⟩
        exact ⟨_, _, _, rs', as', rfl, B4, (f1.then (Fx.of (s1.trans s3))).then f4⟩
      · rintro σ H1 ⟨x3, x4, x5, rs, as, rfl, B1, f1⟩
        rw [lm] at B1
        exact q1 rfl H1 rs as B1 f1
    | @nil wd l h hl =>
      refine ⟨_, rfl, _, _, _, _, rfl, .int _, ?_⟩
      rw [h]
      refine ⟨_, rfl, iteF ⟨_, rfl, _, _, rfl, .lst hl, fun u nu => ⟨_, rfl, iteF ?_⟩⟩⟩
      have su := same_upd (o := .tup [.ty "list", .ty "tuple"]) nu
      have hl1 := su _ _ hl
      refine ⟨_, rfl, _, _, rfl, .inl (SqL.of hl1), _, _, rfl, rfl, _, rfl, iteF ?_⟩
      exact .inl ⟨_, rfl, _, _, rfl, SqL.of hl1, for_it walk_enum (fun i σ H' => Same H H') su (fun i σ H' _ h => SqL.of (h _ _ hl)) (fun i _ _ _ _ hi => absurd hi (Nat.not_lt_zero i)) (fun σ H' h => q1 rfl H' [] [] (B.same h) (Fx.of h))⟩
    | @tup wd l h hl =>
      refine ⟨_, rfl, _, _, _, _, rfl, .int _, ?_⟩
      rw [h]
      refine ⟨_, rfl, iteF ⟨_, rfl, _, _, rfl, .tup hl, fun u nu => ⟨_, rfl, iteF ?_⟩⟩⟩
      have su := same_upd (o := .tup [.ty "list", .ty "tuple"]) nu
      have hl1 := su _ _ hl
      refine ⟨_, rfl, _, _, rfl, .inr (SqT.of hl1), _, _, rfl, rfl, _, rfl, iteF ?_⟩
      exact .inr ⟨_, rfl, _, _, rfl, SqT.of hl1, for_it walk_enumT (fun i σ H' => Same H H') su (fun i σ H' _ h => SqT.of (h _ _ hl)) (fun i _ _ _ _ hi => absurd hi (Nat.not_lt_zero i)) (fun σ H' h => q1 rfl H' [] [] (B.same h) (Fx.of h))⟩
end
end K03

/-! the fault of a record -/
namespace K03
open PySem PySem.Spec PyProof.Rows L2
theorem Pl.same {H H' : Hp} {lb : Nat → Str} {wv y : V} {n : Nat} {o : Option (Int × Str)} (p : Pl H lb wv y n o) (s : Same H H') : Pl H' lb wv y n o := by
  cases p with
  | width o h => exact .width (o.same s) h
  | rows h o hs => exact .rows h (o.same s) hs
  | many h hl h1 => exact .many h (s _ _ hl) h1
  | nons h hl hn => exact .nons h (s _ _ hl) hn
  | bad h h0 hl rw h1 h2 g => exact .bad h h0 (s _ _ hl) (rw.same s) h1 h2 g
  | good hl rw h2 g d => exact .good (s _ _ hl) (rw.same s) h2 g d
  | nil h hl => exact .nil h (s _ _ hl)
  | tup h hl => exact .tup h (s _ _ hl)
/-- Book() -/
structure BookMk (P : Program) (w : World) (K : PySem.W.Frag) (mg : Str → Option Value) (base : Heap) (CB fI : Addr) (fdI : FuncData) : Prop where
  mks : Mk K CB fI
  gl : mg "Book" = some (.ref CB)
  ok : FnOk P w K mg base CX0 1 fI fdI ["self"] (spBInit CB)
  bi : Binds K fdI ["self"] []
def spRF : Sp := fun vs H Q _ => ∃ (lb : Nat → Str) (wv y : V) (n : Nat) (o : Option (Int × Str)), vs = [wv, y] ∧ Pl H lb wv y n o ∧
  (o = none → ∀ H', Same H H' → Q .non H') ∧ ∀ i x, o = some (i, x) → ∀ (H' : Hp) (z : Addr), Same H H' → H' z = some (.tup [.int i, .str x]) → Q (.ref z) H'
theorem same_ins {H : Hp} {x dx C : Addr} (nx : H x = none) (nd : H dx = none) (ne : dx ≠ x) : Same H (upd (upd H dx (.own x)) x (.ins C dx [])) := fun y o e => by
  rw [upd_ne (ne_of_none e nx), upd_ne (ne_of_none e nd)]
  exact e
theorem Fx.new {H H' H'' : Hp} {k r a : Addr} (s : Same H H') (f : Fx H' H'' k r a) (nk : H k = none) (nr : H r = none) (na : H a = none) : Same H H'' := fun y o e =>
  f y o (s y o e) (ne_of_none e nk) (ne_of_none e nr) (ne_of_none e na)
theorem none_of {H H' : Hp} {y : Addr} (s : Same H H') (h : H' y = none) : H y = none := by
  cases e : H y with
  | none => rfl
  | some o =>
    rw [s y o e] at h
    cases h
section
variable {P : Program} {w : World} {K : PySem.W.Frag} {mg : Str → Option Value} {base : Heap}
theorem scRF : FnScope ["width", "rows"] ["width", "rows"] (defScope sPRecordFault) := ⟨rfl, rfl, rfl, by decide +kernel, rfl, by decide +kernel, by decide +kernel⟩
theorem ok_rf {f fI fW CB : Addr} {fd fdI fdW : FuncData} (F : FnP K "record_fault" sPRecordFault f fd) (M : BookMk P w K mg base CB fI fdI) (dW : Df P w K mg base "_write_rows" 6 ["book", "width", "rows"] (spWR CB) fW fdW) :
    FnOk P w K mg base CX0 7 f fd ["width", "rows"] spRF := by
  refine F.ok scRF (fun vs H Q E h => ?_) (fun cdv A outer s H vs Q E hr h => ?_)
  · obtain ⟨lb, wv, y, n, o, rfl, _⟩ := h
    rfl
  · obtain ⟨lb, wv, y, n, o, rfl, pl, q1, q2⟩ := h
    refine ⟨_, PSs.nox (pss_one (ps_ret (pe_call dW.ok hr (by rfl) dW.gl dW.kp dW.bi .nil pass0 (pa_cons (pe_make0 M.mks M.ok (hr.mono (by decide)) (by rfl) M.gl M.bi .nil pass0) (pa_cons (pv 0) (pa_cons (pv 1) pa_nil)))))), ?_⟩
    intro x dx nx nd ne
    refine ⟨x, dx, lb, rfl, upd_same, fun H1 k p r d m a c B f nk nr na => ⟨rfl, _, rfl, _, rfl, ?_⟩⟩
    have s0 := same_ins (C := CB) nx nd ne
    have s1 : Same H H1 := fun z o e => f z o (s0 z o e) (ne_of_none e nx)
    exact ⟨x, dx, lb, k, p, r, d, m, a, c, wv, y, n, o, rfl, B, pl.same s1, fun e H2 rs as B2 f2 => q1 e H2 (f2.new s1 (none_of s0 nk) (none_of s0 nr) (none_of s0 na)),
      fun i z e H2 t f2 ht => q2 i z e H2 t (f2.new s1 (none_of s0 nk) (none_of s0 nr) (none_of s0 na)) ht⟩
end
end K03

/-! a record is made, or refused -/
namespace K03
open PySem PySem.Spec PyProof.Rows L2
abbrev sBadInit : Stmt := inClass (top 3) 0
abbrev sRInit : Stmt := inClass (top 26) 0
abbrev badF (i : Int) (x : Str) : List (Str × V) := [("what", .str x), ("index", .int i)]
abbrev NoF (K : PySem.W.Frag) (C : Addr) (f : Str) : Prop := PySem.W.findIn K (.ref C) f = some none
theorem keep_new {H : Hp} {a d : Addr} {o u : HO} (nd : H d = none) : ∀ b x, b ≠ a → H b = some x → (upd (upd H d u) a o) b = some x := fun b x n e => by
  rw [upd_ne n, upd_ne (ne_of_none e nd)]
  exact e
theorem keep_dict {H H1 : Hp} {a d : Addr} {o : HO} (nd : H d = none) (k : ∀ b x, b ≠ a → H b = some x → H1 b = some x) : ∀ b x, b ≠ a → H b = some x → (upd H1 d o) b = some x := fun b x n e => by
  rw [upd_ne (ne_of_none e nd)]
  exact k b x n e
def spBad (C : Addr) : Sp := fun vs H Q _ => ∃ (a : Addr) (i : Int) (x : Str), vs = [.ref a, .int i, .str x] ∧ H a = some (exo a C none) ∧
  ∀ (H' : Hp) (d : Addr), H d = none → H' a = some (exo a C (some d)) → H' d = some (exd d (badF i x)) → (∀ b o, b ≠ a → H b = some o → H' b = some o) → Q .non H'
def spTuples : Sp := fun vs H Q _ => ∃ (t : Addr) (x : Str) (i : Nat), vs = [.ref t] ∧ RowAt H t x i ∧ ∀ (z : Addr) (H' : Hp), Same H H' → Q (.ref z) H'
section
variable {P : Program} {w : World} {K : PySem.W.Frag} {mg : Str → Option Value} {base : Heap}
theorem ok_bad {f C : Addr} {fd : FuncData} (F : FunD K "__init__" "BadRecord.__init__" (defArgs sBadInit) (defBody sBadInit) (defScope sBadInit) [] [] f fd) (T : OexC K C) (n0 : NoF K C "index") (n1 : NoF K C "what") :
    FnOk P w K mg base CX0 1 f fd ["self", "index", "what"] (spBad C) := by
  have sc : FnScope ["self", "index", "what"] ["self", "index", "what"] (defScope sBadInit) := ⟨rfl, rfl, rfl, by decide +kernel, rfl, by decide +kernel, by decide +kernel⟩
  refine F.ok sc (fun vs H Q E h => ?_) (fun cdv A outer s H vs Q E hr h => ?_)
  · obtain ⟨a, i, x, rfl, _⟩ := h
    rfl
  · obtain ⟨a, i, x, rfl, ea, q⟩ := h
    refine ⟨_, PSs.nox (pss_cons (ps_ost (pv 0) (pv 1)) (pss_one (ps_ost (pv 0) (pv 2)))), ?_⟩
    refine ⟨_, rfl, _, rfl, a, C, rfl, T, n0, .inl ⟨ea, fun d nd ne => ?_⟩⟩
    refine ⟨_, rfl, _, rfl, a, C, rfl, T, n1, .inr ⟨d, _, upd_same, Eq.trans (upd_ne ne) upd_same, (by show 1 ≤ 900; decide), ?_⟩⟩
    exact q _ d nd (Eq.trans (upd_ne (Ne.symm ne)) upd_same) upd_same (keep_dict nd (keep_new nd))
theorem ok_tuples {f : Addr} {fd : FuncData} (F : FnP K "as_tuples" sPAsTuples f fd) (zt : mg "tuple" = none) : FnOk P w K mg base CX0 1 f fd ["row"] spTuples := by
  have sc : FnScope ["row"] ["row"] (defScope sPAsTuples) := ⟨rfl, rfl, rfl, by decide +kernel, rfl, by decide +kernel, by decide +kernel⟩
  refine F.ok sc (fun vs H Q E h => ?_) (fun cdv A outer s H vs Q E hr h => ?_)
  · obtain ⟨t, x, i, rfl, _⟩ := h
    rfl
  · obtain ⟨t, x, i, rfl, ⟨e, ht, he⟩, q⟩ := h
    refine ⟨_, PSs.nox (pss_cons (ps_if (pt_cmpR op_eq (pe_ix ix_tup (pv 0) pe_int (fun _ _ => rfl)) pe_str (nomark _))
      (pss_one (ps_ret (pe_tup (pa_cons (pe_ix ix_tup (pv 0) pe_int (fun _ _ => rfl)) (pa_cons (pe_ix ix_tup (pv 0) pe_int (fun _ _ => rfl)) (pa_cons (pe_ix ix_tup (pv 0) pe_int (fun _ _ => rfl)) (pa_cons (pe_ix ix_tup (pv 0) pe_int (fun _ _ => rfl))
        (pa_cons (pe_callTy call_tupleT (by rfl) zt (by decide +kernel) (pa_cons (pe_ix ix_tup (pv 0) pe_int (fun _ _ => rfl)) pa_nil)) pa_nil)))))))) pss_nil) pss_never), ?_⟩
    refine ⟨_, rfl, _, _, _, _, rfl, rfl, SqT.of ht, rfl, rfl, _, rfl, iteT ?_⟩
    refine ⟨_, rfl, _, _, _, _, rfl, rfl, SqT.of ht, rfl, _, rfl, _, _, _, _, rfl, rfl, SqT.of ht, rfl, _, rfl, _, _, _, _, rfl, rfl, SqT.of ht, rfl, _, rfl, _, _, _, _, rfl, rfl, SqT.of ht, rfl, ?_⟩
    refine ⟨_, rfl, _, _, _, _, rfl, rfl, SqT.of ht, rfl, e, _, rfl, SqT.of he, (by show 5 ≤ sizeLine; decide), fun z nz => ?_⟩
    exact q z _ (same_upd nz)
end
end K03

/-! a record is made, or refused -/
namespace K03
open PySem PySem.Spec PyProof.Rows L2
theorem pt_never {X : Cx} {e : Expr} : PT X e (fun _ _ _ => False) := ⟨fun _ _ _ _ _ _ h => h.elim⟩
/-- the class of records -/
structure RecC (K : PySem.W.Frag) (CR : Addr) : Prop where
  cl : Cls K CR
  nWidth : NoAttr K CR "width"
  nRows : NoAttr K CR "rows"
  nPersons : NoAttr K CR "persons"
  nFounders : NoAttr K CR "founders"
  nBorn : NoAttr K CR "born"
  nWeddings : NoAttr K CR "weddings"
  nCouples : NoAttr K CR "couples"
  nLiving : NoAttr K CR "living"
  nBook : NoAttr K CR "_book"
/-- BadRecord(..) -/
structure BadC (P : Program) (w : World) (K : PySem.W.Frag) (mg : Str → Option Value) (base : Heap) (C fI : Addr) (fd : FuncData) : Prop where
  cl : OexC K C
  ini : PySem.W.findIn K (.ref C) "__init__" = some (some (.ref fI))
  ty : PySem.W.typeIn K (.ref fI) = some (.type "function")
  gl : mg "BadRecord" = some (.ref C)
  ok : FnOk P w K mg base CX0 1 fI fd ["self", "index", "what"] (spBad C)
  bi : Binds K fd ["self", "index", "what"] []
abbrev recF (wv : V) (ar ap af ab aw ac al b : Addr) : List (Str × V) :=
  [("width", wv), ("rows", .ref ar), ("persons", .ref ap), ("founders", .ref af), ("born", .ref ab), ("weddings", .ref aw), ("couples", .ref ac), ("living", .ref al), ("_book", .ref b)]
def spRec (CR CE : Addr) : Sp := fun vs H Q E => ∃ (x dx : Addr) (lb : Nat → Str) (wv y : V) (n : Nat) (o : Option (Int × Str)), vs = [.ref x, wv, y] ∧ H x = some (.ins CR dx []) ∧ Pl H lb wv y n o ∧
  (o = none → ∀ (H' : Hp) (ar ap af ab aw ac al b : Addr) (ys : List V), H' x = some (.ins CR dx (recF wv ar ap af ab aw ac al b)) → H' ar = some (.tup ys) → ys.length = n → (∀ z u, H z = some u → z ≠ x → H' z = some u) → Q .non H') ∧
  ∀ i z, o = some (i, z) → ∀ (H' : Hp) (d : Addr), H d = none → H' d = some (.xd (badF i z)) → Same H H' → E (.ref CE) (some d) H'

theorem Pl.rows_of {H : Hp} {lb : Nat → Str} {wv y : V} {n : Nat} (p : Pl H lb wv y n none) : ∃ (l : Addr) (ts : List Addr), y = .ref l ∧ (H l = some (.lst (ts.map V.ref)) ∨ H l = some (.tup (ts.map V.ref))) ∧ RowsAt H ts lb ∧ ts.length = n ∧ n ≤ 5000 := by
  cases p with
  | good hl rw h2 g d => exact ⟨_, _, rfl, .inl hl, rw, rfl, h2⟩
  | nil h hl => exact ⟨_, [], rfl, .inl hl, (fun i t e => by cases e), rfl, Nat.zero_le _⟩
  | tup h hl => exact ⟨_, [], rfl, .inr hl, (fun i t e => by cases e), rfl, Nat.zero_le _⟩
/-- within the making of a record: the book stands, the fields made so far -/
structure RSt (CB CR : Addr) (lb : Nat → Str) (n : Nat) (H0 Hc : Hp) (x dx b dxb k p r d m a c : Addr) (rs as : List (Key × V)) (ar : Addr) (ys : List V) (w : Bool) (fs : List (Str × V)) : Prop where
  B : BookAt CB lb n Hc b dxb k p r d m a c rs as
  s : ∀ z u, H0 z = some u → z ≠ x → Hc z = some u
  hx : Hc x = some (.ins CR dx fs)
  bx : b ≠ x
  har : w = true → Hc ar = some (.tup ys)
section
variable {CB CR : Addr} {lb : Nat → Str} {n : Nat} {H0 Hc : Hp} {x dx b dxb k p r d m a c : Addr} {rs as : List (Key × V)} {ar : Addr} {ys : List V} {w : Bool} {fs : List (Str × V)}
theorem RSt.same {H' : Hp} (S : RSt CB CR lb n H0 Hc x dx b dxb k p r d m a c rs as ar ys w fs) (s : Same Hc H') : RSt CB CR lb n H0 H' x dx b dxb k p r d m a c rs as ar ys w fs :=
  ⟨S.B.same s, fun z u e ne => s _ _ (S.s z u e ne), s _ _ S.hx, S.bx, fun e => s _ _ (S.har e)⟩
theorem RSt.put {fs' : List (Str × V)} (S : RSt CB CR lb n H0 Hc x dx b dxb k p r d m a c rs as ar ys w fs) : RSt CB CR lb n H0 (upd Hc x (.ins CR dx fs')) x dx b dxb k p r d m a c rs as ar ys w fs' := by
  have st : ∀ {z : Addr} {u : HO}, Hc z = some u → u ≠ .ins CR dx fs → upd Hc x (.ins CR dx fs') z = some u := fun {z u} e ne => by
    rw [upd_ne (ne_of e S.hx ne)]
    exact e
  have B := S.B
  refine ⟨⟨?_, B.nd, st B.hk (by intro z; cases z), st B.hp (by intro z; cases z), st B.hr (by intro z; cases z), st B.hd (by intro z; cases z), st B.hm (by intro z; cases z), st B.ha (by intro z; cases z), st B.hc (by intro z; cases z), B.lr, B.la⟩, fun z u e ne => ?_, upd_same, S.bx, fun e => st (S.har e) (by intro z; cases z)⟩
  · rw [upd_ne S.bx]
    exact B.hb
  · rw [upd_ne ne]
    exact S.s z u e ne
end
theorem ne_k {k p r d m a c : Addr} (h : [k, p, r, d, m, a, c].Nodup) : p ≠ k ∧ d ≠ k := by
  simp only [List.nodup_cons, List.mem_cons, List.not_mem_nil, not_or, or_false] at h
  exact ⟨Ne.symm h.1.1, Ne.symm h.1.2.2.1⟩
theorem unlock {Hc H3 : Hp} {k : Addr} {od : Obj} {u : HO} (hk : Hc k = some u) (s : Same (upd Hc k (.frz od u)) H3) : Same Hc (upd H3 k u) := fun y o e => by
  by_cases h : y = k
  · subst h
    rw [hk] at e
    rw [upd_same]
    exact e
  · rw [upd_ne h]
    exact s y o (by rw [upd_ne h]; exact e)
section
variable {P : Program} {w : World} {K : PySem.W.Frag} {mg : Str → Option Value} {base : Heap}
abbrev nmR : List Str := ["self", "width", "rows", "book", "fault", "row", "label", "pair"]
theorem scRec : FnScope nmR ["self", "width", "rows"] (defScope sRInit) := ⟨rfl, rfl, rfl, by decide +kernel, rfl, by decide +kernel, by decide +kernel⟩
theorem ok_rec {f fI fW fT fE CB CR CE : Addr} {fd fdI fdW fdT fdE : FuncData} {dvs : List V} (F : FunD K "__init__" "Record.__init__" (defArgs sRInit) (defBody sRInit) (defScope sRInit) dvs [] f fd) (T : RecC K CR) (TB : BookC K CB) (zt : mg "tuple" = none)
    (M : BookMk P w K mg base CB fI fdI) (dW : Df P w K mg base "_write_rows" 6 ["book", "width", "rows"] (spWR CB) fW fdW) (dT : Df P w K mg base "as_tuples" 1 ["row"] spTuples fT fdT) (X : BadC P w K mg base CE fE fdE) :
    FnOk P w K mg base (L2.CX P w) 7 f fd ["self", "width", "rows"] (spRec CR CE) := by
  refine F.ok scRec (fun vs H Q E h => ?_) (fun cdv A outer s H vs Q E hr h => ?_)
  · obtain ⟨x, dx, lb, wv, y, n, o, rfl, _⟩ := h
    rfl
  · obtain ⟨x, dx, lb, wv, y, n, o, rfl, hx, pl, q1, q2⟩ := h
    have hu := hu_of hr
    have hr1 := hr.mono (show 1 ≤ 6 by decide)
    have hr2 := hr.mono (show 2 ≤ 6 by decide)
    refine ⟨_, pss_cons (ps_set (i := 3) scRec.nd rfl (.inr rfl) (pe_make0 M.mks M.ok hr2 (by rfl) M.gl M.bi .nil pass0))
      (pss_cons (ps_set (i := 4) scRec.nd rfl (.inl rfl) (pe_call dW.ok hr (by rfl) dW.gl dW.kp dW.bi .nil pass0 (pa_cons (pv 3) (pa_cons (pv 1) (pa_cons (pv 2) pa_nil)))))
      (pss_cons (ps_if (pt_cmpR op_notN (pv 4) pe_non (nomark _))
          (pss_one (ps_raise rfl (takes_of rfl rfl rfl rfl) (pmk_oex X.cl X.ini X.ty X.ok hr2 X.bi .nil pass0 (by rfl) X.gl (pa_cons (pe_ix ix_tup (pv 4) pe_int (fun _ _ => rfl)) (pa_cons (pe_ix ix_tup (pv 4) pe_int (fun _ _ => rfl)) pa_nil))))) pss_nil)
      (PSs.nox (pss_cons (ps_fld (pv 0) (pv 1) rfl)
      (pss_cons (ps_fld (pv 0) (pe_callTy call_tuple_of (by rfl) zt (by decide +kernel) (pa_cons (pe_lc (own := [("row", 5)]) (g := gName 5) (tt := tYes) rfl scRec.nd (pi_or (pi_list (pv 2)) (pi_tup (pv 2))) (blkOk_by (N := nmR) (sc := defScope sRInit) (by decide +kernel))
          (fun _ _ _ _ _ => pg_name (i := 5) scRec.nd rfl (Or.inl rfl)) (fun _ _ _ _ _ => pts_nil) (fun _ _ _ _ _ => pe_call dT.ok hr1 (by rfl) dT.gl dT.kp dT.bi .nil pass0 (pa_cons (pv 5) pa_nil))) pa_nil)) rfl)
      (pss_cons (ps_fld (pv 0) (pe_callTy (call_tupleD rfl) (by rfl) zt (by decide +kernel) (pa_cons (pe_fld (pv 3) rfl) pa_nil)) rfl)
      (pss_cons (ps_fld (pv 0) (pe_callTy call_tuple_of (by rfl) zt (by decide +kernel) (pa_cons (pe_lock (pe_lc (own := [("label", 6)]) (g := gName 6) (tt := tB (tDNotIn (tVar 6) (tFld K (tVar 3) "parents"))) rfl scRec.nd (pi_keys (pe_fld (pv 3) rfl)) (blkOk_by (N := nmR) (sc := defScope sRInit) (by decide +kernel))
          (fun _ _ _ _ _ => pg_name (i := 6) scRec.nd rfl (Or.inl rfl)) (fun _ _ _ _ _ => pts_one (pt_cmp (pc_dnotin hu (pv 6) (pe_fld (pv 3) rfl)))) (fun _ _ _ _ _ => pv 6))) pa_nil)) rfl)
      (pss_cons (ps_fld (pv 0) (pe_callTy (call_tupleD rfl) (by rfl) zt (by decide +kernel) (pa_cons (pe_fld (pv 3) rfl) pa_nil)) rfl)
      (pss_cons (ps_fld (pv 0) (pe_callTy (call_tupleD rfl) (by rfl) zt (by decide +kernel) (pa_cons (pe_fld (pv 3) rfl) pa_nil)) rfl)
      (pss_cons (ps_fld (pv 0) (pe_callTy call_tuple_of (by rfl) zt (by decide +kernel) (pa_cons (pe_lock (pe_lc (own := [("pair", 7)]) (g := gName 7) rfl scRec.nd (pi_keys (pe_fld (pv 3) rfl)) (blkOk_by (N := nmR) (sc := defScope sRInit) (by decide +kernel))
          (fun _ _ _ _ _ => pg_name (i := 7) scRec.nd rfl (Or.inl rfl)) (fun _ _ _ _ _ => pts_one pt_never) (fun _ _ _ _ _ => pv 7))) pa_nil)) rfl)
      (pss_cons (ps_fld (pv 0) (pe_callTy call_tuple_of (by rfl) zt (by decide +kernel) (pa_cons (pe_lock (pe_lc (own := [("label", 6)]) (g := gName 6) (tt := tB (tDNotIn (tVar 6) (tFld K (tVar 3) "dead"))) rfl scRec.nd (pi_keys (pe_fld (pv 3) rfl)) (blkOk_by (N := nmR) (sc := defScope sRInit) (by decide +kernel))
          (fun _ _ _ _ _ => pg_name (i := 6) scRec.nd rfl (Or.inl rfl)) (fun _ _ _ _ _ => pts_one (pt_cmp (pc_dnotin hu (pv 6) (pe_fld (pv 3) rfl)))) (fun _ _ _ _ _ => pv 6))) pa_nil)) rfl)
      (pss_one (ps_fld (pv 0) (pv 3) rfl))))))))))))), ?_⟩
    intro b dxb nb ndb nedb
    refine ⟨b, dxb, lb, rfl, upd_same, fun H1 k p r d m a c B f nk nr na => ⟨rfl, ?_⟩⟩
    have s0 := same_ins (C := CB) nb ndb nedb
    have s1 : Same H H1 := fun z o e => f z o (s0 z o e) (ne_of_none e nb)
    have fx : ∀ {H2 : Hp}, Fx H1 H2 k r a → Same H H2 := fun {H2} f2 => f2.new s1 (none_of s0 nk) (none_of s0 nr) (none_of s0 na)
    refine ⟨_, rfl, _, rfl, _, rfl, b, dxb, lb, k, p, r, d, m, a, c, wv, y, n, o, rfl, B, pl.same s1, fun eo H2 rs as B2 f2 => ⟨_, rfl, rfl, _, rfl, iteF ?_⟩, fun i z eo H2 t f2 ht => ⟨_, rfl, rfl, _, rfl, iteT ?_⟩⟩
    · subst eo
      obtain ⟨l, ts, rfl, hl, rws, en, hn⟩ := pl.rows_of
      have s2 := fx f2
      have bx : b ≠ x := Ne.symm (ne_of_none hx nb)
      have S2 : RSt CB CR lb n H H2 x dx b dxb k p r d m a c rs as 0 [] false [] := ⟨B2, fun z u e _ => s2 z u e, s2 _ _ hx, bx, fun e => by cases e⟩
      refine ⟨_, rfl, _, rfl, x, CR, dx, _, rfl, S2.hx, T.cl, T.nWidth, by decide, ?_⟩
      have S3 := S2.put (fs' := putF "width" wv [])
      generalize upd H2 x (.ins CR dx (putF "width" wv [])) = H3 at S3
      have lx : l ≠ x := by
        rcases hl with hl | hl
        · exact ne_of hl hx (by intro z; cases z)
        · exact ne_of hl hx (by intro z; cases z)
      have rw3 : RowsAt H3 ts lb := fun i t et => by
        obtain ⟨e, h1, h2⟩ := rws i t et
        exact ⟨e, S3.s _ _ h1 (ne_of h1 hx (by intro z; cases z)), S3.s _ _ h2 (ne_of h2 hx (by intro z; cases z))⟩
      rcases hl with hl | hl
      · have hl3 := S3.s _ _ hl lx
        refine .inl ⟨_, rfl, l, rfl, ⟨_, SqL.of hl3⟩, fun D nD => lc_it walk_list (fun i H' => ∃ acc : List V, acc.length = i ∧ H' D = some (.lst acc) ∧ Same H3 H') ⟨[], rfl, upd_same, same_upd nD⟩ (fun i H' _ ⟨_, _, _, s⟩ => SqL.of (s _ _ hl3)) ?_ ?_⟩
        · rintro i v H4 H5 hi ⟨acc, hacc, eD, s4⟩ ⟨rfl, ev⟩
          obtain ⟨t, et, rfl⟩ := map_ref_at ev
          have hi' : i < 5000 := by
            rw [List.length_map] at hi
            omega
          refine ⟨rfl, _, rfl, t, lb i, i, rfl, (rw3 i t et).same s4, fun z H6 s6 => ⟨acc, s6 _ _ eD, by rw [hacc]; exact lt_line (Nat.le_refl _) (Nat.lt_trans hi' (by decide)), acc ++ [.ref z], by rw [List.length_append, hacc]; rfl, upd_same, fun y' o' e' => ?_⟩⟩
          rw [upd_ne (ne_of_none e' nD)]
          exact s6 _ _ (s4 _ _ e')
        · rintro H4 ⟨ys, hacc, eD, s4⟩
          rw [List.length_map, en] at hacc
          refine ⟨D, ys, rfl, .inl ⟨SqL.of eD, fun ar hc => ?_⟩⟩
          have S0 := (S3.same s4).same (same_upd (o := .tup ys) hc)
          have S : RSt CB CR lb n H _ x dx b dxb k p r d m a c rs as ar ys true _ := ⟨S0.B, S0.s, S0.hx, S0.bx, fun _ => upd_same⟩
          clear S0 s4 eD nD
          refine ⟨_, rfl, x, CR, dx, _, rfl, S.hx, T.cl, T.nRows, (show 1 < 1000 by decide), ?_⟩
          replace S := S.put (fs' := (putF "rows" (.ref ar) (putF "width" wv [])))
          clear hc
          refine ⟨_, rfl, b, CB, dxb, _, _, rfl, S.B.hb, TB.cl, TB.nKinds, rfl, k, _, rfl, .inl S.B.hk, fun ap hc => ?_⟩
          replace S := S.same (same_upd (o := .tup ((kindsL lb n).map fun kv => kV kv.1)) hc)
          refine ⟨_, rfl, x, CR, dx, _, rfl, S.hx, T.cl, T.nPersons, (show 2 < 1000 by decide), ?_⟩
          replace S := S.put (fs' := (putF "persons" (.ref ap) (putF "rows" (.ref ar) (putF "width" wv []))))
          clear hc
          refine ⟨k, _, S.B.hk, trivial, fun od => ?_⟩
          refine ⟨_, rfl, b, CB, dxb, _, _, rfl, by rw [upd_ne (ne_of S.B.hb S.B.hk (by intro z; cases z))]; exact S.B.hb, TB.cl, TB.nKinds, rfl, k, od, rfl, .inl ⟨_, upd_same, fun D nD => lc_it walk_keys (fun i H' => Same _ H' ∧ ∃ acc : List V, acc.length ≤ i ∧ H' D = some (.lst acc)) ⟨same_upd nD, [], Nat.le_refl _, upd_same⟩ (fun i H' _ h => h.1 _ _ upd_same) ?_ ?_⟩⟩
          · rintro i v H6 H7 hi ⟨s6, acc, ha, eD⟩ ⟨rfl, kk, vv, ek, rfl⟩
            have hi' : i < 5000 := by
              have z : (kindsL lb n).length = n := by
                unfold kindsL
                rw [List.length_map, List.length_range]
              omega
            have hb6 := s6 _ _ ((upd_ne (o := .frz od (.dK (kindsL lb n))) (ne_of S.B.hb S.B.hk (by intro z; cases z))).trans S.B.hb)
            have ho6 := s6 _ _ ((upd_ne (o := .frz od (.dK (kindsL lb n))) (ne_k S.B.nd).1).trans S.B.hp)
            refine ⟨rfl, _, rfl, _, rfl, b, CB, dxb, _, _, rfl, hb6, TB.cl, TB.nParents, rfl, p, _, rfl, DGet.k (k := kk) ho6, _, rfl, iteT ⟨_, rfl, acc, eD, lt_line ha (Nat.lt_trans hi' (by decide)), fun y' o' e' => ?_, _, ?_, upd_same⟩⟩
            · rw [upd_ne (ne_of_none e' nD)]
              exact s6 _ _ e'
            · rw [List.length_append]
              exact Nat.succ_le_succ ha
          rintro H6 ⟨s6, acc, ha, eD⟩
          have sl := unlock S.B.hk s6
          have nDk : D ≠ k := Ne.symm (ne_of_none upd_same nD)
          refine ⟨s6 _ _ upd_same, D, acc, rfl, .inl ⟨SqL.of ((upd_ne nDk).trans eD), fun af hc => ?_⟩⟩
          replace S := (S.same sl).same (same_upd (o := .tup acc) hc)
          clear sl nDk eD ha s6 nD
          refine ⟨_, rfl, x, CR, dx, _, rfl, S.hx, T.cl, T.nFounders, (show 3 < 1000 by decide), ?_⟩
          replace S := S.put (fs' := (putF "founders" (.ref af) (putF "persons" (.ref ap) (putF "rows" (.ref ar) (putF "width" wv [])))))
          clear hc
          refine ⟨_, rfl, b, CB, dxb, _, _, rfl, S.B.hb, TB.cl, TB.nParents, rfl, p, _, rfl, .inl S.B.hp, fun ab hc => ?_⟩
          replace S := S.same (same_upd (o := .tup ((([] : List (Key × V))).map fun kv => kV kv.1)) hc)
          refine ⟨_, rfl, x, CR, dx, _, rfl, S.hx, T.cl, T.nBorn, (show 4 < 1000 by decide), ?_⟩
          replace S := S.put (fs' := (putF "born" (.ref ab) (putF "founders" (.ref af) (putF "persons" (.ref ap) (putF "rows" (.ref ar) (putF "width" wv []))))))
          clear hc
          refine ⟨_, rfl, b, CB, dxb, _, _, rfl, S.B.hb, TB.cl, TB.nKids, rfl, c, _, rfl, .inl S.B.hc, fun aw hc => ?_⟩
          replace S := S.same (same_upd (o := .tup ((([] : List (Key × V))).map fun kv => kV kv.1)) hc)
          refine ⟨_, rfl, x, CR, dx, _, rfl, S.hx, T.cl, T.nWeddings, (show 5 < 1000 by decide), ?_⟩
          replace S := S.put (fs' := (putF "weddings" (.ref aw) (putF "born" (.ref ab) (putF "founders" (.ref af) (putF "persons" (.ref ap) (putF "rows" (.ref ar) (putF "width" wv [])))))))
          clear hc
          refine ⟨c, _, S.B.hc, trivial, fun od => ?_⟩
          refine ⟨_, rfl, b, CB, dxb, _, _, rfl, by rw [upd_ne (ne_of S.B.hb S.B.hc (by intro z; cases z))]; exact S.B.hb, TB.cl, TB.nKids, rfl, c, od, rfl, .inl ⟨_, upd_same, fun D nD => lc_it (tt := fun _ _ _ => False) (te := tVar 7) walk_keys (fun i H' => Same _ H' ∧ ∃ acc : List V, acc.length ≤ i ∧ H' D = some (.lst acc)) ⟨same_upd nD, [], Nat.le_refl _, upd_same⟩ (fun i H' _ h => h.1 _ _ upd_same) ?_ ?_⟩⟩
          · intro i _ _ _ hi
            exact absurd hi (Nat.not_lt_zero i)
          rintro H6 ⟨s6, acc, ha, eD⟩
          have sl := unlock S.B.hc s6
          have nDk : D ≠ c := Ne.symm (ne_of_none upd_same nD)
          refine ⟨s6 _ _ upd_same, D, acc, rfl, .inl ⟨SqL.of ((upd_ne nDk).trans eD), fun ac hc => ?_⟩⟩
          replace S := (S.same sl).same (same_upd (o := .tup acc) hc)
          clear sl nDk eD ha s6 nD
          refine ⟨_, rfl, x, CR, dx, _, rfl, S.hx, T.cl, T.nCouples, (show 6 < 1000 by decide), ?_⟩
          replace S := S.put (fs' := (putF "couples" (.ref ac) (putF "weddings" (.ref aw) (putF "born" (.ref ab) (putF "founders" (.ref af) (putF "persons" (.ref ap) (putF "rows" (.ref ar) (putF "width" wv []))))))))
          clear hc
          refine ⟨k, _, S.B.hk, trivial, fun od => ?_⟩
          refine ⟨_, rfl, b, CB, dxb, _, _, rfl, by rw [upd_ne (ne_of S.B.hb S.B.hk (by intro z; cases z))]; exact S.B.hb, TB.cl, TB.nKinds, rfl, k, od, rfl, .inl ⟨_, upd_same, fun D nD => lc_it walk_keys (fun i H' => Same _ H' ∧ ∃ acc : List V, acc.length ≤ i ∧ H' D = some (.lst acc)) ⟨same_upd nD, [], Nat.le_refl _, upd_same⟩ (fun i H' _ h => h.1 _ _ upd_same) ?_ ?_⟩⟩
          · rintro i v H6 H7 hi ⟨s6, acc, ha, eD⟩ ⟨rfl, kk, vv, ek, rfl⟩
            have hi' : i < 5000 := by
              have z : (kindsL lb n).length = n := by
                unfold kindsL
                rw [List.length_map, List.length_range]
              omega
            have hb6 := s6 _ _ ((upd_ne (o := .frz od (.dK (kindsL lb n))) (ne_of S.B.hb S.B.hk (by intro z; cases z))).trans S.B.hb)
            have ho6 := s6 _ _ ((upd_ne (o := .frz od (.dK (kindsL lb n))) (ne_k S.B.nd).2).trans S.B.hd)
            refine ⟨rfl, _, rfl, _, rfl, b, CB, dxb, _, _, rfl, hb6, TB.cl, TB.nDead, rfl, d, _, rfl, DGet.k (k := kk) ho6, _, rfl, iteT ⟨_, rfl, acc, eD, lt_line ha (Nat.lt_trans hi' (by decide)), fun y' o' e' => ?_, _, ?_, upd_same⟩⟩
            · rw [upd_ne (ne_of_none e' nD)]
              exact s6 _ _ e'
            · rw [List.length_append]
              exact Nat.succ_le_succ ha
          rintro H6 ⟨s6, acc, ha, eD⟩
          have sl := unlock S.B.hk s6
          have nDk : D ≠ k := Ne.symm (ne_of_none upd_same nD)
          refine ⟨s6 _ _ upd_same, D, acc, rfl, .inl ⟨SqL.of ((upd_ne nDk).trans eD), fun al hc => ?_⟩⟩
          replace S := (S.same sl).same (same_upd (o := .tup acc) hc)
          clear sl nDk eD ha s6 nD
          refine ⟨_, rfl, x, CR, dx, _, rfl, S.hx, T.cl, T.nLiving, (show 7 < 1000 by decide), ?_⟩
          replace S := S.put (fs' := (putF "living" (.ref al) (putF "couples" (.ref ac) (putF "weddings" (.ref aw) (putF "born" (.ref ab) (putF "founders" (.ref af) (putF "persons" (.ref ap) (putF "rows" (.ref ar) (putF "width" wv [])))))))))
          clear hc
          refine ⟨_, rfl, _, rfl, x, CR, dx, _, rfl, S.hx, T.cl, T.nBook, (show 8 < 1000 by decide), ?_⟩
          replace S := S.put (fs' := recF wv ar ap af ab aw ac al b)
          exact q1 rfl _ ar ap af ab aw ac al b ys S.hx (S.har rfl) hacc S.s
      · have hl3 := S3.s _ _ hl lx
        refine .inr ⟨_, rfl, l, rfl, ⟨_, SqT.of hl3⟩, fun D nD => lc_it walk_tup (fun i H' => ∃ acc : List V, acc.length = i ∧ H' D = some (.lst acc) ∧ Same H3 H') ⟨[], rfl, upd_same, same_upd nD⟩ (fun i H' _ ⟨_, _, _, s⟩ => SqT.of (s _ _ hl3)) ?_ ?_⟩
        · rintro i v H4 H5 hi ⟨acc, hacc, eD, s4⟩ ⟨rfl, ev⟩
          obtain ⟨t, et, rfl⟩ := map_ref_at ev
          have hi' : i < 5000 := by
            rw [List.length_map] at hi
            omega
          refine ⟨rfl, _, rfl, t, lb i, i, rfl, (rw3 i t et).same s4, fun z H6 s6 => ⟨acc, s6 _ _ eD, by rw [hacc]; exact lt_line (Nat.le_refl _) (Nat.lt_trans hi' (by decide)), acc ++ [.ref z], by rw [List.length_append, hacc]; rfl, upd_same, fun y' o' e' => ?_⟩⟩
          rw [upd_ne (ne_of_none e' nD)]
          exact s6 _ _ (s4 _ _ e')
        · rintro H4 ⟨ys, hacc, eD, s4⟩
          rw [List.length_map, en] at hacc
          refine ⟨D, ys, rfl, .inl ⟨SqL.of eD, fun ar hc => ?_⟩⟩
          have S0 := (S3.same s4).same (same_upd (o := .tup ys) hc)
          have S : RSt CB CR lb n H _ x dx b dxb k p r d m a c rs as ar ys true _ := ⟨S0.B, S0.s, S0.hx, S0.bx, fun _ => upd_same⟩
          clear S0 s4 eD nD
          refine ⟨_, rfl, x, CR, dx, _, rfl, S.hx, T.cl, T.nRows, (show 1 < 1000 by decide), ?_⟩
          replace S := S.put (fs' := (putF "rows" (.ref ar) (putF "width" wv [])))
          clear hc
          refine ⟨_, rfl, b, CB, dxb, _, _, rfl, S.B.hb, TB.cl, TB.nKinds, rfl, k, _, rfl, .inl S.B.hk, fun ap hc => ?_⟩
          replace S := S.same (same_upd (o := .tup ((kindsL lb n).map fun kv => kV kv.1)) hc)
          refine ⟨_, rfl, x, CR, dx, _, rfl, S.hx, T.cl, T.nPersons, (show 2 < 1000 by decide), ?_⟩
          replace S := S.put (fs' := (putF "persons" (.ref ap) (putF "rows" (.ref ar) (putF "width" wv []))))
          clear hc
          refine ⟨k, _, S.B.hk, trivial, fun od => ?_⟩
          refine ⟨_, rfl, b, CB, dxb, _, _, rfl, by rw [upd_ne (ne_of S.B.hb S.B.hk (by intro z; cases z))]; exact S.B.hb, TB.cl, TB.nKinds, rfl, k, od, rfl, .inl ⟨_, upd_same, fun D nD => lc_it walk_keys (fun i H' => Same _ H' ∧ ∃ acc : List V, acc.length ≤ i ∧ H' D = some (.lst acc)) ⟨same_upd nD, [], Nat.le_refl _, upd_same⟩ (fun i H' _ h => h.1 _ _ upd_same) ?_ ?_⟩⟩
          · rintro i v H6 H7 hi ⟨s6, acc, ha, eD⟩ ⟨rfl, kk, vv, ek, rfl⟩
            have hi' : i < 5000 := by
              have z : (kindsL lb n).length = n := by
                unfold kindsL
                rw [List.length_map, List.length_range]
              omega
            have hb6 := s6 _ _ ((upd_ne (o := .frz od (.dK (kindsL lb n))) (ne_of S.B.hb S.B.hk (by intro z; cases z))).trans S.B.hb)
            have ho6 := s6 _ _ ((upd_ne (o := .frz od (.dK (kindsL lb n))) (ne_k S.B.nd).1).trans S.B.hp)
            refine ⟨rfl, _, rfl, _, rfl, b, CB, dxb, _, _, rfl, hb6, TB.cl, TB.nParents, rfl, p, _, rfl, DGet.k (k := kk) ho6, _, rfl, iteT ⟨_, rfl, acc, eD, lt_line ha (Nat.lt_trans hi' (by decide)), fun y' o' e' => ?_, _, ?_, upd_same⟩⟩
            · rw [upd_ne (ne_of_none e' nD)]
              exact s6 _ _ e'
            · rw [List.length_append]
              exact Nat.succ_le_succ ha
          rintro H6 ⟨s6, acc, ha, eD⟩
          have sl := unlock S.B.hk s6
          have nDk : D ≠ k := Ne.symm (ne_of_none upd_same nD)
          refine ⟨s6 _ _ upd_same, D, acc, rfl, .inl ⟨SqL.of ((upd_ne nDk).trans eD), fun af hc => ?_⟩⟩
          replace S := (S.same sl).same (same_upd (o := .tup acc) hc)
          clear sl nDk eD ha s6 nD
          refine ⟨_, rfl, x, CR, dx, _, rfl, S.hx, T.cl, T.nFounders, (show 3 < 1000 by decide), ?_⟩
          replace S := S.put (fs' := (putF "founders" (.ref af) (putF "persons" (.ref ap) (putF "rows" (.ref ar) (putF "width" wv [])))))
          clear hc
          refine ⟨_, rfl, b, CB, dxb, _, _, rfl, S.B.hb, TB.cl, TB.nParents, rfl, p, _, rfl, .inl S.B.hp, fun ab hc => ?_⟩
          replace S := S.same (same_upd (o := .tup ((([] : List (Key × V))).map fun kv => kV kv.1)) hc)
          refine ⟨_, rfl, x, CR, dx, _, rfl, S.hx, T.cl, T.nBorn, (show 4 < 1000 by decide), ?_⟩
          replace S := S.put (fs' := (putF "born" (.ref ab) (putF "founders" (.ref af) (putF "persons" (.ref ap) (putF "rows" (.ref ar) (putF "width" wv []))))))
          clear hc
          refine ⟨_, rfl, b, CB, dxb, _, _, rfl, S.B.hb, TB.cl, TB.nKids, rfl, c, _, rfl, .inl S.B.hc, fun aw hc => ?_⟩
          replace S := S.same (same_upd (o := .tup ((([] : List (Key × V))).map fun kv => kV kv.1)) hc)
          refine ⟨_, rfl, x, CR, dx, _, rfl, S.hx, T.cl, T.nWeddings, (show 5 < 1000 by decide), ?_⟩
          replace S := S.put (fs' := (putF "weddings" (.ref aw) (putF "born" (.ref ab) (putF "founders" (.ref af) (putF "persons" (.ref ap) (putF "rows" (.ref ar) (putF "width" wv [])))))))
          clear hc
          refine ⟨c, _, S.B.hc, trivial, fun od => ?_⟩
          refine ⟨_, rfl, b, CB, dxb, _, _, rfl, by rw [upd_ne (ne_of S.B.hb S.B.hc (by intro z; cases z))]; exact S.B.hb, TB.cl, TB.nKids, rfl, c, od, rfl, .inl ⟨_, upd_same, fun D nD => lc_it (tt := fun _ _ _ => False) (te := tVar 7) walk_keys (fun i H' => Same _ H' ∧ ∃ acc : List V, acc.length ≤ i ∧ H' D = some (.lst acc)) ⟨same_upd nD, [], Nat.le_refl _, upd_same⟩ (fun i H' _ h => h.1 _ _ upd_same) ?_ ?_⟩⟩
          · intro i _ _ _ hi
            exact absurd hi (Nat.not_lt_zero i)
          rintro H6 ⟨s6, acc, ha, eD⟩
          have sl := unlock S.B.hc s6
          have nDk : D ≠ c := Ne.symm (ne_of_none upd_same nD)
          refine ⟨s6 _ _ upd_same, D, acc, rfl, .inl ⟨SqL.of ((upd_ne nDk).trans eD), fun ac hc => ?_⟩⟩
          replace S := (S.same sl).same (same_upd (o := .tup acc) hc)
          clear sl nDk eD ha s6 nD
          refine ⟨_, rfl, x, CR, dx, _, rfl, S.hx, T.cl, T.nCouples, (show 6 < 1000 by decide), ?_⟩
          replace S := S.put (fs' := (putF "couples" (.ref ac) (putF "weddings" (.ref aw) (putF "born" (.ref ab) (putF "founders" (.ref af) (putF "persons" (.ref ap) (putF "rows" (.ref ar) (putF "width" wv []))))))))
          clear hc
          refine ⟨k, _, S.B.hk, trivial, fun od => ?_⟩
          refine ⟨_, rfl, b, CB, dxb, _, _, rfl, by rw [upd_ne (ne_of S.B.hb S.B.hk (by intro z; cases z))]; exact S.B.hb, TB.cl, TB.nKinds, rfl, k, od, rfl, .inl ⟨_, upd_same, fun D nD => lc_it walk_keys (fun i H' => Same _ H' ∧ ∃ acc : List V, acc.length ≤ i ∧ H' D = some (.lst acc)) ⟨same_upd nD, [], Nat.le_refl _, upd_same⟩ (fun i H' _ h => h.1 _ _ upd_same) ?_ ?_⟩⟩
          · rintro i v H6 H7 hi ⟨s6, acc, ha, eD⟩ ⟨rfl, kk, vv, ek, rfl⟩
            have hi' : i < 5000 := by
              have z : (kindsL lb n).length = n := by
                unfold kindsL
                rw [List.length_map, List.length_range]
              omega
            have hb6 := s6 _ _ ((upd_ne (o := .frz od (.dK (kindsL lb n))) (ne_of S.B.hb S.B.hk (by intro z; cases z))).trans S.B.hb)
            have ho6 := s6 _ _ ((upd_ne (o := .frz od (.dK (kindsL lb n))) (ne_k S.B.nd).2).trans S.B.hd)
            refine ⟨rfl, _, rfl, _, rfl, b, CB, dxb, _, _, rfl, hb6, TB.cl, TB.nDead, rfl, d, _, rfl, DGet.k (k := kk) ho6, _, rfl, iteT ⟨_, rfl, acc, eD, lt_line ha (Nat.lt_trans hi' (by decide)), fun y' o' e' => ?_, _, ?_, upd_same⟩⟩
            · rw [upd_ne (ne_of_none e' nD)]
              exact s6 _ _ e'
            · rw [List.length_append]
              exact Nat.succ_le_succ ha
          rintro H6 ⟨s6, acc, ha, eD⟩
          have sl := unlock S.B.hk s6
          have nDk : D ≠ k := Ne.symm (ne_of_none upd_same nD)
          refine ⟨s6 _ _ upd_same, D, acc, rfl, .inl ⟨SqL.of ((upd_ne nDk).trans eD), fun al hc => ?_⟩⟩
          replace S := (S.same sl).same (same_upd (o := .tup acc) hc)
          clear sl nDk eD ha s6 nD
          refine ⟨_, rfl, x, CR, dx, _, rfl, S.hx, T.cl, T.nLiving, (show 7 < 1000 by decide), ?_⟩
          replace S := S.put (fs' := (putF "living" (.ref al) (putF "couples" (.ref ac) (putF "weddings" (.ref aw) (putF "born" (.ref ab) (putF "founders" (.ref af) (putF "persons" (.ref ap) (putF "rows" (.ref ar) (putF "width" wv [])))))))))
          clear hc
          refine ⟨_, rfl, _, rfl, x, CR, dx, _, rfl, S.hx, T.cl, T.nBook, (show 8 < 1000 by decide), ?_⟩
          replace S := S.put (fs' := recF wv ar ap af ab aw ac al b)
          exact q1 rfl _ ar ap af ab aw ac al b ys S.hx (S.har rfl) hacc S.s
    · have s2 := fx f2
      refine ⟨_, rfl, _, _, _, _, rfl, rfl, SqT.of ht, rfl, _, rfl, _, _, _, _, rfl, rfl, SqT.of ht, rfl, (by show 2 ≤ 1000; decide), fun av nav => ⟨av, i, z, rfl, upd_same, fun H3 dd nd3 ha3 hd3 kp => ⟨rfl, dd, _, ha3, hd3, ?_, ?_⟩⟩⟩
      · exact none_of (same_upd nav) nd3
      · refine q2 i z eo _ dd (none_of s2 (none_of (same_upd nav) nd3)) upd_same fun y' o' e' => ?_
        have e2 := s2 _ _ e'
        rw [upd_ne (ne_of_none e2 (none_of (same_upd nav) nd3)), del_ne (ne_of_none e2 nav)]
        exact kp _ _ (ne_of_none e2 nav) (same_upd nav _ _ e2)
end
end K03

/-! len of an instance whose class has its own __len__ -/
namespace K03
open PySem PySem.Spec PyProof.Rows L2
theorem call_len_ins {X : Cx} {C f : Addr} {k : Nat} {fd : FuncData} {sp : Sp} (hl : PySem.W.findIn X.K (.ref C) "__len__" = some (some (.ref f))) (tf : PySem.W.typeIn X.K (.ref f) = some (.type "function"))
    (F : FnOk X.prog X.w X.K X.mg X.base CX0 k f fd ["self"] sp) (hr : Room (k + 1) X.A) (hb : Binds X.K fd ["self"] []) :
    CallR X (.builtin "len") (fun xs H Q => ∃ (a dx : Addr) (fs : List (Str × V)), xs = [.ref a] ∧ H a = some (.ins C dx fs) ∧ sp [.ref a] H (fun v H' => ∃ n : Nat, v = .int (n : Int) ∧ n ≤ sizeLine ∧ Q (.int (n : Int)) H') E0) := by
  intro pins s σ H xs us Q I r h
  obtain ⟨a, dx, fs, rfl, ha, hsp⟩ := h
  obtain ⟨u, rfl, rx⟩ := vals1 r
  cases rx
  obtain ⟨mA, J, _⟩ := ins_get I.hok ha
  obtain ⟨od, J, _⟩ := J.look
  refine Calls.call_function_entry kind_len plain_len entry_len (args_len1 _) ?_
  unfold Builtin.«len»
  refine wpAny_bind (m := oneArg "len" _) (wpAny_pure ?_)
  refine wpAny_bind (m := callSpecial? (.ref a) (Str.ofString "__len__")) ?_
  unfold callSpecial? specialOf
  refine wpAny_bind (wpAny_bind (J.type.here ((PySem.W.looks_findIn I.kIn hl).here ?_)))
  refine wpAny_holding ?_
  refine wpAny_bind ((PySem.W.bind_fn I.kIn _ tf).here ?_)
  have r2 : Vals [V.ref a] [Value.ref a] := .cons rfl .nil
  have hlen := F.len _ _ _ _ hsp
  refine wpAny_bind (wpAny_call (codeAny_mono (F.run X.A.in1 X.stack s H ⟨[.ref a], []⟩ [.ref a] [.ref a] _ _ hr.in1 I.env0.in1 (by
    have := hb s [.ref a] I.kIn (by simpa using hlen)
    simpa using this) r2 hsp) fun r s' hq => ?_))
  cases r with
  | error e => exact hq.elim
  | ok fl =>
    cases fl with
    | ret u =>
      obtain ⟨v, H', I', rv, n, rfl, hn, q⟩ := I.after hq
      obtain ⟨tk, rfl⟩ := rv
      rw [sizeLine_eq] at hn
      refine wpAny_pure ?_
      refine wpAny_bind (wpAny_holding (wpAny_pure ?_))
      refine wpAny_bind (wpAny_letGo ?_)
      show wpAny _ _ (if (n : Int) < 0 then _ else _) _ _ _
      rw [if_neg (by omega)]
      show wpAny _ _ (if (n : Int) ≥ 2 ^ 63 then _ else _) _ _ _
      rw [if_neg (by omega)]
      exact wpAny_bind (wpAny_mkInt (wpAny_pure ⟨_, rfl, .int (n : Int), H', I'.tok _, ⟨_, rfl⟩, q⟩))
    | next => exact False.elim hq
    | brk => exact False.elim hq
    | cont => exact False.elim hq
end K03

/-! a record is asked for: made, or refused by which fault -/
namespace K03
open PySem PySem.Spec PyProof.Rows L2
/-- C(..) in a try: its __init__ may raise -/
def tMakeS (C : Addr) (sp : Sp) (E : L2.St → XK) (t : TA) : TE := fun σ H Q => t σ H fun vs H1 => ∀ x dx, H1 x = none → H1 dx = none → dx ≠ x →
  sp (.ref x :: vs) (upd (upd H1 dx (.own x)) x (.ins C dx [])) (fun v H2 => v = .non ∧ Q (.ref x) H2) (E σ)
section
variable {X : Cx} {CX : CXT} {k : Nat} {f C : Addr} {fd : FuncData} {ps : List Str} {sp : Sp} {E : L2.St → XK} {x : Str} {p pos : Pos} {e : Expr} {es : List Expr} {t : TA}
theorem run_makeS {pins : List (Addr × Obj)} {σ : L2.St} {H : Hp} {s : Shared} {Q : VK} {us : List Value} {vs : List V} (M : Mk X.K C f) (F : FnOk X.prog X.w X.K X.mg X.base CX k f fd ps sp) (hr : Room (k + 1) X.A) (hb : Binds X.K fd ps [])
    (hx : PassesAt CX X σ (E σ)) (I : Inv X pins σ H s) (r : Vals vs us)
    (h : ∀ x dx, H x = none → H dx = none → dx ≠ x → sp (.ref x :: vs) (upd (upd H dx (.own x)) x (.ins C dx [])) (fun v H2 => v = .non ∧ Q (.ref x) H2) (E σ)) :
    wpAny (model X.prog X.w) X.A (call (.ref C) us) (EP X pins σ Q) X.xe s := by
  have hq := h (s.heap.objs.size + 1) s.heap.objs.size (I.hok.fresh (Nat.le_succ _)) (I.hok.fresh (Nat.le_refl _)) (Nat.ne_of_lt (Nat.lt_succ_self _))
  have I2 := Inv.made (C := C) I
  have r2 : Vals (V.ref (s.heap.objs.size + 1) :: vs) (Value.ref (s.heap.objs.size + 1) :: us) := .cons rfl r
  have hl : (Value.ref (s.heap.objs.size + 1) :: us ++ []).length = ps.length := by
    have e := r2.length
    rw [F.len _ _ _ _ hq] at e
    rw [List.append_nil]
    exact e.symm
  have hbb := hb _ (Value.ref (s.heap.objs.size + 1) :: us) I2.kIn hl
  rw [List.append_nil] at hbb
  refine wpAny_call (make_map (f := f) I.kIn M.makes M.init (beq_iff_eq.mp M.fn) (codeAny_mono (F.run _ X.stack _ _ ⟨Value.ref (s.heap.objs.size + 1) :: us, []⟩ (Value.ref (s.heap.objs.size + 1) :: us) _ _ (E σ) (hr.make C us [])
    (I2.env0.make C us []) hbb r2 hq) fun r s' hq' => ?_))
  cases r with
  | error e => exact hx pins _ _ e s' I2 hq'
  | ok fl =>
    cases fl with
    | ret u =>
      obtain ⟨v, H', I3, rv, ev, q3⟩ := I2.after hq'
      subst ev
      exact ⟨rv, ⟨V.ref (s.heap.objs.size + 1), H', I3, rfl, q3⟩⟩
    | next => exact False.elim hq'
    | brk => exact False.elim hq'
    | cont => exact False.elim hq'
theorem pe_makeS (M : Mk X.K C f) (F : FnOk X.prog X.w X.K X.mg X.base CX k f fd ps sp) (hr : Room (k + 1) X.A) (hg : Gl X x) (hm : X.mg x = some (.ref C)) (hb : Binds X.K fd ps []) (hx : ∀ σ, PassesAt CX X σ (E σ))
    (ha : PA X (e :: es) t) (hdb : (x == ("__debug__" : Str)) = false := by decide) (he : starEach (e :: es) X.env = (false, eval e X.env) :: starEach es X.env := by rfl) (hpl : (backTo pos (starEach es X.env)).any (·.1) = false := by rfl) :
    PE X (.Call (.Name x p) (e :: es) [] pos) (tMakeS C sp E t) := by
  refine ⟨fun pins s σ H Q I h => ?_⟩
  refine wpAny_Call_Name_kw (ld_glob I hg hm ?_ hdb)
  refine PySem.W.callWith_K (h₀ := X.base) I.ok.mod.kin M.kp (thn (ha.run pos pins s σ H _ I h) fun us s1 ⟨vs, H1, I1, r, q⟩ => ⟨I1.kIn, ?_⟩) he hpl
  exact run_makeS M F hr hb (hx σ) I1 r q
end
abbrev sRLen : Stmt := inClass (top 26) 17
def spLenR (CR : Addr) : Sp := fun vs H Q _ => ∃ (x dx ar : Addr) (fs : List (Str × V)) (ys : List V), vs = [.ref x] ∧ H x = some (.ins CR dx fs) ∧ fs.lookup ("rows" : Str) = some (V.ref ar) ∧ H ar = some (.tup ys) ∧ Q (.int ys.length) H
def spAsked : Sp := fun vs H Q _ => ∃ (lb : Nat → Str) (wv y : V) (n : Nat) (o : Option (Int × Str)), vs = [wv, y] ∧ Pl H lb wv y n o ∧
  (o = none → ∀ (H' : Hp) (z : Addr), Same H H' → H' z = some (.tup [.str "made", wv, .int n]) → Q (.ref z) H') ∧
  ∀ i x, o = some (i, x) → ∀ (H' : Hp) (z : Addr), Same H H' → H' z = some (.tup [.str "refused", .int i, .str x]) → Q (.ref z) H'
/-- Record(..), len of it -/
structure RecMk (P : Program) (w : World) (K : PySem.W.Frag) (mg : Str → Option Value) (base : Heap) (CR CE fI fL : Addr) (fdI fdL : FuncData) : Prop where
  cl : RecC K CR
  mks : Mk K CR fI
  gl : mg "Record" = some (.ref CR)
  ok : FnOk P w K mg base (L2.CX P w) 7 fI fdI ["self", "width", "rows"] (spRec CR CE)
  bi : Binds K fdI ["self", "width", "rows"] []
  len : PySem.W.findIn K (.ref CR) "__len__" = some (some (.ref fL))
  tyL : PySem.W.typeIn K (.ref fL) = some (.type "function")
  okL : FnOk P w K mg base CX0 1 fL fdL ["self"] (spLenR CR)
  biL : Binds K fdL ["self"] []
  gE : mg "BadRecord" = some (.ref CE)
  xf : XfC K CE
  nI : PySem.W.findIn K (.ref CE) "index" = some none
  nW : PySem.W.findIn K (.ref CE) "what" = some none
  ex : PySem.W.exmOne K (.ref CE) (.ref CE) = some true
section
variable {P : Program} {w : World} {K : PySem.W.Frag} {mg : Str → Option Value} {base : Heap}
theorem ok_rlen {f CR : Addr} {fd : FuncData} (F : FunD K "__len__" "Record.__len__" (defArgs sRLen) (defBody sRLen) (defScope sRLen) [] [] f fd) (T : RecC K CR) (zl : mg "len" = none) : FnOk P w K mg base CX0 1 f fd ["self"] (spLenR CR) := by
  have sc : FnScope ["self"] ["self"] (defScope sRLen) := ⟨rfl, rfl, rfl, by decide +kernel, rfl, by decide +kernel, by decide +kernel⟩
  refine F.ok sc (fun vs H Q E h => ?_) (fun cdv A outer s H vs Q E hr h => ?_)
  · obtain ⟨x, dx, ar, fs, ys, rfl, _⟩ := h
    rfl
  · obtain ⟨x, dx, ar, fs, ys, rfl, hx, hl, ha, q⟩ := h
    refine ⟨_, PSs.nox (pss_one (ps_ret (pe_callB call_len_seq (by rfl) zl boot_len (pa_cons (pe_fld (pv 0) rfl) pa_nil)))), ?_⟩
    exact ⟨_, rfl, x, CR, dx, fs, _, rfl, hx, T.cl, T.nRows, hl, ar, ys, rfl, .inr (SqT.of ha), q⟩
abbrev nmA : List Str := ["_law_width", "_law_rows", "_law_record", "_law_told", "e"]
theorem scAsked : FnScope nmA ["_law_width", "_law_rows"] (defScope sAsked) := ⟨rfl, rfl, rfl, by decide +kernel, rfl, by decide +kernel, by decide +kernel⟩
abbrev rLenI (CR : Addr) (sp : Sp) : List V → Hp → VK → Prop := fun xs H Q => ∃ (a dx : Addr) (fs : List (Str × V)), xs = [.ref a] ∧ H a = some (.ins CR dx fs) ∧ sp [.ref a] H (fun v H' => ∃ n : Nat, v = .int (n : Int) ∧ n ≤ sizeLine ∧ Q (.int (n : Int)) H') E0
theorem ok_asked {f CR CE fI fL : Addr} {fd fdI fdL : FuncData} (F : FnP K "_law_asked" sAsked f fd) (zl : mg "len" = none) (R : RecMk P w K mg base CR CE fI fL fdI fdL) : FnOk P w K mg base CX0 9 f fd ["_law_width", "_law_rows"] spAsked := by
  refine F.ok scAsked (fun vs H Q E h => ?_) (fun cdv A outer s H vs Q E hr h => ?_)
  · obtain ⟨lb, wv, y, n, o, rfl, _⟩ := h
    rfl
  · obtain ⟨lb, wv, y, n, o, rfl, pl, q1, q2⟩ := h
    have hr2 := hr.mono (show 2 ≤ 8 by decide)
    refine ⟨_, pss_cons (ps_try_as (i := 4)
        (tb := fun W => tSeq (tAsg (tMakeS CR (spRec CR CE) (WE W) (tCons (tVar 0) (tCons (tVar 1) tNil))) (gName 2))
          (tAsg (tTup (tCons (tC (.str "made")) (tCons (tFld K (tVar 2) "width") (tCons (tCB (rLenI CR (spLenR CR)) (tCons (tVar 2) tNil)) tNil)))) (gName 3)))
        (ts := fun a cls d => tAsg (tTup (tCons (tC (.str "refused")) (tCons (tXf a cls d CE "index" (tVar 4)) (tCons (tXf a cls d CE "what" (tVar 4)) tNil)))) (gName 3))
        (Wout := fun _ _ _ _ => False) rfl rfl scAsked.nd rfl rfl ⟨rfl, by decide, .inl R.gE⟩ takes0
        (fun W pn xe tk _ => pss_cons (ps_set (i := 2) scAsked.nd rfl (.inl rfl) (pe_makeS R.mks R.ok hr (by rfl) R.gl R.bi (fun σ => passAt tk σ) (pa_cons (pv 0) (pa_cons (pv 1) pa_nil))))
          (pss_one (ps_set (i := 3) scAsked.nd rfl (.inl rfl) (pe_tup (pa_cons pe_str (pa_cons (pe_fld (pv 2) rfl) (pa_cons (pe_callB (call_len_ins R.len R.tyL R.okL hr2 R.biL) (by rfl) zl boot_len (pa_cons (pv 2) pa_nil)) pa_nil)))))))
        (fun a oe cls d pn hz hf => pss_one (ps_set (i := 3) scAsked.nd rfl (.inl rfl) (pe_tup (pa_cons pe_str (pa_cons (pe_xf R.xf R.nI hz hf (pv 4)) (pa_cons (pe_xf R.xf R.nW hz hf (pv 4)) pa_nil)))))))
      (pss_one (ps_ret (pv 3))), ?_⟩
    refine ⟨_, rfl, _, rfl, fun x dx nx nd ne => ?_⟩
    have s0 := same_ins (C := CR) nx nd ne
    refine ⟨x, dx, lb, wv, y, n, o, rfl, upd_same, pl.same s0, fun eo H2 ar ap af ab aw ac al b ys hx2 ha hn fr => ⟨rfl, ?_⟩, fun i z eo H2 d ndd hd s2 => ?_⟩
    · have s2 : Same H H2 := fun y' o' e' => fr _ _ (s0 _ _ e') (ne_of_none e' nx)
      refine ⟨_, rfl, x, CR, dx, _, _, rfl, hx2, R.cl.cl, R.cl.nWidth, rfl, _, rfl, x, dx, _, rfl, hx2, x, dx, ar, _, ys, rfl, hx2, rfl, ha, n, by rw [hn], ?_, (by show 3 ≤ sizeLine; decide), fun u nu => ?_⟩
      · obtain ⟨_, _, _, _, _, _, h5⟩ := (eo ▸ pl : Pl H lb wv y n none).rows_of
        exact Nat.le_of_lt (lt_line h5 (by decide))
      · exact ⟨_, rfl, q1 eo _ u (s2.trans (same_upd nu)) upd_same⟩
    · have sH := s0.trans s2
      refine ⟨true, R.ex, fun _ a0 na0 => ?_, fun z => by cases z⟩
      refine ⟨_, rfl, rfl, rfl, d, _, _, rfl, hd, rfl, _, rfl, rfl, rfl, d, _, _, rfl, hd, rfl, (by show 3 ≤ sizeLine; decide), fun u nu => ?_⟩
      exact ⟨_, rfl, q2 i z eo _ u (sH.trans (same_upd nu)) upd_same⟩
end
end K03

/-! the end of the law: what is told is what is due -/
namespace K03
open PySem PySem.Spec PyProof.Rows L2
abbrev nmL : List Str := ["_law_script", "_law_hand_here", "_law_k", "_law_low", "_law_width", "_law_rows", "_law_sort", "_law_due"]
theorem scLaw : FnScope nmL ["_law_script"] (defScope sLaw) := ⟨rfl, rfl, rfl, by decide +kernel, rfl, by decide +kernel, by decide +kernel⟩
theorem Pl.sh {H : Hp} {lb : Nat → Str} {wv y : V} {n : Nat} {i : Int} {x : Str} (p : Pl H lb wv y n (some (i, x))) :
    SeqAt.shaped (.tuple [.int i, .str x]) = true ∧ SeqAt.shaped (.tuple [.str "refused", .int i, .str x]) = true ∧ PyData.eqv (.tuple [.int i, .str x]) (.tuple [.int i, .str x]) = true ∧
      PyData.eqv (.tuple [.str "refused", .int i, .str x]) (.tuple [.str "refused", .int i, .str x]) = true := by
  cases p <;> exact ⟨by decide +kernel, by decide +kernel, by decide +kernel, by decide +kernel⟩
theorem Pl.wd {H : Hp} {lb : Nat → Str} {wv y : V} {n : Nat} (p : Pl H lb wv y n none) : ∃ wd : Int, wv = .int wd ∧ (wd = 0 ∨ wd = 1 ∨ wd = 2) := by
  have c : ∀ wd : Int, wholeV (.int wd) 0 2 = true → wd = 0 ∨ wd = 1 ∨ wd = 2 := fun wd h => by
    rw [whole_int] at h
    have h1 := Bool.and_eq_true_iff.mp h
    have h2 := of_decide_eq_true h1.1
    have h3 := of_decide_eq_true h1.2
    omega
  cases p with
  | good hl rw h2 g d => exact ⟨0, rfl, .inl rfl⟩
  | nil h hl => exact ⟨_, rfl, c _ h⟩
  | tup h hl => exact ⟨_, rfl, c _ h⟩
/-- behind the two choices: the width, the rows, what is due -/
def Good8 (σ : L2.St) (H : Hp) : Prop := ∃ (lb : Nat → Str) (wv y dv : V) (n : Nat) (o : Option (Int × Str)) (x0 x1 x2 x3 x6 : Option V), σ = [x0, x1, x2, x3, some wv, some y, x6, some dv] ∧ Pl H lb wv y n o ∧
  (o = none → dv = .non) ∧ ∀ i x, o = some (i, x) → ∃ q : Addr, dv = .ref q ∧ H q = some (.tup [.int i, .str x])
section
variable {P : Program} {w : World} {K : PySem.W.Frag} {mg : Str → Option Value} {base : Heap}
theorem t8 {f fR fA : Addr} {fdR fdA : FuncData} {cdv : Value} {A : Around} {outer : List Env} {s : Shared} {H0 : Hp} {E : XK} (zl : mg "len" = none)
    (hr : Room 9 (A.deeper (envOfC "law" (defScope sLaw) s.heap.objs.size f cdv))) (dR : Df P w K mg base "record_fault" 7 ["width", "rows"] spRF fR fdR) (dA : Df P w K mg base "_law_asked" 9 ["_law_width", "_law_rows"] spAsked fA fdA) :
    ∃ u, PSs (cxOf CX0 P w K mg base nmL "law" (defScope sLaw) f cdv A outer s H0 E).nox ((defBody sLaw).drop 8) u ∧
      ∀ (σ : L2.St) (H : Hp) (Q : VK) (nx : L2.St → Hp → Prop), Good8 σ H → (∀ H', Q (.bl true) H') → u { nx := nx, rt := Q } σ H := by
  have hr7 := hr.mono (show 7 ≤ 9 by decide)
  refine ⟨_, pss_cons (ps_if (pt_cmpR (op_neD hr.units) (pe_call dR.ok hr7 (by rfl) dR.gl dR.kp dR.bi .nil pass0 (pa_cons (pv 4) (pa_cons (pv 5) pa_nil))) (pv 7) (nomark _)) (pss_one (ps_ret pe_bl)) pss_nil)
    (pss_cons (ps_if (pt_cmpR op_notN (pv 7) pe_non (nomark _)) (pss_one (ps_ret (pe_cmpR (op_eqD hr.units) (pe_call dA.ok hr (by rfl) dA.gl dA.kp dA.bi .nil pass0 (pa_cons (pv 4) (pa_cons (pv 5) pa_nil)))
        (pe_tup (pa_cons pe_str (pa_cons (pe_ix ix_tup (pv 7) pe_int (fun _ _ => rfl)) (pa_cons (pe_ix ix_tup (pv 7) pe_int (fun _ _ => rfl)) pa_nil)))) (nomark _)))) pss_nil)
    (pss_one (ps_ret (pe_and (pe_cmpR (op_eqD hr.units) (pe_call dA.ok hr (by rfl) dA.gl dA.kp dA.bi .nil pass0 (pa_cons (pv 4) (pa_cons (pv 5) pa_nil))) (pe_tup (pa_cons pe_str (pa_cons (pv 4) (pa_cons (pe_callB call_len_seq (by rfl) zl boot_len (pa_cons (pv 5) pa_nil)) pa_nil)))) (nomark _))
      (pe_one (pe_cmpR (op_eqD hr.units) (pe_call dA.ok hr (by rfl) dA.gl dA.kp dA.bi .nil pass0 (pa_cons pe_int (pa_cons (pe_tup pa_nil) pa_nil))) (pe_tup (pa_cons pe_str (pa_cons pe_int (pa_cons pe_int pa_nil)))) (nomark _))))))), ?_⟩
  rintro σ H Q nx ⟨lb, wv, y, dv, n, o, x0, x1, x2, x3, x6, rfl, pl, hn, hs⟩ q
  refine ⟨_, rfl, _, rfl, lb, wv, y, n, o, rfl, pl, fun eo H1 s1 => ?_, fun i x eo H1 z s1 hz => ?_⟩
  · subst eo
    obtain rfl := hn rfl
    obtain ⟨wd, rfl, hwd⟩ := pl.wd
    obtain ⟨l, ts, rfl, hl, _, hts, h5⟩ := pl.rows_of
    refine ⟨_, rfl, .none, .none, .non, .non, rfl, rfl, _, rfl, iteF ?_⟩
    refine ⟨_, rfl, rfl, _, rfl, iteF ?_⟩
    refine ⟨_, rfl, _, rfl, lb, .int wd, .ref l, n, none, rfl, pl.same s1, fun _ H2 z s2 hz => ?_, fun i x e => by cases e⟩
    have s12 := s1.trans s2
    have hlen : ∃ p ys, [V.ref l] = [V.ref p] ∧ (SqL K H2 p ys ∨ SqT K H2 p ys) ∧ ys.length = n := by
      rcases hl with hl | hl
      · exact ⟨l, _, rfl, .inl (SqL.of (s12 _ _ hl)), by rw [List.length_map, hts]⟩
      · exact ⟨l, _, rfl, .inr (SqT.of (s12 _ _ hl)), by rw [List.length_map, hts]⟩
    obtain ⟨p, ys, e1, e2, e3⟩ := hlen
    refine ⟨_, rfl, _, rfl, p, ys, e1, e2, (by show 3 ≤ sizeLine; decide), fun u nu => ?_⟩
    have sh : SeqAt.shaped (.tuple [.str "made", .int wd, .int (n : Int)]) = true := by
      have c : PyData.canLay0 (.tuple [.str "made", .int wd, .int (n : Int)]) = PyData.canLay0 (.tuple [.str "made", .int 0, .int 0]) := by simp [PyData.canLay0, PyData.canLayAll0]
      have d : PyData.depth (.tuple [.str "made", .int wd, .int (n : Int)]) = PyData.depth (.tuple [.str "made", .int 0, .int 0]) := by simp [PyData.depth, PyData.depthAll]
      unfold SeqAt.shaped
      rw [c, d]
      decide +kernel
    have ev : PyData.eqv (.tuple [.str "made", .int wd, .int (n : Int)]) (.tuple [.str "made", .int wd, .int (n : Int)]) = true := SeqAt.eqv_refl _ (SeqAt.canLay_of_shaped sh)
    refine ⟨_, _, .tup (SqT.of (same_upd nu _ _ hz)) (.cons (.str _) (.cons (.int _) (.cons (.int _) .nil))), .tup (SqT.of upd_same) (.cons (.str _) (.cons (.int _) (.cons (.int _) .nil))), sh, by rw [e3]; exact sh, true, by rw [e3, ev], iteT ?_⟩
    refine ⟨(by show 0 ≤ sizeLine; decide), fun v nv => ?_⟩
    refine ⟨fun _ => "", .int 2, .ref v, 0, none, rfl, .tup (by decide) upd_same, fun _ H3 z3 s3 hz3 => ?_, fun i x e => by cases e⟩
    refine ⟨(by show 3 ≤ sizeLine; decide), fun u2 nu2 => ?_⟩
    refine ⟨_, _, .tup (SqT.of (same_upd nu2 _ _ hz3)) (.cons (.str _) (.cons (.int _) (.cons (.int _) .nil))), .tup (SqT.of upd_same) (.cons (.str _) (.cons (.int _) (.cons (.int _) .nil))), (by decide +kernel), (by decide +kernel), ?_⟩
    rw [show PyData.eqv _ _ = true by decide +kernel]
    exact q _
  · subst eo
    obtain ⟨d, rfl, hd⟩ := hs i x rfl
    obtain ⟨h1, h2, h3, h4⟩ := pl.sh
    have hd1 := s1 _ _ hd
    refine ⟨_, rfl, _, _, .tup (SqT.of hz) (.cons (.int _) (.cons (.str _) .nil)), .tup (SqT.of hd1) (.cons (.int _) (.cons (.str _) .nil)), h1, h1, ?_⟩
    rw [h3]
    refine ⟨_, rfl, iteF ?_⟩
    refine ⟨_, rfl, rfl, _, rfl, iteT ?_⟩
    refine ⟨_, rfl, _, rfl, lb, wv, y, n, _, rfl, pl.same s1, (fun e => by cases e), fun i2 x2 e H2 z2 s2 hz2 => ?_⟩
    cases e
    have hd2 := s2 _ _ hd1
    refine ⟨_, rfl, d, _, _, _, rfl, rfl, SqT.of hd2, rfl, _, rfl, d, _, _, _, rfl, rfl, SqT.of hd2, rfl, (by show 3 ≤ sizeLine; decide), fun u nu => ?_⟩
    refine ⟨_, _, .tup (SqT.of (same_upd nu _ _ hz2)) (.cons (.str _) (.cons (.int _) (.cons (.str _) .nil))), .tup (SqT.of upd_same) (.cons (.str _) (.cons (.int _) (.cons (.str _) .nil))), h2, h2, ?_⟩
    rw [h4]
    exact q _
end
end K03

/-! what is due -/
namespace K03
open PySem PySem.Spec PyProof.Rows L2
theorem lab_cps (n : Nat) : (lab n).cps.toList = [97 + n / 676 % 26, 97 + n / 26 % 26, 97 + n % 26] := rfl
theorem lab_inj {i j : Nat} (hi : i < 17576) (hj : j < 17576) (e : lab i = lab j) : i = j := by
  have h : (lab i).cps.toList = (lab j).cps.toList := by rw [e]
  rw [lab_cps, lab_cps] at h
  simp only [List.cons.injEq, and_true] at h
  omega
theorem lab_good (n : Nat) : goodL (lab n) := by
  refine ⟨(show 3 ≤ 6 by decide), ?_, ?_⟩
  · show (lab n).cps.all (fun c => decide (c < 0x110000)) = true
    rw [← Array.all_toList, lab_cps]
    simp only [List.all_cons, List.all_nil, Bool.and_true, Bool.and_eq_true, decide_eq_true_eq]
    omega
  · show ((decide ((1 : Int) ≤ (lab n).length) && decide (((lab n).length : Int) ≤ 6)) && (lab n).cps.toList.all lowC) = true
    rw [lab_cps]
    have c : ∀ k : Nat, 97 ≤ k → k ≤ 122 → lowC k = true := fun k h1 h2 => by
      unfold lowC
      rw [lt_one, lt_one, decide_eq_false (by omega), decide_eq_false (by omega)]
      rfl
    simp only [List.all_cons, List.all_nil]
    rw [c _ (by omega) (by omega), c _ (by omega) (by omega), c _ (by omega) (by omega)]
    rfl
theorem a_good : goodL "a" := ⟨by decide, by decide +kernel, by decide +kernel⟩
theorem whole_inv {v : V} (h : wholeV v 0 2 = true) : ∃ wd : Int, v = .int wd ∧ 0 ≤ wd ∧ wd ≤ 2 := by
  cases v with
  | int wd =>
    rw [whole_int] at h
    have h1 := Bool.and_eq_true_iff.mp h
    exact ⟨wd, rfl, of_decide_eq_true h1.1, of_decide_eq_true h1.2⟩
  | _ => cases h
/-- the rows by the sort that is drawn -/
inductive Pre (H : Hp) : V → V → Int → Prop where
  | odd {wv y : V} {t : String} {j : Int} (hj : j < 4) (o : Odd H y t) (h : seqT t = false) : Pre H wv y j
  | many {wv : V} {l : Addr} {xs : List V} (hl : H l = some (.lst xs)) (h : 5000 < xs.length) : Pre H wv (.ref l) 4
  | full {l : Addr} {ts : List Addr} (hl : H l = some (.lst (ts.map V.ref))) (rw : RowsAt H ts lab) (h : ts.length = 5000) : Pre H (.int 0) (.ref l) 5
  | nons {wv : V} {l : Addr} {m : Nat} {j : Int} (h6 : 6 ≤ j) (h9 : j < 9) (hl : H l = some (.lst (List.replicate m .non))) (hm : m < 4) : Pre H wv (.ref l) j
  | one {wv : V} {l t : Addr} {j : Int} (h9 : 9 ≤ j) (hl : H l = some (.lst [.ref t])) (r : RowAt H t "a" 0) : Pre H wv (.ref l) j
def Good7 (σ : L2.St) (H : Hp) : Prop := ∃ (wv y : V) (t : String) (j : Int) (x0 x1 x2 x3 x7 : Option V), σ = [x0, x1, x2, x3, some wv, some y, some (.int j), x7] ∧ Odd H wv t ∧ Pre H wv y j
section
variable {P : Program} {w : World} {K : PySem.W.Frag} {mg : Str → Option Value} {base : Heap}
theorem t7 {f fR fA fN : Addr} {fdR fdA fdN : FuncData} {cdv : Value} {A : Around} {outer : List Env} {s : Shared} {H0 : Hp} {E : XK} (zl : mg "len" = none)
    (hr : Room 9 (A.deeper (envOfC "law" (defScope sLaw) s.heap.objs.size f cdv))) (dR : Df P w K mg base "record_fault" 7 ["width", "rows"] spRF fR fdR) (dA : Df P w K mg base "_law_asked" 9 ["_law_width", "_law_rows"] spAsked fA fdA)
    (dN : Df P w K mg base "_law_is_number" 1 ["_law_thing", "_law_low", "_law_high"] spWhole fN fdN) :
    ∃ u, PSs (cxOf CX0 P w K mg base nmL "law" (defScope sLaw) f cdv A outer s H0 E).nox ((defBody sLaw).drop 7) u ∧
      ∀ (σ : L2.St) (H : Hp) (Q : VK) (nx : L2.St → Hp → Prop), Good7 σ H → (∀ H', Q (.bl true) H') → u { nx := nx, rt := Q } σ H := by
  obtain ⟨u8, p8, r8⟩ := t8 (P := P) (w := w) (base := base) (f := f) (cdv := cdv) (outer := outer) (H0 := H0) (E := E) zl hr dR dA
  have hr1 := hr.mono (show 1 ≤ 9 by decide)
  refine ⟨_, pss_cons (ps_if (pt_not (pt_val (pe_call dN.ok hr1 (by rfl) dN.gl dN.kp dN.bi .nil pass0 (pa_cons (pv 4) (pa_cons pe_int (pa_cons pe_int pa_nil)))))) (pss_one (ps_set (i := 7) scLaw.nd rfl (.inl rfl) (pe_tup (pa_cons pe_int (pa_cons pe_str pa_nil)))))
    (pss_one (ps_if (pt_cmpR op_lt (pv 6) pe_int (nomark _)) (pss_one (ps_set (i := 7) scLaw.nd rfl (.inl rfl) (pe_tup (pa_cons pe_int (pa_cons pe_str pa_nil)))))
    (pss_one (ps_if (pt_cmpR op_eq (pv 6) pe_int (nomark _)) (pss_one (ps_set (i := 7) scLaw.nd rfl (.inl rfl) (pe_tup (pa_cons pe_int (pa_cons pe_str pa_nil)))))
    (pss_one (ps_if (PW.pt (pw_and (pt_cmpR op_lt (pv 6) pe_int (nomark _)) (pw_and1 (pt_cmpR op_ne (pv 6) pe_int (nomark _)))))
      (pss_one (ps_set (i := 7) scLaw.nd rfl (.inl rfl) (pe_ifExp (pt_cmpR (op_eqD hr.units) (pv 5) (pe_lst pa_nil) (nomark _)) pe_non (pe_tup (pa_cons pe_int (pa_cons pe_str pa_nil))))))
      (pss_one (ps_set (i := 7) scLaw.nd rfl (.inl rfl) (pe_ifExp (pt_cmpR op_eq (pv 4) pe_int (nomark _)) pe_non (pe_tup (pa_cons pe_int (pa_cons pe_str pa_nil)))))))))))))
    p8, ?_⟩
  rintro σ H Q nx ⟨wv, y, t, j, x0, x1, x2, x3, x7, rfl, o, pre⟩ q
  refine ⟨_, rfl, wv, t, 0, 2, rfl, o, ?_⟩
  cases hw : wholeV wv 0 2 with
  | false =>
    refine ⟨_, rfl, iteT ⟨(by show 2 ≤ sizeLine; decide), fun u nu => r8 _ _ Q nx ?_ q⟩⟩
    have su := same_upd (o := .tup [.int 0, .str "width"]) nu
    exact ⟨fun _ => "", wv, y, .ref u, 0, _, _, _, _, _, _, rfl, .width (o.same su) hw, (fun e => by cases e), fun i x e => by cases e; exact ⟨u, rfl, upd_same⟩⟩
  | true =>
    obtain ⟨wd, rfl, w0, w2⟩ := whole_inv hw
    refine ⟨_, rfl, iteF ?_⟩
    cases pre with
    | odd hj oy hs =>
      refine ⟨_, rfl, _, _, rfl, rfl, _, rfl, ite2 (fun _ => ⟨(by show 2 ≤ sizeLine; decide), fun u nu => r8 _ _ Q nx ?_ q⟩) (fun z => absurd (decide_eq_true hj) z)⟩
      have su := same_upd (o := .tup [.int 0, .str "rows"]) nu
      exact ⟨fun _ => "", .int wd, y, .ref u, 0, _, _, _, _, _, _, rfl, .rows hw (oy.same su) hs, (fun e => by cases e), fun i x e => by cases e; exact ⟨u, rfl, upd_same⟩⟩
    | many hl hm =>
      refine ⟨_, rfl, _, _, rfl, rfl, _, rfl, iteF ?_⟩
      refine ⟨_, rfl, rfl, _, rfl, iteT ⟨(by show 2 ≤ sizeLine; decide), fun u nu => r8 _ _ Q nx ?_ q⟩⟩
      have su := same_upd (o := .tup [.int 5000, .str "many"]) nu
      exact ⟨fun _ => "", .int wd, _, .ref u, 0, _, _, _, _, _, _, rfl, .many hw (su _ _ hl) hm, (fun e => by cases e), fun i x e => by cases e; exact ⟨u, rfl, upd_same⟩⟩
    | full hl rws h =>
      refine ⟨_, rfl, _, _, rfl, rfl, _, rfl, iteF ?_⟩
      refine ⟨_, rfl, rfl, _, rfl, iteF ?_⟩
      refine ⟨_, rfl, _, _, rfl, rfl, _, rfl, iteT ⟨_, rfl, rfl, _, rfl, iteF ?_⟩⟩
      refine ⟨_, rfl, rfl, _, rfl, iteT (r8 _ _ Q nx ?_ q)⟩
      refine ⟨lab, .int 0, _, .non, _, none, _, _, _, _, _, rfl, .good hl rws (by omega) (fun i _ => lab_good i) (fun i j hij hj => ?_), (fun _ => rfl), fun i x e => by cases e⟩
      intro e
      have := lab_inj (by omega) (by omega) e
      omega
    | @nons wv' l' m j' h6 h9 hl hm =>
      refine ⟨_, rfl, _, _, rfl, rfl, _, rfl, ite2 (fun z => absurd (of_decide_eq_true z) (by omega)) (fun _ => ?_)⟩
      refine ⟨_, rfl, rfl, _, rfl, ite2 (fun z => absurd (V.int.inj (of_decide_eq_true z)) (by omega)) (fun _ => ?_)⟩
      refine ⟨_, rfl, _, _, rfl, rfl, _, rfl, ite2 (fun _ => ⟨_, rfl, rfl, _, rfl, ite2 (fun _ => ?_) (fun z => absurd (by rw [decide_eq_false (fun e => absurd (V.int.inj e) (by omega))]; rfl) z)⟩) (fun z => absurd (decide_eq_true h9) z)⟩
      refine ⟨_, rfl, (by show 0 ≤ sizeLine; decide), fun v nv => ?_⟩
      have sv := same_upd (o := .lst []) nv
      have hl1 := sv _ _ hl
      obtain rfl | rfl | rfl | rfl : m = 0 ∨ m = 1 ∨ m = 2 ∨ m = 3 := by omega
      · refine ⟨.list [], .list [], .lst (SqL.of hl1) .nil, .lst (SqL.of upd_same) .nil, (by decide +kernel), (by decide +kernel), _, rfl, iteT (r8 _ _ Q nx ?_ q)⟩
        exact ⟨fun _ => "", .int wd, _, .non, _, none, _, _, _, _, _, rfl, .nil hw hl1, (fun _ => rfl), fun i x e => by cases e⟩
      · refine ⟨.list [.none], .list [], .lst (SqL.of hl1) (.cons .non .nil), .lst (SqL.of upd_same) .nil, (by decide +kernel), (by decide +kernel), _, rfl, iteF ⟨(by show 2 ≤ sizeLine; decide), fun u nu => r8 _ _ Q nx ?_ q⟩⟩
        have su := same_upd (o := .tup [.int 0, .str "row"]) nu
        exact ⟨fun _ => "", .int wd, _, .ref u, 0, _, _, _, _, _, _, rfl, .nons (n := 0) hw (su _ _ hl1) (by decide), (fun e => by cases e), fun i x e => by cases e; exact ⟨u, rfl, upd_same⟩⟩
      · refine ⟨.list [.none, .none], .list [], .lst (SqL.of hl1) (.cons .non (.cons .non .nil)), .lst (SqL.of upd_same) .nil, (by decide +kernel), (by decide +kernel), _, rfl, iteF ⟨(by show 2 ≤ sizeLine; decide), fun u nu => r8 _ _ Q nx ?_ q⟩⟩
        have su := same_upd (o := .tup [.int 0, .str "row"]) nu
        exact ⟨fun _ => "", .int wd, _, .ref u, 0, _, _, _, _, _, _, rfl, .nons (n := 1) hw (su _ _ hl1) (by decide), (fun e => by cases e), fun i x e => by cases e; exact ⟨u, rfl, upd_same⟩⟩
      · refine ⟨.list [.none, .none, .none], .list [], .lst (SqL.of hl1) (.cons .non (.cons .non (.cons .non .nil))), .lst (SqL.of upd_same) .nil, (by decide +kernel), (by decide +kernel), _, rfl, iteF ⟨(by show 2 ≤ sizeLine; decide), fun u nu => r8 _ _ Q nx ?_ q⟩⟩
        have su := same_upd (o := .tup [.int 0, .str "row"]) nu
        exact ⟨fun _ => "", .int wd, _, .ref u, 0, _, _, _, _, _, _, rfl, .nons (n := 2) hw (su _ _ hl1) (by decide), (fun e => by cases e), fun i x e => by cases e; exact ⟨u, rfl, upd_same⟩⟩
    | @one wv' l' t1 j' h9 hl r =>
      refine ⟨_, rfl, _, _, rfl, rfl, _, rfl, ite2 (fun z => absurd (of_decide_eq_true z) (by omega)) (fun _ => ?_)⟩
      refine ⟨_, rfl, rfl, _, rfl, ite2 (fun z => absurd (V.int.inj (of_decide_eq_true z)) (by omega)) (fun _ => ?_)⟩
      refine ⟨_, rfl, _, _, rfl, rfl, _, rfl, ite2 (fun z => absurd (of_decide_eq_true z) (by omega)) (fun _ => iteF ?_)⟩
      have rws : ∀ {H' : Hp}, Same H H' → RowsAt H' [t1] (fun _ => "a") := fun {H'} s' i t' ht => by
        match i, ht with
        | 0, ht =>
          cases ht
          exact r.same s'
      refine ⟨_, rfl, rfl, _, rfl, ite2 (fun z => ?_) (fun z => ?_)⟩
      · obtain rfl := V.int.inj (of_decide_eq_true z)
        refine r8 _ _ Q nx ?_ q
        exact ⟨fun _ => "a", .int 0, _, .non, _, none, _, _, _, _, _, rfl, .good (ts := [t1]) hl (rws (Same.refl H)) (show 1 ≤ 5000 by decide) (fun i _ => a_good) (fun i j hij hj => absurd (show j < 1 from hj) (by omega)), (fun _ => rfl), fun i x e => by cases e⟩
      · have w00 : wd ≠ 0 := fun e => z (decide_eq_true (by rw [e]))
        refine ⟨(by show 2 ≤ sizeLine; decide), fun u nu => r8 _ _ Q nx ?_ q⟩
        have su := same_upd (o := .tup [.int 0, .str "width"]) nu
        exact ⟨fun _ => "a", .int wd, _, .ref u, 0, _, _, _, _, _, _, rfl, .bad (ts := [t1]) hw w00 (su _ _ hl) (rws su) (show 0 < 1 by decide) (show 1 ≤ 5000 by decide) a_good, (fun e => by cases e), fun i x e => by cases e; exact ⟨u, rfl, upd_same⟩⟩
end
end K03

/-! the rows by the sort that is drawn -/
namespace K03
open PySem PySem.Spec PyProof.Rows L2
theorem flat_non (n : Nat) : (List.replicate n [V.non]).flatten = List.replicate n V.non := by
  induction n with
  | zero => rfl
  | succ n ih =>
    rw [List.replicate_succ, List.flatten_cons, ih]
    rfl
theorem RowAt.kept {p : Addr} {H H' : Hp} {t l : Addr} {x : Str} {n : Nat} {i r c : Int} (w : RowAt H t x n) (hp : H p = some (handO l i r c)) (k : Kept p H H') : RowAt H' t x n := by
  obtain ⟨e, h1, h2⟩ := w
  exact ⟨e, k _ _ (ne_of h1 hp (by intro z; cases z)) h1, k _ _ (ne_of h2 hp (by intro z; cases z)) h2⟩
def Good6 (σ : L2.St) (H : Hp) : Prop := ∃ (p l : Addr) (cells : List Int) (i r c : Int) (wv : V) (ty : String) (D t1 : Addr) (j : Int) (x0 x2 x3 x7 : Option V), σ = [x0, some (.ref p), x2, x3, some wv, some (.ref D), some (.int j), x7] ∧ HandAt H p l cells i r c ∧ OddK p H wv ty ∧
  0 ≤ j ∧ H D = some (.lst [.ref t1]) ∧ RowAt H t1 "a" 0
section
variable {P : Program} {w : World} {K : PySem.W.Frag} {mg : Str → Option Value} {base : Heap}
theorem t6 {f fR fA fN fD fP fM : Addr} {fdR fdA fdN fdD fdP fdM : FuncData} {cdv : Value} {A : Around} {outer : List Env} {s : Shared} {H0 : Hp} {E : XK} (zl : mg "len" = none)
    (hr : Room 9 (A.deeper (envOfC "law" (defScope sLaw) s.heap.objs.size f cdv))) (dR : Df P w K mg base "record_fault" 7 ["width", "rows"] spRF fR fdR) (dA : Df P w K mg base "_law_asked" 9 ["_law_width", "_law_rows"] spAsked fA fdA)
    (dN : Df P w K mg base "_law_is_number" 1 ["_law_thing", "_law_low", "_law_high"] spWhole fN fdN) (dD : Df P w K mg base "_law_draw" 2 ["_law_hand_here", "_law_many_here"] spDraw fD fdD)
    (dP : Df P w K mg base "_law_pick" 3 ["_law_hand_here", "_law_things"] (spPick K) fP fdP) (dM : Df P w K mg base "_law_many" 2 ["_law_many_here"] spMany fM fdM) :
    ∃ u, PSs (cxOf CX0 P w K mg base nmL "law" (defScope sLaw) f cdv A outer s H0 E).nox ((defBody sLaw).drop 6) u ∧
      ∀ (σ : L2.St) (H : Hp) (Q : VK) (nx : L2.St → Hp → Prop), Good6 σ H → (∀ H', Q (.bl true) H') → u { nx := nx, rt := Q } σ H := by
  obtain ⟨u7, p7, r7⟩ := t7 (P := P) (w := w) (base := base) (f := f) (cdv := cdv) (outer := outer) (H0 := H0) (E := E) zl hr dR dA dN
  have hr2 := hr.mono (show 2 ≤ 9 by decide)
  have hr3 := hr.mono (show 3 ≤ 9 by decide)
  refine ⟨_, pss_cons (ps_if (pt_cmpR op_lt (pv 6) pe_int (nomark _)) (pss_one (ps_set (i := 5) scLaw.nd rfl (.inl rfl) (pe_call dP.ok hr3 (by rfl) dP.gl dP.kp dP.bi .nil pass0 (pa_cons (pv 1) (pa_cons (pe_lst (pa_cons pe_non (pa_cons pe_str (pa_cons pe_str (pa_cons pe_int
        (pa_cons (pe_disp (pps_cons pe_str pe_int pps_nil) (by rfl) (by rfl) (fun z => by cases z) (by decide)) (pa_cons pe_bl pa_nil))))))) pa_nil)))))
    (pss_one (ps_if (pt_cmpR op_eq (pv 6) pe_int (nomark _)) (pss_one (ps_set (i := 5) scLaw.nd rfl (.inl rfl) (pe_call dM.ok hr2 (by rfl) dM.gl dM.kp dM.bi .nil pass0 (pa_cons (pe_op op_add pe_int (pe_call dD.ok hr2 (by rfl) dD.gl dD.kp dD.bi .nil pass0 (pa_cons (pv 1) (pa_cons pe_int pa_nil)))) pa_nil))))
    (pss_one (ps_if (pt_cmpR op_eq (pv 6) pe_int (nomark _)) (pss_cons (ps_set (i := 5) scLaw.nd rfl (.inl rfl) (pe_call dM.ok hr2 (by rfl) dM.gl dM.kp dM.bi .nil pass0 (pa_cons pe_int pa_nil))) (pss_one (ps_set (i := 4) scLaw.nd rfl (.inl rfl) pe_int)))
    (pss_one (ps_if (pt_cmpR op_lt (pv 6) pe_int (nomark _)) (pss_one (ps_set (i := 5) scLaw.nd rfl (.inl rfl) (pe_op op_rep (pe_lst (pa_cons pe_non pa_nil)) (pe_call dD.ok hr2 (by rfl) dD.gl dD.kp dD.bi .nil pass0 (pa_cons (pv 1) (pa_cons pe_int pa_nil)))))) pss_nil)))))))
    p7, ?_⟩
  rintro σ H Q nx ⟨p, l, cells, i, r, c, wv, ty, D, t1, j, x0, x2, x3, x7, rfl, hh, ow, j0, hD, row⟩ q
  refine ⟨_, rfl, _, _, rfl, rfl, _, rfl, ite2 (fun g => ?_) (fun g => ?_)⟩
  · have hj := of_decide_eq_true g
    refine ⟨_, rfl, fun a3 n3 => ⟨upd_same, [(Sum.inr "a", .int 1)], rfl, (by show 1 ≤ 15; decide), ⟨(by show 6 ≤ sizeLine; decide), fun a na => ?_⟩⟩⟩
    have s3 := same_upd2 (o := .dK []) (u := .dK (mergeK [] [(Sum.inr "a", .int 1)])) n3
    have s4 := same_upd (o := .lst [.non, .str "", .str "comes", .int 0, .ref a3, .bl true]) na
    have sall := s3.trans s4
    have m3 : a3 ≠ p := (ne_of_none hh.1 n3).symm
    have nap : a ≠ p := (ne_of_none (s3 _ _ hh.1) na).symm
    have g3 := s4 _ _ (upd_same (a := a3) (o := .dK (mergeK [] [(Sum.inr "a", .int 1)])))
    refine ⟨p, l, cells, i, r, c, hand_same hh sall, .inl ⟨a, _, rfl, SqL.of upd_same, nap, (by show 0 < 6; decide), (by show 6 ≤ 1000; decide), fun v i2 r2 t2 hv ok2 => r7 _ _ Q nx ?_ q⟩⟩
    refine ⟨wv, v, ty, j, _, _, _, _, _, rfl, ow _ ((Kept.same sall).trans Kept.upd), ?_⟩
    simp only [List.mem_cons, List.not_mem_nil, or_false] at hv
    rcases hv with rfl | rfl | rfl | rfl | rfl | rfl
    · exact .odd hj .non (by decide)
    · exact .odd hj (.str _ (by decide +kernel) (by decide +kernel)) (by decide)
    · exact .odd hj (.str _ (by decide +kernel) (by decide +kernel)) (by decide)
    · exact .odd hj (.int _) (by decide)
    · exact .odd hj (.dic (Kept.upd _ _ m3 g3)) (by decide)
    · exact .odd hj (.bl _) (by decide)
  have hj4 : ¬ j < 4 := fun z => g (decide_eq_true z)
  refine ⟨_, rfl, rfl, _, rfl, ite2 (fun g4 => ?_) (fun g4 => ?_)⟩
  · obtain rfl := V.int.inj (of_decide_eq_true g4)
    refine ⟨_, rfl, p, l, cells, i, r, c, _, rfl, hh, by decide, by decide +kernel, fun d i2 r2 t2 d0 d1 ok2 => ?_⟩
    refine ⟨_, _, rfl, rfl, (5001 + d).toNat, by rw [Int.toNat_of_nonneg (by omega)]; rfl, by omega, fun H2 a ts s2 na hl ha rws => r7 _ _ Q nx ?_ q⟩
    exact ⟨wv, .ref a, ty, 4, _, _, _, _, _, rfl, ow _ (Kept.upd.trans (Kept.same s2)), .many ha (by rw [List.length_map, hl]; omega)⟩
  refine ⟨_, rfl, rfl, _, rfl, ite2 (fun g5 => ?_) (fun g5 => ?_)⟩
  · obtain rfl := V.int.inj (of_decide_eq_true g5)
    refine ⟨5000, rfl, by decide, fun H2 a ts s2 na hl ha rws => r7 _ _ Q nx ?_ q⟩
    exact ⟨.int 0, .ref a, "int", 5, _, _, _, _, _, rfl, .int _, .full ha rws hl⟩
  have hj4' : j ≠ 4 := fun e => g4 (decide_eq_true (by rw [e]))
  have hj5' : j ≠ 5 := fun e => g5 (decide_eq_true (by rw [e]))
  refine ⟨_, rfl, _, _, rfl, rfl, _, rfl, ite2 (fun g9 => ?_) (fun g9 => ?_)⟩
  · have hj9 := of_decide_eq_true g9
    refine ⟨(by show 1 ≤ sizeLine; decide), fun a na => ?_⟩
    have sa := same_upd (o := .lst [.non]) na
    have hh2 := hand_same hh sa
    have nap : a ≠ p := (ne_of_none hh.1 na).symm
    refine ⟨_, rfl, p, l, cells, i, r, c, _, rfl, hh2, by decide, by decide +kernel, fun d i2 r2 t2 d0 d1 ok2 => ?_⟩
    refine ⟨a, d, _, rfl, rfl, Kept.upd _ _ nap upd_same, by omega, by omega, ?_, fun b nb => r7 _ _ Q nx ?_ q⟩
    · show 1 * d.toNat ≤ sizeLine
      exact Nat.le_trans (show 1 * d.toNat ≤ 4 by omega) (by decide)
    · refine ⟨wv, .ref b, ty, j, _, _, _, _, _, rfl, ow _ (((Kept.same sa).trans Kept.upd).trans (Kept.same (same_upd nb))), .nons (m := d.toNat) (by omega) hj9 ?_ (by omega)⟩
      rw [upd_same, flat_non]
  · have hj9 : ¬ j < 9 := fun z => g9 (decide_eq_true z)
    refine r7 _ _ Q nx ?_ q
    exact ⟨wv, .ref D, ty, j, _, _, _, _, _, rfl, ow _ Kept.refl, .one (by omega) hD row⟩
end
end K03

/-! the law's own body -/
namespace K03
open PySem PySem.Spec PyProof.Rows L2
def spLaw (K : PySem.W.Frag) : Sp := fun vs H Q _ => ∃ (a : Addr) (ns : List Int), vs = [.ref a] ∧ SqL K H a (ns.map V.int) ∧ ns.length ≤ 63 ∧ ∀ H', Q (.bl true) H'
section
variable {P : Program} {w : World} {K : PySem.W.Frag} {mg : Str → Option Value} {base : Heap}
theorem ok_law {f fH fQ fO fR fA fN fD fP fM : Addr} {fd fdH fdQ fdO fdR fdA fdN fdD fdP fdM : FuncData} (F : FnP K "law" sLaw f fd) (zl : mg "len" = none) (zr : mg "range" = none)
    (gR : ∃ t, mg "MOST_ROWS" = some (.int 5000 t)) (gN : ∃ t, mg "MOST_NAME" = some (.int (10 ^ 30) t)) (gW : ∃ t, mg "MOST_WIDTH" = some (.int 2 t))
    (dH : Df P w K mg base "_law_hand" 1 ["_law_script"] (spHand K) fH fdH) (dQ : Df P w K mg base "_law_questions" 3 ["_law_thing", "_law_low", "_law_high"] spQuest fQ fdQ) (dO : Df P w K mg base "_law_odd" 4 ["_law_hand_here"] spOdd fO fdO)
    (dR : Df P w K mg base "record_fault" 7 ["width", "rows"] spRF fR fdR) (dA : Df P w K mg base "_law_asked" 9 ["_law_width", "_law_rows"] spAsked fA fdA)
    (dN : Df P w K mg base "_law_is_number" 1 ["_law_thing", "_law_low", "_law_high"] spWhole fN fdN) (dD : Df P w K mg base "_law_draw" 2 ["_law_hand_here", "_law_many_here"] spDraw fD fdD)
    (dP : Df P w K mg base "_law_pick" 3 ["_law_hand_here", "_law_things"] (spPick K) fP fdP) (dM : Df P w K mg base "_law_many" 2 ["_law_many_here"] spMany fM fdM) : FnOk P w K mg base CX0 10 f fd ["_law_script"] (spLaw K) := by
  obtain ⟨tr, gR⟩ := gR
  obtain ⟨tn, gN⟩ := gN
  obtain ⟨tw, gW⟩ := gW
  refine F.ok scLaw (fun vs H Q E h => ?_) (fun cdv A outer s H vs Q E hr h => ?_)
  · obtain ⟨a, ns, rfl, _⟩ := h
    rfl
  · obtain ⟨a, ns, rfl, hS, hlen, q⟩ := h
    obtain ⟨u6, p6, r6⟩ := t6 (P := P) (w := w) (base := base) (f := f) (cdv := cdv) (outer := outer) (H0 := H) (E := E) zl hr dR dA dN dD dP dM
    have hr1 := hr.mono (show 1 ≤ 9 by decide)
    have hr2 := hr.mono (show 2 ≤ 9 by decide)
    have hr3 := hr.mono (show 3 ≤ 9 by decide)
    have hr4 := hr.mono (show 4 ≤ 9 by decide)
    refine ⟨_, PSs.nox (pss_cons (ps_set (i := 1) scLaw.nd rfl (.inl rfl) (pe_call dH.ok hr1 (by rfl) dH.gl dH.kp dH.bi .nil pass0 (pa_cons (pv 0) pa_nil)))
      (pss_cons (ps_if (pt_cmpR (op_neD hr.units) (pe_tup (pa_cons (pe_glob (by rfl) gR (v := .int 5000) ⟨_, rfl⟩) (pa_cons (pe_glob (by rfl) gN (v := .int (10 ^ 30)) ⟨_, rfl⟩) (pa_cons (pe_glob (by rfl) gW (v := .int 2) ⟨_, rfl⟩) pa_nil))))
          (pe_tup (pa_cons pe_int (pa_cons (pe_op op_pow pe_int pe_int) (pa_cons pe_int pa_nil)))) (nomark _)) (pss_one (ps_ret pe_bl)) pss_nil)
      (pss_cons (ps_for PassesOwn.never rfl (pi_range1 (by rfl) zr (pa_cons pe_int pa_nil)) (pg_name (i := 2) scLaw.nd rfl (.inl rfl))
        (pss_cons (ps_set (i := 3) scLaw.nd rfl (.inl rfl) (pe_call dD.ok hr2 (by rfl) dD.gl dD.kp dD.bi .nil pass0 (pa_cons (pv 1) (pa_cons pe_int pa_nil))))
        (pss_one (ps_if (pt_not (pt_val (pe_call dQ.ok hr3 (by rfl) dQ.gl dQ.kp dQ.bi .nil pass0 (pa_cons (pe_call dO.ok hr4 (by rfl) dO.gl dO.kp dO.bi .nil pass0 (pa_cons (pv 1) pa_nil)) (pa_cons (pv 3)
          (pa_cons (pe_op op_add (pv 3) (pe_call dD.ok hr2 (by rfl) dD.gl dD.kp dD.bi .nil pass0 (pa_cons (pv 1) (pa_cons pe_int pa_nil)))) pa_nil)))))) (pss_one (ps_ret pe_bl)) pss_nil))))
      (pss_cons (ps_par (i := 4) (j := 5) rfl scLaw.nd rfl rfl (by decide) rfl rfl (pa_cons (pe_call dO.ok hr4 (by rfl) dO.gl dO.kp dO.bi .nil pass0 (pa_cons (pv 1) pa_nil))
        (pa_cons (pe_lst (pa_cons (pe_tup (pa_cons pe_str (pa_cons pe_str (pa_cons pe_str (pa_cons pe_int (pa_cons (pe_tup pa_nil) pa_nil)))))) pa_nil)) pa_nil)) rfl)
      (pss_cons (ps_if (pt_cmpR op_eq (pe_call dD.ok hr2 (by rfl) dD.gl dD.kp dD.bi .nil pass0 (pa_cons (pv 1) (pa_cons pe_int pa_nil))) pe_int (nomark _))
        (pss_one (ps_set (i := 4) scLaw.nd rfl (.inl rfl) (pe_call dD.ok hr2 (by rfl) dD.gl dD.kp dD.bi .nil pass0 (pa_cons (pv 1) (pa_cons pe_int pa_nil))))) pss_nil)
      (pss_cons (ps_set (i := 6) scLaw.nd rfl (.inl rfl) (pe_call dD.ok hr2 (by rfl) dD.gl dD.kp dD.bi .nil pass0 (pa_cons (pv 1) (pa_cons pe_int pa_nil)))) p6)))))), ?_⟩
    refine ⟨_, rfl, a, ns, rfl, hS, hlen, fun H1 p l t s1 np hh1 => ?_⟩
    refine ⟨(by show 3 ≤ sizeLine; decide), fun b1 nb1 => ⟨_, _, rfl, rfl, ⟨by decide, by decide, by decide⟩, (by show 3 ≤ sizeLine; decide), fun b2 nb2 => ?_⟩⟩
    refine ⟨_, _, .tup (SqT.of (same_upd nb2 _ _ upd_same)) (.cons (.int _) (.cons (.int _) (.cons (.int _) .nil))), .tup (SqT.of upd_same) (.cons (.int _) (.cons (.int _) (.cons (.int _) .nil))), (by decide +kernel), (by decide +kernel), _, rfl, ?_⟩
    rw [show PyData.eqv _ _ = true by decide +kernel]
    refine iteF ?_
    have hh2 := hand_same (hand_same hh1 (same_upd (o := .tup [.int 5000, .int (10 ^ 30), .int 2]) nb1)) (same_upd (o := .tup [.int 5000, .int (10 ^ 30), .int 2]) nb2)
    refine ⟨12, rfl, by decide, by decide, for_it walk_range (fun n σ H' => ∃ (i r c : Int) (x2 x3 : Option V), σ = [some (.ref a), some (.ref p), x2, x3, none, none, none, none] ∧ HandAt H' p l (ns.map absI) i r c)
      ⟨_, _, _, none, none, rfl, hh2⟩ (fun _ _ _ _ _ => trivial) ?_ ?_⟩
    · rintro n y σ H3 H4 hn ⟨i, r, c, x2, x3, rfl, hh⟩ ⟨rfl, rfl⟩
      refine ⟨_, rfl, p, l, _, i, r, c, _, rfl, hh, by decide, by decide +kernel, fun d i1 r1 c1 d0 d1 ok1 => ?_⟩
      have hh1' := hand_upd hh ok1
      refine ⟨_, rfl, p, l, _, i1, r1, c1, rfl, hh1', fun v ty H5 i2 r2 c2 ov kk hh2' => ?_⟩
      refine ⟨_, rfl, _, rfl, _, rfl, p, l, _, i2, r2, c2, _, rfl, hh2', by decide, by decide +kernel, fun d2 i3 r3 c3 d20 d21 ok3 => ?_⟩
      refine ⟨_, _, rfl, rfl, v, ty, d, d + d2, rfl, ov _ Kept.upd, fun H6 s6 => ⟨_, rfl, iteF ?_⟩⟩
      exact ⟨i3, r3, c3, _, _, rfl, hand_same (hand_upd hh2' ok3) s6⟩
    · rintro σ H3 ⟨i, r, c, x2, x3, rfl, hh⟩
      refine ⟨_, rfl, p, l, _, i, r, c, rfl, hh, fun v ty H5 i2 r2 c2 ov kk hh5 => ?_⟩
      refine ⟨(by show 0 ≤ sizeLine; decide), fun e ne => ⟨(by show 5 ≤ sizeLine; decide), fun t1 nt1 => ⟨(by show 1 ≤ sizeLine; decide), fun D nD => ?_⟩⟩⟩
      have se := same_upd (o := .tup []) ne
      have st := same_upd (o := .tup [.str "comes", .str "a", .str "s", .int 0, .ref e]) nt1
      have sD := same_upd (o := .lst [.ref t1]) nD
      have sall := (se.trans st).trans sD
      have hhD := hand_same hh5 sall
      have row : RowAt _ t1 "a" 0 := ⟨e, sD _ _ upd_same, sD _ _ (st _ _ upd_same)⟩
      have hDp : D ≠ p := Ne.symm (ne_of_none (st _ _ (se _ _ hh5.1)) nD)
      have hDD := upd_same (H := upd (upd H5 e (.tup [])) t1 (.tup [.str "comes", .str "a", .str "s", .int 0, .ref e])) (a := D) (o := .lst [.ref t1])
      refine ⟨_, _, rfl, ?_⟩
      clear sD
      generalize upd (upd (upd H5 e (.tup [])) t1 (.tup [.str "comes", .str "a", .str "s", .int 0, .ref e])) D (.lst [.ref t1]) = HD at sall hhD row hDD ⊢
      refine ⟨_, rfl, p, l, _, i2, r2, c2, _, rfl, hhD, by decide, by decide +kernel, fun d i3 r3 c3 d0 d1 ok3 => ?_⟩
      have hh3 := hand_upd hhD ok3
      refine ⟨rfl, _, rfl, ite2 (fun g => ?_) (fun g => ?_)⟩
      · refine ⟨_, rfl, p, l, _, i3, r3, c3, _, rfl, hh3, by decide, by decide +kernel, fun d2 i4 r4 c4 d20 d21 ok4 => ?_⟩
        have hh4 := hand_upd hh3 ok4
        refine ⟨_, rfl, p, l, _, i4, r4, c4, _, rfl, hh4, by decide, by decide +kernel, fun d3 i5 r5 c5 d30 d31 ok5 => r6 _ _ Q _ ?_ q⟩
        have kk : Kept p HD (upd (upd (upd HD p (handO l i3 r3 c3)) p (handO l i4 r4 c4)) p (handO l i5 r5 c5)) := Kept.upd.trans (Kept.upd.trans Kept.upd)
        exact ⟨p, l, _, i5, r5, c5, .int d2, "int", D, t1, d3, _, _, _, _, rfl, hand_upd hh4 ok5, fun _ _ => .int _, d30, kk _ _ hDp hDD, row.kept hhD.1 kk⟩
      · refine ⟨_, rfl, p, l, _, i3, r3, c3, _, rfl, hh3, by decide, by decide +kernel, fun d3 i5 r5 c5 d30 d31 ok5 => r6 _ _ Q _ ?_ q⟩
        have kk : Kept p HD (upd (upd HD p (handO l i3 r3 c3)) p (handO l i5 r5 c5)) := Kept.upd.trans Kept.upd
        exact ⟨p, l, _, i5, r5, c5, v, ty, D, t1, d3, _, _, _, _, rfl, hand_upd hh3 ok5, fun H' k' => ov H' (((Kept.same sall).trans kk).trans k'), d30, kk _ _ hDp hDD, row.kept hhD.1 kk⟩
end
end K03

/-! the table of the parents' kinds, for any sign -/
namespace K03
open PySem PySem.Spec PyProof.Rows L2
theorem key_of {e : DictEntry} {k : Str} {i : Int} (h : He.keyOf e = some (k, i)) : ∃ t, e.key = .str k t := by
  unfold He.keyOf at h
  split at h
  · rename_i x t q
    have h4 := Option.some.inj h
    obtain ⟨h5, _⟩ := Prod.mk.inj h4
    exact ⟨t, by rw [q, h5]⟩
  · cases h
theorem sign_eq {c d : Nat} : ((⟨#[c]⟩ : Str) = ⟨#[d]⟩) ↔ c = d := ⟨fun e => by injection e with e; injection e with e; injection e, fun e => by rw [e]⟩
theorem two_keys {P : Params} : ∀ {l : List DictEntry}, l.map He.keyOf = He.keysIn P ["f", "m"] → ∃ e1 e2 t1 t2, l = [e1, e2] ∧ e1.key = .str "f" t1 ∧ e2.key = .str "m" t2
  | [], h => by cases h
  | [_], h => by
    have z := congrArg List.length h
    cases z
  | [e1, e2], h => by
    have h1 : He.keyOf e1 :: [He.keyOf e2] = some (("f" : Str), PyData.keyHash P "f") :: [some (("m" : Str), PyData.keyHash P "m")] := h
    injection h1 with a1 a2
    injection a2 with a3 _
    obtain ⟨t1, k1⟩ := key_of a1
    obtain ⟨t2, k2⟩ := key_of a3
    exact ⟨e1, e2, t1, t2, rfl, k1, k2⟩
  | _ :: _ :: _ :: _, h => by
    have z := congrArg List.length h
    have z2 : ∀ n : Nat, n + 3 = 2 → False := fun n e => by omega
    exact (z2 _ z).elim
theorem pk_ns {K : PySem.W.Frag} {w : World} {d : Addr} (h : He.dicW K d = some (He.keysIn w.params ["f", "m"])) (c : Nat) : ∃ r, PySem.W.nsIn K d ⟨#[c]⟩ = some r ∧ r.isSome = fmC c := by
  obtain ⟨es, n, D⟩ := He.dicW_ok h
  have e : es.toList.map He.keyOf = He.keysIn w.params ["f", "m"] := by
    unfold He.dicW at h
    rw [D.at_] at h
    have z : (match decide (("dict" : String) = "dict") && (((#[] : Array (Option Value)).isEmpty) && !(d == sysModules)) with
      | true => some (es.toList.map He.keyOf)
      | false => none) = some (He.keysIn w.params ["f", "m"]) := h
    rw [D.low] at z
    exact Option.some.inj z
  unfold PySem.W.nsIn
  rw [D.at_]
  obtain ⟨l⟩ := es
  obtain ⟨e1, e2, t1, t2, el, k1, k2⟩ := two_keys e
  have el2 : l = [e1, e2] := el
  subst el2
  · skip
    have f1 : (e1.key.isStr ⟨#[c]⟩) = decide (c = 102) := by
      rw [k1]
      show ((("f" : Str) == ⟨#[c]⟩) : Bool) = _
      rw [show (("f" : Str) == (⟨#[c]⟩ : Str)) = decide (("f" : Str) = ⟨#[c]⟩) from rfl]
      refine decide_eq_decide.mpr ⟨fun z => (sign_eq (c := 102) (d := c)).mp z |>.symm, fun z => by rw [z]; rfl⟩
    have f2 : (e2.key.isStr ⟨#[c]⟩) = decide (c = 109) := by
      rw [k2]
      show ((("m" : Str) == ⟨#[c]⟩) : Bool) = _
      rw [show (("m" : Str) == (⟨#[c]⟩ : Str)) = decide (("m" : Str) = ⟨#[c]⟩) from rfl]
      refine decide_eq_decide.mpr ⟨fun z => (sign_eq (c := 109) (d := c)).mp z |>.symm, fun z => by rw [z]; rfl⟩
    show ∃ r, (match [e1, e2].find? (·.key.isStr ⟨#[c]⟩) with
      | some e => some (some e.val)
      | none => if [e1, e2].any (·.refKey) then none else some none) = some r ∧ r.isSome = fmC c
    have r1 : e1.refKey = false := by
      unfold DictEntry.refKey
      rw [k1]
    have r2 : e2.refKey = false := by
      unfold DictEntry.refKey
      rw [k2]
    rw [List.find?_cons, f1]
    unfold fmC
    by_cases h1 : c = 102
    · rw [decide_eq_true h1, decide_eq_true (.inl h1)]
      exact ⟨_, rfl, rfl⟩
    · rw [decide_eq_false h1]
      dsimp only
      rw [List.find?_cons, f2]
      by_cases h2 : c = 109
      · rw [decide_eq_true h2, decide_eq_true (.inr h2)]
        exact ⟨_, rfl, rfl⟩
      · rw [decide_eq_false h2, decide_eq_false (fun z => z.elim h1 h2)]
        refine ⟨none, ?_, rfl⟩
        show (if [e1, e2].any (·.refKey) then none else some none) = some none
        rw [List.any_cons, List.any_cons, List.any_nil, r1, r2]
        rfl
end K03

set_option maxHeartbeats 8000000
/-! the facts by the head, the end -/
namespace K03
open PySem PySem.Spec PyProof.Rows L2
theorem oexB_ok {K : PySem.W.Frag} {C : Addr} (h : oexB K C = true) : ∃ nm q N bs bm sn sub ab col dd k0 k1 k2 k3 k5, K.lookup C = some (excClassObj nm q C N bs bm true sn sub ab col dd k0 k1 k2 k3 k5 "ValueError.__new__") ∧ PySem.HandSPX.refsVE bm = true := by
  unfold oexB at h
  split at h
  · rename_i t dd cd sl e
    obtain ⟨h1, h2⟩ := Bool.and_eq_true_iff.mp h
    have et := of_decide_eq_true h1
    split at h2
    · rename_i C' bm k0 k1 k2 k3 n k5 hm hs
      obtain ⟨h3, h4⟩ := Bool.and_eq_true_iff.mp h2
      obtain ⟨h5, h6⟩ := Bool.and_eq_true_iff.mp h4
      obtain ⟨h7, h8⟩ := Bool.and_eq_true_iff.mp h6
      obtain ⟨h9, h10⟩ := Bool.and_eq_true_iff.mp h8
      have eC := of_decide_eq_true h3
      have en := of_decide_eq_true h5
      obtain ⟨nm, bs, mro, ns, qn, hd, sn, sb, ab, col, del⟩ := cd
      dsimp only at hm h7 h9
      have e9 : del = false := by
        cases del with
        | false => rfl
        | true => cases h9
      have es : sl = #[k0, k1, k2, k3, some (.builtin n), k5] := by
        cases sl
        exact congrArg Array.mk hs
      subst et eC en e9 hm es h7
      exact ⟨nm, qn, ns, bs, bm, sn, sb, ab, col, dd, k0, k1, k2, k3, k5, e, h10⟩
    · cases h2
  · cases h
theorem b2 {a b : Bool} (h : (a && b) = true) : a = true ∧ b = true := Bool.and_eq_true_iff.mp h
section
variable {P : Program} {w : World} {K : PySem.W.Frag} {mg : Str → Option Value} {base : Heap}
theorem SaysM.all (c : SaysM w K) : ((fa.all fun f => f.ok K) && (restB K && fn.all fun d => d.ok K)) = true := congrArg (fun z : AlM => z.1) c
theorem SaysM.fact_ (c : SaysM w K) (i : Nat) {f : He.Fa} (h : fa[i]? = some f) : f.ok K = true := List.all_eq_true.mp (b2 c.all).1 f (List.mem_of_getElem? h)
theorem SaysM.rest (c : SaysM w K) : restB K = true := (b2 (b2 c.all).2).1
theorem SaysM.tab (c : SaysM w K) : He.dicW K (He.ga K "PARENT_KIND") = some (He.keysIn w.params ["f", "m"]) := congrArg (fun z : AlM => z.2.2) c
theorem SaysM.def_ (c : SaysM w K) (i : Nat) {d : He.DefD} (h : fn[i]? = some d) : ∃ fd, FunD K d.name d.qual d.params d.body d.scope (d.dvs K) (d.kws K) (He.fAd K d.at_) fd := by
  have c2 := (b2 (b2 c.all).2).2
  have e : fn.map (fun d => He.fnW K d.at_) = fn.map He.DefD.val := congrArg (fun z : AlM => z.2.1) c
  have e2 : (fn.map fun d => He.fnW K d.at_)[i]? = (fn.map He.DefD.val)[i]? := by rw [e]
  rw [List.getElem?_map, List.getElem?_map, h] at e2
  exact He.DefD.funD (Option.some.inj e2) (List.all_eq_true.mp c2 d (List.mem_of_getElem? h))
theorem facts {h : Heap} {f : Addr} (X : K.In h) (G : h.Ns mainGlobals mg) (hfa : mg ("law" : Str) = some (.ref f)) (c : SaysM w K) :
    ∃ fd : FuncData, (∀ (s : Shared) (v : Value), BindsTo s fd ⟨[v], []⟩ [("_law_script", v)]) ∧ ∀ base : Heap, K.In base → base.Ns mainGlobals mg → FnOk P w K mg base CX0 10 f fd ["_law_script"] (spLaw K) := by
  have z_int : mg "int" = none := He.free_ok X G (c.fact_ 0 (f := .free "int") rfl)
  have z_bool : mg "bool" = none := He.free_ok X G (c.fact_ 1 (f := .free "bool") rfl)
  have z_isinstance : mg "isinstance" = none := He.free_ok X G (c.fact_ 2 (f := .free "isinstance") rfl)
  have z_str : mg "str" = none := He.free_ok X G (c.fact_ 3 (f := .free "str") rfl)
  have z_len : mg "len" = none := He.free_ok X G (c.fact_ 4 (f := .free "len") rfl)
  have z_all : mg "all" = none := He.free_ok X G (c.fact_ 5 (f := .free "all") rfl)
  have z_list : mg "list" = none := He.free_ok X G (c.fact_ 6 (f := .free "list") rfl)
  have z_tuple : mg "tuple" = none := He.free_ok X G (c.fact_ 7 (f := .free "tuple") rfl)
  have z_enumerate : mg "enumerate" = none := He.free_ok X G (c.fact_ 8 (f := .free "enumerate") rfl)
  have z_range : mg "range" = none := He.free_ok X G (c.fact_ 9 (f := .free "range") rfl)
  have z_abs : mg "abs" = none := He.free_ok X G (c.fact_ 10 (f := .free "abs") rfl)
  have g_is_whole : mg "is_whole" = some (.ref (He.ga K "is_whole")) := He.glo_ok X G (c.fact_ 11 (f := .glo "is_whole") rfl)
  have g_is_name : mg "is_name" = some (.ref (He.ga K "is_name")) := He.glo_ok X G (c.fact_ 12 (f := .glo "is_name") rfl)
  have g_is_label : mg "is_label" = some (.ref (He.ga K "is_label")) := He.glo_ok X G (c.fact_ 13 (f := .glo "is_label") rfl)
  have g_is_kind : mg "is_kind" = some (.ref (He.ga K "is_kind")) := He.glo_ok X G (c.fact_ 14 (f := .glo "is_kind") rfl)
  have g_is_way : mg "is_way" = some (.ref (He.ga K "is_way")) := He.glo_ok X G (c.fact_ 15 (f := .glo "is_way") rfl)
  have g_is_sequence : mg "is_sequence" = some (.ref (He.ga K "is_sequence")) := He.glo_ok X G (c.fact_ 16 (f := .glo "is_sequence") rfl)
  have g_is_row : mg "is_row" = some (.ref (He.ga K "is_row")) := He.glo_ok X G (c.fact_ 17 (f := .glo "is_row") rfl)
  have g__are_names : mg "_are_names" = some (.ref (He.ga K "_are_names")) := He.glo_ok X G (c.fact_ 18 (f := .glo "_are_names") rfl)
  have g_row_fault : mg "row_fault" = some (.ref (He.ga K "row_fault")) := He.glo_ok X G (c.fact_ 19 (f := .glo "row_fault") rfl)
  have g__coming_fault : mg "_coming_fault" = some (.ref (He.ga K "_coming_fault")) := He.glo_ok X G (c.fact_ 20 (f := .glo "_coming_fault") rfl)
  have g__write_rows : mg "_write_rows" = some (.ref (He.ga K "_write_rows")) := He.glo_ok X G (c.fact_ 21 (f := .glo "_write_rows") rfl)
  have g_record_fault : mg "record_fault" = some (.ref (He.ga K "record_fault")) := He.glo_ok X G (c.fact_ 22 (f := .glo "record_fault") rfl)
  have g__as_tuples : mg "as_tuples" = some (.ref (He.ga K "as_tuples")) := He.glo_ok X G (c.fact_ 23 (f := .glo "as_tuples") rfl)
  have g__law_mix : mg "_law_mix" = some (.ref (He.ga K "_law_mix")) := He.glo_ok X G (c.fact_ 24 (f := .glo "_law_mix") rfl)
  have g__law_hand : mg "_law_hand" = some (.ref (He.ga K "_law_hand")) := He.glo_ok X G (c.fact_ 25 (f := .glo "_law_hand") rfl)
  have g__law_draw : mg "_law_draw" = some (.ref (He.ga K "_law_draw")) := He.glo_ok X G (c.fact_ 26 (f := .glo "_law_draw") rfl)
  have g__law_pick : mg "_law_pick" = some (.ref (He.ga K "_law_pick")) := He.glo_ok X G (c.fact_ 27 (f := .glo "_law_pick") rfl)
  have g__law_asked : mg "_law_asked" = some (.ref (He.ga K "_law_asked")) := He.glo_ok X G (c.fact_ 28 (f := .glo "_law_asked") rfl)
  have g__law_is_number : mg "_law_is_number" = some (.ref (He.ga K "_law_is_number")) := He.glo_ok X G (c.fact_ 29 (f := .glo "_law_is_number") rfl)
  have g__law_only : mg "_law_only" = some (.ref (He.ga K "_law_only")) := He.glo_ok X G (c.fact_ 30 (f := .glo "_law_only") rfl)
  have g__law_long_label : mg "_law_long_label" = some (.ref (He.ga K "_law_long_label")) := He.glo_ok X G (c.fact_ 31 (f := .glo "_law_long_label") rfl)
  have g__law_many : mg "_law_many" = some (.ref (He.ga K "_law_many")) := He.glo_ok X G (c.fact_ 32 (f := .glo "_law_many") rfl)
  have g__law_odd : mg "_law_odd" = some (.ref (He.ga K "_law_odd")) := He.glo_ok X G (c.fact_ 33 (f := .glo "_law_odd") rfl)
  have g__law_questions : mg "_law_questions" = some (.ref (He.ga K "_law_questions")) := He.glo_ok X G (c.fact_ 34 (f := .glo "_law_questions") rfl)
  have g_law : mg "law" = some (.ref (He.ga K "law")) := He.glo_ok X G (c.fact_ 35 (f := .glo "law") rfl)
  have g_Book : mg "Book" = some (.ref (He.ga K "Book")) := He.glo_ok X G (c.fact_ 36 (f := .glo "Book") rfl)
  have g_Record : mg "Record" = some (.ref (He.ga K "Record")) := He.glo_ok X G (c.fact_ 37 (f := .glo "Record") rfl)
  have g_BadRecord : mg "BadRecord" = some (.ref (He.ga K "BadRecord")) := He.glo_ok X G (c.fact_ 38 (f := .glo "BadRecord") rfl)
  have g_KINDS : mg "KINDS" = some (.ref (He.ga K "KINDS")) := He.glo_ok X G (c.fact_ 39 (f := .glo "KINDS") rfl)
  have g_PARENT_KIND : mg "PARENT_KIND" = some (.ref (He.ga K "PARENT_KIND")) := He.glo_ok X G (c.fact_ 40 (f := .glo "PARENT_KIND") rfl)
  have g_MOST_ROWS : ∃ t, mg "MOST_ROWS" = some (.int 5000 t) := He.int_ok X G (c.fact_ 41 (f := .int "MOST_ROWS" 5000) rfl)
  have g_MOST_NAME : ∃ t, mg "MOST_NAME" = some (.int (10 ^ 30) t) := He.int_ok X G (c.fact_ 42 (f := .int "MOST_NAME" (10 ^ 30)) rfl)
  have g_MOST_WIDTH : ∃ t, mg "MOST_WIDTH" = some (.int 2 t) := He.int_ok X G (c.fact_ 43 (f := .int "MOST_WIDTH" 2) rfl)
  obtain ⟨d_is_whole, F_is_whole⟩ := c.def_ 0 rfl
  obtain ⟨d_is_name, F_is_name⟩ := c.def_ 1 rfl
  obtain ⟨d_is_label, F_is_label⟩ := c.def_ 2 rfl
  obtain ⟨d_is_kind, F_is_kind⟩ := c.def_ 3 rfl
  obtain ⟨d_is_way, F_is_way⟩ := c.def_ 4 rfl
  obtain ⟨d_is_sequence, F_is_sequence⟩ := c.def_ 5 rfl
  obtain ⟨d_is_row, F_is_row⟩ := c.def_ 6 rfl
  obtain ⟨d__are_names, F__are_names⟩ := c.def_ 7 rfl
  obtain ⟨d_row_fault, F_row_fault⟩ := c.def_ 8 rfl
  obtain ⟨d__coming_fault, F__coming_fault⟩ := c.def_ 9 rfl
  obtain ⟨d__write_rows, F__write_rows⟩ := c.def_ 10 rfl
  obtain ⟨d_record_fault, F_record_fault⟩ := c.def_ 11 rfl
  obtain ⟨d__as_tuples, F__as_tuples⟩ := c.def_ 12 rfl
  obtain ⟨d__law_mix, F__law_mix⟩ := c.def_ 13 rfl
  obtain ⟨d__law_hand, F__law_hand⟩ := c.def_ 14 rfl
  obtain ⟨d__law_draw, F__law_draw⟩ := c.def_ 15 rfl
  obtain ⟨d__law_pick, F__law_pick⟩ := c.def_ 16 rfl
  obtain ⟨d__law_asked, F__law_asked⟩ := c.def_ 17 rfl
  obtain ⟨d__law_is_number, F__law_is_number⟩ := c.def_ 18 rfl
  obtain ⟨d__law_only, F__law_only⟩ := c.def_ 19 rfl
  obtain ⟨d__law_long_label, F__law_long_label⟩ := c.def_ 20 rfl
  obtain ⟨d__law_many, F__law_many⟩ := c.def_ 21 rfl
  obtain ⟨d__law_odd, F__law_odd⟩ := c.def_ 22 rfl
  obtain ⟨d__law_questions, F__law_questions⟩ := c.def_ 23 rfl
  obtain ⟨d_law, F_law⟩ := c.def_ 24 rfl
  obtain ⟨d_BadRecord__init__, F_BadRecord__init__⟩ := c.def_ 25 rfl
  obtain ⟨d_Book__init__, F_Book__init__⟩ := c.def_ 26 rfl
  obtain ⟨d_Bookwrite, F_Bookwrite⟩ := c.def_ 27 rfl
  obtain ⟨d_Bookbring, F_Bookbring⟩ := c.def_ 28 rfl
  obtain ⟨d_Record__init__, F_Record__init__⟩ := c.def_ 29 rfl
  obtain ⟨d_Record__len__, F_Record__len__⟩ := c.def_ 30 rfl
  have b_is_whole : Binds K d_is_whole ["thing", "low", "high"] [] := FunD.bindsN F_is_whole fun _ _ _ _ _ _ us hl => match us, hl with | [_, _, _], _ => rfl
  have b_is_name : Binds K d_is_name ["thing"] [] := FunD.bindsN F_is_name fun _ _ _ _ _ _ us hl => match us, hl with | [_], _ => rfl
  have b_is_label : Binds K d_is_label ["thing"] [] := FunD.bindsN F_is_label fun _ _ _ _ _ _ us hl => match us, hl with | [_], _ => rfl
  have b_is_kind : Binds K d_is_kind ["thing"] [] := FunD.bindsN F_is_kind fun _ _ _ _ _ _ us hl => match us, hl with | [_], _ => rfl
  have b_is_way : Binds K d_is_way ["thing", "least", "most"] [] := FunD.bindsN F_is_way fun _ _ _ _ _ _ us hl => match us, hl with | [_, _, _], _ => rfl
  have b_is_sequence : Binds K d_is_sequence ["thing"] [] := FunD.bindsN F_is_sequence fun _ _ _ _ _ _ us hl => match us, hl with | [_], _ => rfl
  have b_is_row : Binds K d_is_row ["row"] [] := FunD.bindsN F_is_row fun _ _ _ _ _ _ us hl => match us, hl with | [_], _ => rfl
  have b__are_names : Binds K d__are_names ["thing"] [] := FunD.bindsN F__are_names fun _ _ _ _ _ _ us hl => match us, hl with | [_], _ => rfl
  have b_row_fault : Binds K d_row_fault ["book", "width", "row"] [] := FunD.bindsN F_row_fault fun _ _ _ _ _ _ us hl => match us, hl with | [_, _, _], _ => rfl
  have b__coming_fault : Binds K d__coming_fault ["book", "width", "row"] [] := FunD.bindsN F__coming_fault fun _ _ _ _ _ _ us hl => match us, hl with | [_, _, _], _ => rfl
  have b__write_rows : Binds K d__write_rows ["book", "width", "rows"] [] := FunD.bindsN F__write_rows fun _ _ _ _ _ _ us hl => match us, hl with | [_, _, _], _ => rfl
  have b_record_fault : Binds K d_record_fault ["width", "rows"] [] := FunD.bindsN F_record_fault fun _ _ _ _ _ _ us hl => match us, hl with | [_, _], _ => rfl
  have b__as_tuples : Binds K d__as_tuples ["row"] [] := FunD.bindsN F__as_tuples fun _ _ _ _ _ _ us hl => match us, hl with | [_], _ => rfl
  have b__law_mix : Binds K d__law_mix ["_law_number", "_law_turn"] [] := FunD.bindsN F__law_mix fun _ _ _ _ _ _ us hl => match us, hl with | [_, _], _ => rfl
  have b__law_hand : Binds K d__law_hand ["_law_script"] [] := FunD.bindsN F__law_hand fun _ _ _ _ _ _ us hl => match us, hl with | [_], _ => rfl
  have b__law_draw : Binds K d__law_draw ["_law_hand_here", "_law_many_here"] [] := FunD.bindsN F__law_draw fun _ _ _ _ _ _ us hl => match us, hl with | [_, _], _ => rfl
  have b__law_pick : Binds K d__law_pick ["_law_hand_here", "_law_things"] [] := FunD.bindsN F__law_pick fun _ _ _ _ _ _ us hl => match us, hl with | [_, _], _ => rfl
  have b__law_asked : Binds K d__law_asked ["_law_width", "_law_rows"] [] := FunD.bindsN F__law_asked fun _ _ _ _ _ _ us hl => match us, hl with | [_, _], _ => rfl
  have b__law_is_number : Binds K d__law_is_number ["_law_thing", "_law_low", "_law_high"] [] := FunD.bindsN F__law_is_number fun _ _ _ _ _ _ us hl => match us, hl with | [_, _, _], _ => rfl
  have b__law_only : Binds K d__law_only ["_law_thing", "_law_signs", "_law_least", "_law_most"] [] := FunD.bindsN F__law_only fun _ _ _ _ _ _ us hl => match us, hl with | [_, _, _, _], _ => rfl
  have b__law_long_label : Binds K d__law_long_label ["_law_k"] [] := FunD.bindsN F__law_long_label fun _ _ _ _ _ _ us hl => match us, hl with | [_], _ => rfl
  have b__law_many : Binds K d__law_many ["_law_many_here"] [] := FunD.bindsN F__law_many fun _ _ _ _ _ _ us hl => match us, hl with | [_], _ => rfl
  have b__law_odd : Binds K d__law_odd ["_law_hand_here"] [] := FunD.bindsN F__law_odd fun _ _ _ _ _ _ us hl => match us, hl with | [_], _ => rfl
  have b__law_questions : Binds K d__law_questions ["_law_thing", "_law_low", "_law_high"] [] := FunD.bindsN F__law_questions fun _ _ _ _ _ _ us hl => match us, hl with | [_, _, _], _ => rfl
  have b_BadRecord__init__ : Binds K d_BadRecord__init__ ["self", "index", "what"] [] := FunD.bindsN F_BadRecord__init__ fun _ _ _ _ _ _ us hl => match us, hl with | [_, _, _], _ => rfl
  have b_Book__init__ : Binds K d_Book__init__ ["self"] [] := FunD.bindsN F_Book__init__ fun _ _ _ _ _ _ us hl => match us, hl with | [_], _ => rfl
  have b_Bookwrite : Binds K d_Bookwrite ["self", "index", "row"] [] := FunD.bindsN F_Bookwrite fun _ _ _ _ _ _ us hl => match us, hl with | [_, _, _], _ => rfl
  have b_Bookbring : Binds K d_Bookbring ["self", "index", "label", "kind"] [] := FunD.bindsN F_Bookbring fun _ _ _ _ _ _ us hl => match us, hl with | [_, _, _, _], _ => rfl
  have b_Record__init__ : Binds K d_Record__init__ ["self", "width", "rows"] [] := by
    obtain ⟨ds, v, b⟩ := FunD.binds1 (ps := ["self", "width", "rows"]) F_Record__init__ 3 1 (List.cons_ne_nil _ _) rfl fun T kV doc pm an cdv ct us its h1 h2 => match us, h1, its, h2 with | [_, _, _], _, [_], _ => ⟨_, rfl, rfl⟩
    have e : ds = [] := by
      have z := v.length
      exact List.eq_nil_of_length_eq_zero z.symm
    subst e
    exact b
  have b_Record__len__ : Binds K d_Record__len__ ["self"] [] := FunD.bindsN F_Record__len__ fun _ _ _ _ _ _ us hl => match us, hl with | [_], _ => rfl
  have TB : BookC K (He.ga K "Book") := ⟨(He.cls_ok (c.fact_ 44 (f := .cls "Book") rfl)), (He.noat_ok (c.fact_ 48 (f := .noat "Book" "kinds") rfl)), (He.noat_ok (c.fact_ 49 (f := .noat "Book" "parents") rfl)), (He.noat_ok (c.fact_ 50 (f := .noat "Book" "row_numbers") rfl)), (He.noat_ok (c.fact_ 51 (f := .noat "Book" "dead") rfl)), (He.noat_ok (c.fact_ 52 (f := .noat "Book" "mate_now") rfl)), (He.noat_ok (c.fact_ 53 (f := .noat "Book" "all_mates") rfl)), (He.noat_ok (c.fact_ 54 (f := .noat "Book" "children") rfl))⟩
  have TR : RecC K (He.ga K "Record") := ⟨(He.cls_ok (c.fact_ 55 (f := .cls "Record") rfl)), (He.noat_ok (c.fact_ 58 (f := .noat "Record" "width") rfl)), (He.noat_ok (c.fact_ 59 (f := .noat "Record" "rows") rfl)), (He.noat_ok (c.fact_ 60 (f := .noat "Record" "persons") rfl)), (He.noat_ok (c.fact_ 61 (f := .noat "Record" "founders") rfl)), (He.noat_ok (c.fact_ 62 (f := .noat "Record" "born") rfl)), (He.noat_ok (c.fact_ 63 (f := .noat "Record" "weddings") rfl)), (He.noat_ok (c.fact_ 64 (f := .noat "Record" "couples") rfl)), (He.noat_ok (c.fact_ 65 (f := .noat "Record" "living") rfl)), (He.noat_ok (c.fact_ 66 (f := .noat "Record" "_book") rfl))⟩
  obtain ⟨r1, r2⟩ := b2 c.rest
  obtain ⟨r3, r4⟩ := b2 r2
  obtain ⟨x1, x⟩ := b2 r1
  obtain ⟨x2, x⟩ := b2 x
  obtain ⟨x3, x⟩ := b2 x
  obtain ⟨x4, x⟩ := b2 x
  obtain ⟨x5, x⟩ := b2 x
  obtain ⟨x6, x7⟩ := b2 x
  have xf := xfB_ok x2
  have ox : OexC K (He.ga K "BadRecord") := ⟨oexB_ok x1, of_decide_eq_true x3, xf.exC, of_decide_eq_true x4, x5⟩
  obtain ⟨es, n, KD⟩ := He.dicW_ok c.tab
  have e := hfa.symm.trans g_law
  cases e
  have b_law := FunD.bindsA (ps := ["_law_script"]) F_law fun _ _ _ _ _ _ us hl => match us, hl with | [_], _ => rfl
  refine ⟨d_law, fun s v => b_law s [v] rfl, fun base KX KG => ?_⟩
  have D_is_whole : Df P w K mg base "is_whole" 1 ["thing", "low", "high"] spWhole (He.ga K "is_whole") d_is_whole := ⟨g_is_whole, ok_whole F_is_whole z_int z_bool z_isinstance, b_is_whole, F_is_whole.kp⟩
  have D_is_name : Df P w K mg base "is_name" 2 ["thing"] spName (He.ga K "is_name") d_is_name := ⟨g_is_name, ok_name F_is_name D_is_whole.ok D_is_whole.bi D_is_whole.kp D_is_whole.gl g_MOST_NAME, b_is_name, F_is_name.kp⟩
  have D_is_label : Df P w K mg base "is_label" 1 ["thing"] spLabel (He.ga K "is_label") d_is_label := ⟨g_is_label, ok_label F_is_label z_str z_isinstance z_len z_all, b_is_label, F_is_label.kp⟩
  have D_is_kind : Df P w K mg base "is_kind" 1 ["thing"] spKind (He.ga K "is_kind") d_is_kind := ⟨g_is_kind, ok_kind F_is_kind z_str z_isinstance g_KINDS (fun H => He.tupB_ok r4 H), b_is_kind, F_is_kind.kp⟩
  have D_is_way : Df P w K mg base "is_way" 1 ["thing", "least", "most"] spWay (He.ga K "is_way") d_is_way := ⟨g_is_way, ok_way F_is_way z_str z_isinstance z_len z_all g_PARENT_KIND KD (pk_ns c.tab), b_is_way, F_is_way.kp⟩
  have D_is_sequence : Df P w K mg base "is_sequence" 1 ["thing"] spSeq (He.ga K "is_sequence") d_is_sequence := ⟨g_is_sequence, ok_seq F_is_sequence z_list z_tuple z_isinstance, b_is_sequence, F_is_sequence.kp⟩
  have D__are_names : Df P w K mg base "_are_names" 3 ["thing"] spNames (He.ga K "_are_names") d__are_names := ⟨g__are_names, ok_names F__are_names z_all D_is_sequence D_is_name, b__are_names, F__are_names.kp⟩
  have D_is_row : Df P w K mg base "is_row" 4 ["row"] spRow (He.ga K "is_row") d_is_row := ⟨g_is_row, ok_row F_is_row z_isinstance z_str z_len D_is_sequence D_is_label D_is_kind D_is_name D__are_names, b_is_row, F_is_row.kp⟩
  have D__coming_fault : Df P w K mg base "_coming_fault" 1 ["book", "width", "row"] (spComing (He.ga K "Book")) (He.ga K "_coming_fault") d__coming_fault := ⟨g__coming_fault, ok_coming F__coming_fault TB z_len, b__coming_fault, F__coming_fault.kp⟩
  have D_row_fault : Df P w K mg base "row_fault" 5 ["book", "width", "row"] (spFault (He.ga K "Book")) (He.ga K "row_fault") d_row_fault := ⟨g_row_fault, ok_fault F_row_fault D_is_row D__coming_fault, b_row_fault, F_row_fault.kp⟩
  have OBring : FnOk P w K mg base CX0 1 _ d_Bookbring ["self", "index", "label", "kind"] (spBring (He.ga K "Book")) := ok_bring F_Bookbring TB
  have OWrite : FnOk P w K mg base CX0 2 _ d_Bookwrite ["self", "index", "row"] (spWrite (He.ga K "Book")) := ok_write F_Bookwrite TB (He.meth_ok (c.fact_ 47 (f := .meth "Book" "bring") rfl)) OBring b_Bookbring
  have D__write_rows : Df P w K mg base "_write_rows" 6 ["book", "width", "rows"] (spWR (He.ga K "Book")) (He.ga K "_write_rows") d__write_rows := ⟨g__write_rows, ok_wr F__write_rows TB z_len z_enumerate g_MOST_ROWS g_MOST_WIDTH D_is_whole D_is_sequence D_row_fault (He.meth_ok (c.fact_ 46 (f := .meth "Book" "write") rfl)) OWrite b_Bookwrite, b__write_rows, F__write_rows.kp⟩
  have MB : BookMk P w K mg base (He.ga K "Book") _ d_Book__init__ := ⟨(He.mkr_ok (c.fact_ 45 (f := .mkr "Book") rfl)), g_Book, ok_binit F_Book__init__ TB, b_Book__init__⟩
  have D_record_fault : Df P w K mg base "record_fault" 7 ["width", "rows"] spRF (He.ga K "record_fault") d_record_fault := ⟨g_record_fault, ok_rf F_record_fault MB D__write_rows, b_record_fault, F_record_fault.kp⟩
  have D__as_tuples : Df P w K mg base "as_tuples" 1 ["row"] spTuples (He.ga K "as_tuples") d__as_tuples := ⟨g__as_tuples, ok_tuples F__as_tuples z_tuple, b__as_tuples, F__as_tuples.kp⟩
  have XB : BadC P w K mg base (He.ga K "BadRecord") _ d_BadRecord__init__ := ⟨ox, of_decide_eq_true x6, of_decide_eq_true x7, g_BadRecord, ok_bad F_BadRecord__init__ ox (He.noat_ok (c.fact_ 67 (f := .noat "BadRecord" "index") rfl)) (He.noat_ok (c.fact_ 68 (f := .noat "BadRecord" "what") rfl)), b_BadRecord__init__⟩
  have ML := (He.meth_ok (c.fact_ 57 (f := .meth "Record" "__len__") rfl))
  have RM : RecMk P w K mg base (He.ga K "Record") (He.ga K "BadRecord") _ _ d_Record__init__ d_Record__len__ := ⟨TR, (He.mkr_ok (c.fact_ 56 (f := .mkr "Record") rfl)), g_Record, ok_rec F_Record__init__ TR TB z_tuple MB D__write_rows D__as_tuples XB, b_Record__init__, ML.at_, of_decide_eq_true r3, ok_rlen F_Record__len__ TR z_len, b_Record__len__, g_BadRecord, xf, (He.noat_ok (c.fact_ 67 (f := .noat "BadRecord" "index") rfl)), (He.noat_ok (c.fact_ 68 (f := .noat "BadRecord" "what") rfl)), He.exm_ok (c.fact_ 69 (f := .exm "BadRecord" "BadRecord" true) rfl)⟩
  have D__law_draw : Df P w K mg base "_law_draw" 2 ["_law_hand_here", "_law_many_here"] spDraw (He.ga K "_law_draw") d__law_draw := ⟨g__law_draw, ok_draw F__law_draw z_int z_len F__law_mix g__law_mix, b__law_draw, F__law_draw.kp⟩
  have D__law_hand : Df P w K mg base "_law_hand" 1 ["_law_script"] (spHand K) (He.ga K "_law_hand") d__law_hand := ⟨g__law_hand, ok_hand F__law_hand z_int z_abs z_enumerate, b__law_hand, F__law_hand.kp⟩
  have D__law_pick : Df P w K mg base "_law_pick" 3 ["_law_hand_here", "_law_things"] (spPick K) (He.ga K "_law_pick") d__law_pick := ⟨g__law_pick, ok_pick F__law_pick z_len D__law_draw, b__law_pick, F__law_pick.kp⟩
  have D__law_asked : Df P w K mg base "_law_asked" 9 ["_law_width", "_law_rows"] spAsked (He.ga K "_law_asked") d__law_asked := ⟨g__law_asked, ok_asked F__law_asked z_len RM, b__law_asked, F__law_asked.kp⟩
  have D__law_is_number : Df P w K mg base "_law_is_number" 1 ["_law_thing", "_law_low", "_law_high"] spWhole (He.ga K "_law_is_number") d__law_is_number := ⟨g__law_is_number, ok_num F__law_is_number z_int z_bool z_isinstance, b__law_is_number, F__law_is_number.kp⟩
  have D__law_only : Df P w K mg base "_law_only" 1 ["_law_thing", "_law_signs", "_law_least", "_law_most"] spOnly (He.ga K "_law_only") d__law_only := ⟨g__law_only, ok_only F__law_only z_str z_isinstance z_len, b__law_only, F__law_only.kp⟩
  have D__law_long_label : Df P w K mg base "_law_long_label" 1 ["_law_k"] spLong (He.ga K "_law_long_label") d__law_long_label := ⟨g__law_long_label, ok_long F__law_long_label, b__law_long_label, F__law_long_label.kp⟩
  have D__law_many : Df P w K mg base "_law_many" 2 ["_law_many_here"] spMany (He.ga K "_law_many") d__law_many := ⟨g__law_many, ok_many F__law_many z_range D__law_long_label, b__law_many, F__law_many.kp⟩
  have D__law_odd : Df P w K mg base "_law_odd" 4 ["_law_hand_here"] spOdd (He.ga K "_law_odd") d__law_odd := ⟨g__law_odd, ok_odd F__law_odd z_range D__law_draw D__law_pick, b__law_odd, F__law_odd.kp⟩
  have D__law_questions : Df P w K mg base "_law_questions" 3 ["_law_thing", "_law_low", "_law_high"] spQuest (He.ga K "_law_questions") d__law_questions := ⟨g__law_questions, ok_quest F__law_questions z_str z_isinstance z_bool z_range D_is_whole D_is_name D_is_label D_is_kind D_is_way D__law_is_number D__law_only, b__law_questions, F__law_questions.kp⟩
  exact ok_law F_law z_len z_range g_MOST_ROWS g_MOST_NAME g_MOST_WIDTH D__law_hand D__law_questions D__law_odd D_record_fault D__law_asked D__law_is_number D__law_draw D__law_pick D__law_many
end
end K03
open PySem PySem.W PySem.Calls PyProof.Rows
set_option maxRecDepth 100000 in
set_option maxHeartbeats 0 in
theorem PySem.Challenge.cw_namesakes_k03_lists_refused_as_a_whole_holds : PySem.Challenge.rw_namesakes_k03_lists_refused_as_a_whole.Holds := by
  w_on; o_law
  refine HandSHeadRun.head_any (r := OpenLaw.row PySem.Challenge.rw_namesakes_k03_lists_refused_as_a_whole) (q := view (OpenLaw.row PySem.Challenge.rw_namesakes_k03_lists_refused_as_a_whole).prog [39]) (H := K03.hookM) (ob := K03.ob) (M := 20000) (loose := K03.looseL)
    (d := HandSHeadRun.topDef (OpenLaw.row PySem.Challenge.rw_namesakes_k03_lists_refused_as_a_whole).prog 39) (kwd := []) K03.ob_eq
    (by kernel_rfl) (fun s => by kernel_rfl) K03.run (by kernel_rfl) (by kernel_rfl) (by kernel_rfl) (by rfl) (by first | assumption | decide +kernel) (by decide +kernel) ⟨rfl, rfl, rfl, rfl, rfl, by decide +kernel⟩ ?hw ?hc
  case hw => w_witness2
  case hc =>
    refine L2.walk_ofE (l := PySem.Challenge.rw_namesakes_k03_lists_refused_as_a_whole) (n := 63) (k := 10) (x := "_law_script") (CX := L2.CX0) rfl (by decide) (by kernel_rfl) ⟨rfl, by decide, by decide⟩ ?F (fun _ _ _ _ z => z)
    intro w mg fa h Y G hmg0
    obtain ⟨K, KX, c⟩ := Y
    have hmg : mg ("law" : PySem.Str) = some (.ref fa) := by
      have e : (HandSHeadRun.topDef (OpenLaw.row PySem.Challenge.rw_namesakes_k03_lists_refused_as_a_whole).prog 39).name = ("law" : PySem.Str) := by kernel_rfl
      rw [← e]
      exact hmg0
    obtain ⟨fd, hb, hF⟩ := K03.facts (P := (PySem.Challenge.rw_namesakes_k03_lists_refused_as_a_whole).prog) (w := w) KX G hmg c
    exact ⟨K, fd, K03.spLaw K, KX, hb, fun H a ns hl _ hS => ⟨a, ns, rfl, hS, hl, fun _ => rfl⟩, hF⟩
