import PyProof.Rows.All
import Wide.All
import OpenK.AllK
import Wide.FinOn
import KE.KStateDown
import KE.KExcIs
import HandS.ForMost
import HandS.Exc
import HandS.ExcOwn
import HandS.ExcInit
import HandS.ExcField
import HandS.ExcValue
import HandS.IsInst
import HandS.ExcIs
import HandS.Deep
import HandS.Wide
import HandS.Walk
import HandS.Flow
import HandS.Defaults
import HandS.Words
import HandS.WordsList
import HandS.WordsExc
import HandS.TryOnly
import HandS.Head0
import HandS.Head1
import HandS.Head2
import HandS.HeadEnd
import HandS.HeadHook1
import HandS.HeadHook2
import PySem.Challenge.RW_namesakes_k08_clauses_made_and_refused
import HandS.HeadHook3
import HandS.Text
import HandS.More
import HandS.Iter
import PyProof.EnumMake
import PyProof.Draws
import KE.GoesMore
import HandS.Star
import KE.KFmtOwn
import HandS.OwnEq
import HandS.FStr
import HandS.RaiseMore
import HandS.Dict
import HandS.New0
import PyProof.InstEq
import HandS.ClsMeth
import HandS.Style
import HandS.MakeKwOnly
set_option Elab.async false
set_option linter.all false
set_option maxRecDepth 100000
set_option maxHeartbeats 4000000
namespace K08
open PySem PySem.Spec PyProof.Rows L2
def top (i : Nat) : Stmt := PySem.Challenge.pw_namesakes_k08_clauses_made_and_refused.main.body.getD i (.Pass ⟨0, 0, 0, 0⟩)
abbrev FnP (K : PySem.W.Frag) (x : Str) (st : Stmt) (f : Addr) (fd : FuncData) : Prop := FunD K x x (defArgs st) (defBody st) (defScope st) [] [] f fd
abbrev sPWall : Stmt := top 0
abbrev sPIsWhole : Stmt := top 7
abbrev sPIsWay : Stmt := top 8
abbrev sPIsSource : Stmt := top 13
abbrev sPIsBar : Stmt := top 14
abbrev sPListed : Stmt := top 15
abbrev sMix : Stmt := top 26
abbrev sHand : Stmt := top 27
abbrev sDraw : Stmt := top 28
abbrev sPick : Stmt := top 29
abbrev sWays : Stmt := top 30
abbrev sSources : Stmt := top 31
abbrev sHouses : Stmt := top 32
abbrev sMakeCondition : Stmt := top 33
abbrev sFree : Stmt := top 34
abbrev sTake : Stmt := top 35
abbrev sMakeClause : Stmt := top 36
abbrev sConditionText : Stmt := top 37
abbrev sClauseText : Stmt := top 38
abbrev sRows : Stmt := top 39
abbrev sThing : Stmt := top 40
abbrev sIsWay : Stmt := top 41
abbrev sIsSource : Stmt := top 42
abbrev sRow : Stmt := top 43
abbrev sFault : Stmt := top 44
abbrev sTold : Stmt := top 45
abbrev sParts : Stmt := top 46
abbrev sConditionRight : Stmt := top 47
abbrev sTakeOf : Stmt := top 48
abbrev sFreeOf : Stmt := top 49
abbrev sFirst : Stmt := top 50
abbrev sTakeRight : Stmt := top 51
abbrev sFreeRight : Stmt := top 52
abbrev sEqual : Stmt := top 53
abbrev sLaw : Stmt := top 54
end K08

namespace K08
open PySem PySem.Spec PyProof.Rows L2
def oexB (K : PySem.W.Frag) (C : Addr) : Bool := match K.lookup C with
  | some ⟨.type t, _, .cls cd, sl⟩ => decide (t = "type") && (match cd.mro, sl.toList with
    | .ref C' :: bm, [_, _, _, _, some (.builtin n), _] => decide (C' = C) && (decide (n = "ValueError.__new__") && (cd.hasDict && (!cd.hasDel && PySem.HandSPX.refsVE bm)))
    | _, _ => false)
  | _ => false
/-- what isinstance and the reads of fields ask of a class -/
def excB (K : PySem.W.Frag) (D : Addr) : Bool :=
  decide (PySem.W.findIn K (.ref D) "__getattribute__" = some (some (.builtin "BaseException.__getattribute__"))) && (
  decide (PySem.W.findIn K (.ref D) "__getattr__" = some none) && (
  decide (PySem.W.subIn K (.ref D) (.type "BaseException") = some true) && (
  PySem.W.hasDictIn K D && (
  decide (PySem.W.findIn K (.ref D) "__class__" = some (some (.builtin "object.__class__"))) && (
  decide (PySem.W.mroIn K D (.type "object") = some true) && (
  decide (PySem.W.findIn K (.ref D) "__setattr__" = some (some (.builtin "object.__setattr__"))) && (
  decide (PySem.W.typeIn K (.ref D) = some (.type "type")) && (
  PySem.W.keepIn K (.ref D)))))))))
def dunB (K : PySem.W.Frag) : Bool :=
  decide (PySem.W.specialIn K (.builtin "object.__class__") "__get__" = some (some (.builtin "getset_descriptor.__get__"))) && decide (PySem.W.takesIn K (.builtin "object.__class__") = some true)
/-- an error with an own __init__ -/
def badE (K : PySem.W.Frag) (C : Addr) : Bool :=
  oexB K C && (excB K C && (
  decide (PySem.W.findIn K (.ref C) "__init__" = some (some (.ref (He.ma K C "__init__")))) &&
  decide (PySem.W.typeIn K (.ref (He.ma K C "__init__")) = some (.type "function"))))
/-- what is asked of a class of conditions or clauses -/
def ciB (K : PySem.W.Frag) (b : Bool) (x : Str) : Bool :=
  decide (PySem.W.findIn K (.ref (He.ga K x)) "__class__" = some (some (.builtin "object.__class__"))) && (
  decide (PySem.W.mroIn K (He.ga K x) (.type "object") = some true) && (
  decide (PySem.W.kitOne K (.ref (He.ga K x)) (.type "str") = some false) && (
  decide (PySem.W.kitOne K (.ref (He.ga K x)) (.type "tuple") = some false) && (
  decide (PySem.W.kitOne K (.ref (He.ga K x)) (.ref (He.ga K "Condition")) = some b) && (
  decide (PySem.W.findIn K (.ref (He.ga K x)) "__eq__" = some (some (.ref (He.ma K (He.ga K x) "__eq__")))) && (
  PySem.W.isFn K (.ref (He.ma K (He.ga K x) "__eq__")) && (
  decide (PySem.W.findIn K (.ref (He.ga K x)) "__ne__" = some (some (.builtin "object.__ne__"))) && (
  PySem.W.notFirst K (He.ga K x) (.type "tuple") && (
  decide (PySem.W.findIn K (.ref (He.ga K x)) "__str__" = some (some (.ref (He.ma K (He.ga K x) "__str__")))) && (
  PySem.W.isFn K (.ref (He.ma K (He.ga K x) "__str__")) && PySem.W.makesIn K (He.ga K x)))))))))))
/-- a class with no own __init__ -/
def bareB (K : PySem.W.Frag) (x : Str) : Bool :=
  decide (PySem.W.findIn K (.ref (He.ga K x)) "__init__" = some (some (.builtin "object.__init__"))) && (decide (PySem.W.mroIn K (He.ga K x) (.ref (He.ga K x)) = some true) && PySem.W.keepIn K (.ref (He.ga K x)))
/-- the manner of a class of clauses -/
def manB (K : PySem.W.Frag) (x z : Str) : Bool :=
  (match PySem.W.findIn K (.ref (He.ga K x)) "MANNER" with
    | some (some (.str y t)) => decide (y = z) && decide (PySem.W.specialIn K (.str y t) "__get__" = some none)
    | _ => false) && (PySem.W.readsIn K (He.ga K x) (.type "type") && (decide (PySem.W.specialIn K (.ref (He.ga K x)) "__getattribute__" = some (some (.builtin "type.__getattribute__"))) && (
  match PySem.W.findCls K (.ref (He.ga K x)) (.type "type") "MANNER" with
    | some (.val (.str y _)) => decide (y = z)
    | _ => false)))
/-- how the two errors stand to others -/
def cauB (K : PySem.W.Frag) (x y : Str) : Bool :=
  decide (PySem.W.kitOne K (.ref (He.ga K x)) (.ref (He.ga K "CustomError")) = some true) && (decide (PySem.W.kitOne K (.ref (He.ga K x)) (.type "ValueError") = some true) && decide (PySem.W.kitOne K (.ref (He.ga K x)) (.ref (He.ga K y)) = some false))
def six : List Str := ["Number", "Alive", "Dead", "Unlike", "Unborne", "Never"]
def notsB (K : PySem.W.Frag) : Bool := (six.all fun x => six.all fun y => PySem.W.notFirst K (He.ga K x) (.ref (He.ga K y))) && (
  PySem.W.notFirst K (He.ga K "Take") (.ref (He.ga K "Take")) && (PySem.W.notFirst K (He.ga K "Free") (.ref (He.ga K "Free")) && (PySem.W.notFirst K (He.ga K "Free") (.ref (He.ga K "Take")) && (PySem.W.notFirst K (He.ga K "Take") (.type "str") && (
  decide ((six.map (He.ga K)).Nodup) && decide (He.ga K "Free" ≠ He.ga K "Take"))))))
def kinds5 : List String := ["NoneType", "str", "int", "bool", "tuple"]
def restB (K : PySem.W.Frag) : Bool := badE K (He.ga K "BadCondition") && (badE K (He.ga K "BadClause") && (dunB K && (cauB K "BadCondition" "BadClause" && (cauB K "BadClause" "BadCondition" && (
  (six.all fun x => ciB K true x) && (ciB K false "Take" && (ciB K false "Free" && (bareB K "Unborne" && (bareB K "Never" && (manB K "Take" "take" && (manB K "Free" "free" && (notsB K && (
  (kinds5.all fun t => decide (PySem.W.kitOne K (.type t) (.ref (He.ga K "Condition")) = some false)) && (He.tupB K "SOURCES" [.str "f", .str "m", .str "ff", .str "fm", .str "mf", .str "mm", .str "fff", .str "ffm", .str "fmf", .str "fmm", .str "mff", .str "mfm", .str "mmf", .str "mmm", .str "f.0", .str "f.1", .str "m.0", .str "m.1"] && He.tupB K "BAR_WORDS" [.str "living", .str "ever"]))))))))))))))
def fa : List He.Fa := [.free "int",
  .free "bool",
  .free "isinstance",
  .free "str",
  .free "len",
  .free "all",
  .free "list",
  .free "tuple",
  .free "enumerate",
  .free "range",
  .free "abs",
  .free "type",
  .free "ValueError",
  .glo "is_whole",
  .glo "is_way",
  .glo "is_source",
  .glo "is_bar",
  .glo "listed",
  .glo "_law_mix",
  .glo "_law_hand",
  .glo "_law_draw",
  .glo "_law_pick",
  .glo "_law_ways",
  .glo "_law_sources",
  .glo "_law_houses",
  .glo "_law_make_condition",
  .glo "_law_free",
  .glo "_law_take",
  .glo "_law_condition_text",
  .glo "_law_clause_text",
  .glo "_law_thing",
  .glo "_law_is_way",
  .glo "_law_is_source",
  .glo "_law_row",
  .glo "_law_fault",
  .glo "_law_told",
  .glo "_law_parts",
  .glo "_law_condition_right",
  .glo "_law_take_of",
  .glo "_law_free_of",
  .glo "_law_first",
  .glo "_law_take_right",
  .glo "_law_free_right",
  .glo "_law_equal",
  .glo "law",
  .glo "Condition",
  .glo "Number",
  .glo "Alive",
  .glo "Dead",
  .glo "Unlike",
  .glo "Unborne",
  .glo "Never",
  .glo "Take",
  .glo "Free",
  .glo "BadCondition",
  .glo "BadClause",
  .glo "CustomError",
  .glo "SOURCES",
  .glo "BAR_WORDS",
  .glo "PARENT_KIND",
  .int "MOST_CONDITIONS" 4,
  .cls "Number",
  .mkr "Number",
  .noat "Number" "n",
  .cls "Alive",
  .mkr "Alive",
  .noat "Alive" "way",
  .cls "Dead",
  .mkr "Dead",
  .noat "Dead" "way",
  .cls "Unlike",
  .mkr "Unlike",
  .noat "Unlike" "one",
  .noat "Unlike" "other",
  .cls "Unborne",
  .cls "Never",
  .cls "Take",
  .mkr "Take",
  .noat "Take" "source",
  .noat "Take" "conditions",
  .cls "Free",
  .mkr "Free",
  .noat "Free" "bars",
  .noat "BadCondition" "what",
  .noat "BadClause" "index",
  .noat "BadClause" "what",
  .exm "BadCondition" "BadCondition" true,
  .exm "BadClause" "BadClause" true]
def dG (x : Str) (st : Stmt) : He.DefD := ⟨(x, none), x, x, defArgs st, defBody st, defScope st, [], []⟩
def fn : List He.DefD := [dG "is_whole" sPIsWhole,
  dG "is_way" sPIsWay,
  dG "is_source" sPIsSource,
  dG "is_bar" sPIsBar,
  dG "listed" sPListed,
  dG "_law_mix" sMix,
  dG "_law_hand" sHand,
  dG "_law_draw" sDraw,
  dG "_law_pick" sPick,
  dG "_law_ways" sWays,
  dG "_law_sources" sSources,
  dG "_law_houses" sHouses,
  dG "_law_make_condition" sMakeCondition,
  dG "_law_free" sFree,
  dG "_law_take" sTake,
  dG "_law_condition_text" sConditionText,
  dG "_law_clause_text" sClauseText,
  dG "_law_thing" sThing,
  dG "_law_is_way" sIsWay,
  dG "_law_is_source" sIsSource,
  dG "_law_row" sRow,
  dG "_law_fault" sFault,
  dG "_law_told" sTold,
  dG "_law_parts" sParts,
  dG "_law_condition_right" sConditionRight,
  dG "_law_take_of" sTakeOf,
  dG "_law_free_of" sFreeOf,
  dG "_law_first" sFirst,
  dG "_law_take_right" sTakeRight,
  dG "_law_free_right" sFreeRight,
  dG "_law_equal" sEqual,
  dG "law" sLaw,
  ⟨("BadCondition", some "__init__"), "__init__", "BadCondition.__init__", defArgs (inClass (top 3) 0), defBody (inClass (top 3) 0), defScope (inClass (top 3) 0), [], []⟩,
  ⟨("BadClause", some "__init__"), "__init__", "BadClause.__init__", defArgs (inClass (top 4) 0), defBody (inClass (top 4) 0), defScope (inClass (top 4) 0), [], []⟩,
  ⟨("Number", some "__init__"), "__init__", "Number.__init__", defArgs (inClass (top 17) 0), defBody (inClass (top 17) 0), defScope (inClass (top 17) 0), [], []⟩,
  ⟨("Alive", some "__init__"), "__init__", "Alive.__init__", defArgs (inClass (top 18) 0), defBody (inClass (top 18) 0), defScope (inClass (top 18) 0), [], []⟩,
  ⟨("Dead", some "__init__"), "__init__", "Dead.__init__", defArgs (inClass (top 19) 0), defBody (inClass (top 19) 0), defScope (inClass (top 19) 0), [], []⟩,
  ⟨("Unlike", some "__init__"), "__init__", "Unlike.__init__", defArgs (inClass (top 22) 0), defBody (inClass (top 22) 0), defScope (inClass (top 22) 0), [], []⟩,
  ⟨("Take", some "__init__"), "__init__", "Take.__init__", defArgs (inClass (top 23) 1), defBody (inClass (top 23) 1), defScope (inClass (top 23) 1), [], []⟩,
  ⟨("Free", some "__init__"), "__init__", "Free.__init__", defArgs (inClass (top 24) 1), defBody (inClass (top 24) 1), defScope (inClass (top 24) 1), [], []⟩,
  ⟨("Number", some "__eq__"), "__eq__", "Number.__eq__", defArgs (inClass (top 17) 2), defBody (inClass (top 17) 2), defScope (inClass (top 17) 2), [], []⟩,
  ⟨("Alive", some "__eq__"), "__eq__", "Alive.__eq__", defArgs (inClass (top 18) 4), defBody (inClass (top 18) 4), defScope (inClass (top 18) 4), [], []⟩,
  ⟨("Dead", some "__eq__"), "__eq__", "Dead.__eq__", defArgs (inClass (top 19) 4), defBody (inClass (top 19) 4), defScope (inClass (top 19) 4), [], []⟩,
  ⟨("Unlike", some "__eq__"), "__eq__", "Unlike.__eq__", defArgs (inClass (top 22) 4), defBody (inClass (top 22) 4), defScope (inClass (top 22) 4), [], []⟩,
  ⟨("Unborne", some "__eq__"), "__eq__", "Unborne.__eq__", defArgs (inClass (top 20) 1), defBody (inClass (top 20) 1), defScope (inClass (top 20) 1), [], []⟩,
  ⟨("Never", some "__eq__"), "__eq__", "Never.__eq__", defArgs (inClass (top 21) 1), defBody (inClass (top 21) 1), defScope (inClass (top 21) 1), [], []⟩,
  ⟨("Take", some "__eq__"), "__eq__", "Take.__eq__", defArgs (inClass (top 23) 9), defBody (inClass (top 23) 9), defScope (inClass (top 23) 9), [], []⟩,
  ⟨("Free", some "__eq__"), "__eq__", "Free.__eq__", defArgs (inClass (top 24) 9), defBody (inClass (top 24) 9), defScope (inClass (top 24) 9), [], []⟩,
  ⟨("Number", some "__str__"), "__str__", "Number.__str__", defArgs (inClass (top 17) 3), defBody (inClass (top 17) 3), defScope (inClass (top 17) 3), [], []⟩,
  ⟨("Alive", some "__str__"), "__str__", "Alive.__str__", defArgs (inClass (top 18) 5), defBody (inClass (top 18) 5), defScope (inClass (top 18) 5), [], []⟩,
  ⟨("Dead", some "__str__"), "__str__", "Dead.__str__", defArgs (inClass (top 19) 5), defBody (inClass (top 19) 5), defScope (inClass (top 19) 5), [], []⟩,
  ⟨("Unlike", some "__str__"), "__str__", "Unlike.__str__", defArgs (inClass (top 22) 5), defBody (inClass (top 22) 5), defScope (inClass (top 22) 5), [], []⟩,
  ⟨("Unborne", some "__str__"), "__str__", "Unborne.__str__", defArgs (inClass (top 20) 2), defBody (inClass (top 20) 2), defScope (inClass (top 20) 2), [], []⟩,
  ⟨("Never", some "__str__"), "__str__", "Never.__str__", defArgs (inClass (top 21) 2), defBody (inClass (top 21) 2), defScope (inClass (top 21) 2), [], []⟩,
  ⟨("Take", some "__str__"), "__str__", "Take.__str__", defArgs (inClass (top 23) 10), defBody (inClass (top 23) 10), defScope (inClass (top 23) 10), [], []⟩,
  ⟨("Free", some "__str__"), "__str__", "Free.__str__", defArgs (inClass (top 24) 10), defBody (inClass (top 24) 10), defScope (inClass (top 24) 10), [], []⟩]
/-! ### the Hook -/
abbrev AlM : Type := Bool × List He.FnW × Option (List (Option (Str × Int)))
def obsM (K : PySem.W.Frag) : AlM := ((fa.all fun f => f.ok K) && (restB K && fn.all fun d => d.ok K), fn.map fun d => He.fnW K d.at_, He.dicW K (He.ga K "PARENT_KIND"))
def valM (w : World) : AlM := (true, fn.map He.DefD.val, some (He.keysIn w.params ["f", "m"]))
def SaysM (w : World) (K : PySem.W.Frag) : Prop := obsM K = valM w
end K08

namespace K08
open PySem PySem.Spec PyProof.Rows L2
def refs1 (o : Obj) : List Addr := match o.data with
  | .dict es _ => es.toList.flatMap fun e => He.refV e.val
  | .func fd => He.refV fd.code ++ He.refV fd.defaults
  | .cls cd => [cd.ns]
  | _ => []
def nxt (g : Addr → Option Obj) (as : List Addr) : List Addr := as.flatMap fun a => match g a with
  | some o => refs1 o
  | none => []
def asM (g : Addr → Option Obj) : List Addr := cStatics :: mainGlobals :: (nxt g [mainGlobals] ++ (nxt g (nxt g [mainGlobals]) ++ (nxt g (nxt g (nxt g [mainGlobals])) ++ nxt g (nxt g (nxt g (nxt g [mainGlobals]))))))
def obsMG (g : Addr → Option Obj) : AlM := obsM (He.frG g (asM g))
def hookM : PySem.W.Hook where
  α := AlM
  obs := fun s => obsMG s.heap.get?
  val := fun w => valM w
  says := fun w h => ∃ K : PySem.W.Frag, K.In h ∧ SaysM w K
  of := fun _ _ e => ⟨_, He.frG_in, e⟩
  keeps := fun _ _ _ ⟨K, hK, c⟩ k => ⟨K, PySem.W.Frag.In.keeps hK k, c⟩
abbrev R : PySem.W.OpenRow := PySem.W.OpenLaw.row PySem.Challenge.rw_namesakes_k08_clauses_made_and_refused
def ob (s : PySem.W.SharedT) : AlM := obsMG (HandSHeadRun.getT s)
theorem ob_eq (s : PySem.W.SharedT) : ob s = hookM.obs s.abs := by
  have e : HandSHeadRun.getT s = s.abs.heap.get? := funext (HandSHeadRun.getT_eq s)
  show obsMG (HandSHeadRun.getT s) = obsMG s.abs.heap.get?
  rw [e]
def looseL : List Str := [("_wall" : Str), ("CustomError" : Str), ("BadCondition" : Str), ("BadClause" : Str), ("PARENT_KIND" : Str), ("is_whole" : Str), ("is_way" : Str), ("MOST_CONDITIONS" : Str), ("SOURCES" : Str), ("BAR_WORDS" : Str), ("is_source" : Str), ("is_bar" : Str), ("listed" : Str), ("Condition" : Str), ("Number" : Str), ("Alive" : Str), ("Dead" : Str), ("Unlike" : Str), ("Unborne" : Str), ("Never" : Str), ("Take" : Str), ("Free" : Str), ("_law_mix" : Str), ("_law_hand" : Str), ("_law_draw" : Str), ("_law_pick" : Str), ("_law_ways" : Str), ("_law_sources" : Str), ("_law_houses" : Str), ("_law_make_condition" : Str), ("_law_free" : Str), ("_law_take" : Str), ("_law_make_clause" : Str), ("_law_condition_text" : Str), ("_law_clause_text" : Str), ("_law_rows" : Str), ("_law_thing" : Str), ("_law_is_way" : Str), ("_law_is_source" : Str), ("_law_row" : Str), ("_law_fault" : Str), ("_law_told" : Str), ("_law_parts" : Str), ("_law_condition_right" : Str), ("_law_take_of" : Str), ("_law_free_of" : Str), ("_law_first" : Str), ("_law_take_right" : Str), ("_law_free_right" : Str), ("_law_equal" : Str)]
theorem run (w : World) : HandSHeadRun.RunEq R (PySem.W.view R.prog [54]) hookM ob 20000 looseL w := by
  refine PySem.W.byRow2 "special-get-raises" (P := fun w => HandSHeadRun.RunEq R (PySem.W.view R.prog [54]) hookM ob 20000 looseL w) (fun w => ?_) (fun w => ?_) w
  · intro os
    kernel_rfl
  · intro os
    kernel_rfl
end K08

namespace K08
open PySem PySem.Spec PyProof.Rows L2
/-! ### the hand from which a script is drawn -/
/-- what the hand's list holds: the cells' list, how many are taken, the rest of a great cell, the running number -/
abbrev handO (l : Addr) (i r t : Int) : HO := .lst [.ref l, .int i, .int r, .int t]
structure HandOk (cells : List Int) (i r t : Int) : Prop where
  len : cells.length ≤ 63
  pos : ∀ c ∈ cells, 0 ≤ c
  i0 : 0 ≤ i
  i1 : i ≤ 63
  r0 : 0 ≤ r
  t0 : 0 ≤ t
  t1 : t < 2147483629
def HandAt (H : Hp) (p l : Addr) (cells : List Int) (i r t : Int) : Prop := H p = some (handO l i r t) ∧ H l = some (.lst (cells.map V.int)) ∧ HandOk cells i r t
/-! ### promises -/
def spMix : Sp := fun vs H Q _ => ∃ n k : Int, vs = [.int n, .int k] ∧ 0 ≤ n ∧ n < 2147483647 ∧ 0 ≤ k ∧ k ≤ 64 ∧ ∀ d : Int, 0 ≤ d → Q (.int d) H
def spDraw : Sp := fun vs H Q _ => ∃ (p l : Addr) (cells : List Int) (i r t m : Int), vs = [.ref p, .int m] ∧ HandAt H p l cells i r t ∧ 0 < m ∧ m.natAbs < 2 ^ 8000 ∧
  ∀ d i' r' t' : Int, 0 ≤ d → d < m → HandOk cells i' r' t' → Q (.int d) (upd H p (handO l i' r' t'))
section
variable {P : Program} {w : World} {K : PySem.W.Frag} {mg : Str → Option Value} {base : Heap}
theorem scMix : FnScope ["_law_number", "_law_turn", "_law_once", "_law_twice"] ["_law_number", "_law_turn"] (defScope sMix) := ⟨rfl, rfl, rfl, by decide +kernel, rfl, by decide +kernel, by decide +kernel⟩
theorem pp31 : (2147483647 : Int) < 2 ^ 64 := by decide
theorem ok_mix {f : Addr} {fd : FuncData} (F : FnP K "_law_mix" sMix f fd) (zi : mg "int" = none) : FnOk P w K mg base CX0 1 f fd ["_law_number", "_law_turn"] spMix := by
  refine F.ok scMix (fun vs H Q E h => ?_) (fun cdv A outer s H vs Q E hr h => ?_)
  · obtain ⟨n, k, rfl, _⟩ := h
    rfl
  · obtain ⟨n, k, rfl, n0, n1, k0, k1, q⟩ := h
    refine ⟨_, PSs.nox (pss_cons (ps_set (i := 2) scMix.nd rfl (.inl rfl)
        (pe_op op_mod (pe_callTy call_int1 (by rfl) zi (by decide +kernel) (pa_cons
          (pe_op op_add (pe_op op_add (pe_op op_mul (pv 0) pe_int) (pe_op op_mul (pv 1) pe_int)) pe_int) pa_nil)) pe_int))
      (pss_cons (ps_set (i := 3) scMix.nd rfl (.inl rfl)
        (pe_op op_mod (pe_callTy call_int1 (by rfl) zi (by decide +kernel) (pa_cons
          (pe_op op_add (pe_op op_add (pe_op op_mul (pv 2) (pv 2)) (pe_op op_mul (pe_op op_fdiv (pv 2) pe_int) pe_int)) (pe_op op_mul (pv 1) pe_int)) pa_nil)) pe_int))
      (pss_one (ps_ret (pe_op op_fdiv (pe_op op_mod (pe_callTy call_int1 (by rfl) zi (by decide +kernel) (pa_cons
          (pe_op op_add (pe_op op_fdiv (pe_op op_mul (pv 3) (pv 3)) pe_int) (pv 2)) pa_nil)) pe_int) pe_int))))), ?_⟩
    refine ⟨_, rfl, _, _, rfl, rfl, .inl ⟨by omega, by omega⟩, _, rfl, _, _, rfl, rfl, .inl ⟨by omega, by omega⟩, _, _, rfl, rfl, _, _, rfl, rfl, .inl ⟨_, rfl, _, _, rfl, rfl, (by show (0 : Int) < 2147483647; decide), ?_⟩⟩
    refine ⟨_, rfl, _, rfl, _, _, rfl, rfl, .inl ⟨by omega, by omega⟩, _, rfl, _, _, rfl, rfl, ⟨by decide, by decide⟩, _, _, rfl, rfl, .inr ⟨by decide, by decide⟩, _, _, rfl, rfl, _, rfl, _, _, rfl, rfl, .inl ⟨by omega, by omega⟩, _, _, rfl, rfl, .inl ⟨_, rfl, _, _, rfl, rfl, (by show (0 : Int) < 2147483399; decide), ?_⟩⟩
    refine ⟨_, rfl, _, rfl, _, _, rfl, rfl, .inl ⟨by omega, by omega⟩, _, _, rfl, rfl, ⟨by decide, by decide⟩, _, rfl, _, _, rfl, rfl, .inl ⟨_, rfl, _, _, rfl, rfl, (by show (0 : Int) < 2147483563; decide), _, _, rfl, rfl, ⟨by decide, by decide⟩, ?_⟩⟩
    refine q _ ?_
    omega
theorem scDraw : FnScope ["_law_hand_here", "_law_many", "_law_cell", "_law_rest"] ["_law_hand_here", "_law_many"] (defScope sDraw) := ⟨rfl, rfl, rfl, by decide +kernel, rfl, by decide +kernel, by decide +kernel⟩
theorem ok_draw {f fM : Addr} {fd fdM : FuncData} (F : FnP K "_law_draw" sDraw f fd) (zi : mg "int" = none) (zl : mg "len" = none) (FM : FnP K "_law_mix" sMix fM fdM) (gM : mg "_law_mix" = some (.ref fM)) : FnOk P w K mg base CX0 2 f fd ["_law_hand_here", "_law_many"] spDraw := by
  have GM : FnOk P w K mg base CX0 1 fM fdM ["_law_number", "_law_turn"] spMix := ok_mix FM zi
  have bM : Binds K fdM ["_law_number", "_law_turn"] [] := FM.bindsN fun _ _ _ _ _ _ us hl => match us, hl with | [_, _], _ => rfl
  refine F.ok scDraw (fun vs H Q E h => ?_) (fun cdv A outer s H vs Q E hr h => ?_)
  · obtain ⟨p, l, cells, i, r, t, m, rfl, _⟩ := h
    rfl
  · obtain ⟨p, l, cells, i, r, t, m, rfl, ⟨hp, hl, ok⟩, m0, m1, q⟩ := h
    refine ⟨_, PSs.nox (pss_cons (ps_if (PW.pt (pw_and (pt_cmpR op_eq (pe_ix ix_list (pv 0) pe_int (fun _ _ => rfl)) pe_int (nomark _)) (pw_and1 (pt_cmpR op_lt (pe_ix ix_list (pv 0) pe_int (fun _ _ => rfl)) (pe_callB call_len_seq (by rfl) zl boot_len (pa_cons (pe_ix ix_list (pv 0) pe_int (fun _ _ => rfl)) pa_nil)) (nomark _)))))
          (pss_cons (ps_set (i := 2) scDraw.nd rfl (.inl rfl) (pe_ix ix_list (pe_ix ix_list (pv 0) pe_int (fun _ _ => rfl)) (pe_ix ix_list (pv 0) pe_int (fun _ _ => rfl)) (fun _ _ => rfl)))
          (pss_cons (ps_asg (pe_op op_add (pe_ix ix_list (pv 0) pe_int (fun _ _ => rfl)) pe_int) (pg_sub (pv 0) pe_int set_list))
          (pss_cons (ps_if (pt_cmpR op_lt (pv 2) (pe_op op_pow pe_int pe_int) (nomark _))
            (pss_one (ps_ret (pe_op op_mod (pe_callTy call_int1 (by rfl) zi (by decide +kernel) (pa_cons (pe_call GM hr (by rfl) gM FM.kp bM .nil pass0 (pa_cons (pe_op op_mod (pe_callTy call_int1 (by rfl) zi (by decide +kernel) (pa_cons (pv 2) pa_nil)) pe_int) (pa_cons (pe_ix ix_list (pv 0) pe_int (fun _ _ => rfl)) pa_nil))) pa_nil)) (pv 1)))) pss_nil)
          (pss_one (ps_asg (pv 2) (pg_sub (pv 0) pe_int set_list)))))) pss_nil)
      (pss_cons (ps_if (pt_cmpR op_gt (pe_ix ix_list (pv 0) pe_int (fun _ _ => rfl)) pe_int (nomark _))
          (pss_cons (ps_set (i := 3) scDraw.nd rfl (.inl rfl) (pe_ix ix_list (pv 0) pe_int (fun _ _ => rfl)))
          (pss_cons (ps_asg (pe_op op_fdivW (pv 3) (pv 1)) (pg_sub (pv 0) pe_int set_list))
          (pss_one (ps_ret (pe_op op_mod (pe_callTy call_int1 (by rfl) zi (by decide +kernel) (pa_cons (pv 3) pa_nil)) (pv 1)))))) pss_nil)
      (pss_cons (ps_asg (pe_op op_mod (pe_callTy call_int1 (by rfl) zi (by decide +kernel) (pa_cons (pe_op op_add (pe_ix ix_list (pv 0) pe_int (fun _ _ => rfl)) pe_int) pa_nil)) pe_int) (pg_sub (pv 0) pe_int set_list))
      (pss_one (ps_ret (pe_op op_mod (pe_callTy call_int1 (by rfl) zi (by decide +kernel) (pa_cons (pe_call GM hr (by rfl) gM FM.kp bM .nil pass0 (pa_cons (pe_ix ix_list (pv 0) pe_int (fun _ _ => rfl)) (pa_cons (pe_ix ix_list (pv 0) pe_int (fun _ _ => rfl)) pa_nil))) pa_nil)) (pv 1))))))), ?_⟩
    refine ⟨_, rfl, _, _, _, _, rfl, rfl, SqL.of hp, rfl, rfl, _, rfl, ?_⟩
    have mlog : m.natAbs.log2 < 9000 := Nat.lt_of_lt_of_le (PySem.Flt.log2_lt_of (by decide) m1) (by decide)
    have fin : ∀ (d i' r' t' : Int) (H2 : Hp), 0 ≤ d → d < m → HandOk cells i' r' t' → H2 = upd H p (handO l i' r' t') → Q (.int d) H2 := fun d i' r' t' H2 d0 d1 o e => by
      subst e
      exact q d i' r' t' d0 d1 o
    have npl : l ≠ p := fun z => by
      rw [z, hp] at hl
      have h2 := Option.some.inj hl
      injection h2 with h3
      have h4 := congrArg List.head? h3
      cases cells with
      | nil => cases h4
      | cons c cs => cases h4
    refine ite2 (fun e => ?_) (fun e => ?_)
    · refine ⟨_, rfl, _, _, _, _, rfl, rfl, SqL.of hp, rfl, _, rfl, _, _, _, _, rfl, rfl, SqL.of hp, rfl, _, _, rfl, .inl (SqL.of hl), _, _, rfl, rfl, _, rfl, ?_⟩
      refine ite2 (fun e1 => ?_) (fun e1 => ?_)
      · have HP0 := hp
        have hi0 : 0 ≤ i := ok.i0
        have hlen : ((cells.map V.int).length : Int) = (cells.length : Int) := by rw [List.length_map]
        have hlt : i < (cells.length : Int) := by
          have z : i < ((cells.map V.int).length : Int) := of_decide_eq_true e1
          omega
        have hnat : i.toNat < cells.length := by omega
        have hget : atI (cells.map V.int) i = some (.int cells[i.toNat]) := by
          have z := atI_nat (xs := cells.map V.int) (j := i.toNat) (v := .int cells[i.toNat]) (by rw [List.getElem?_map, List.getElem?_eq_getElem hnat]; rfl)
          rw [Int.toNat_of_nonneg hi0] at z
          exact z
        have c0 : 0 ≤ cells[i.toNat] := ok.pos _ (List.getElem_mem hnat)
        have hl63 := ok.len
        refine ⟨_, rfl, _, _, _, _, rfl, rfl, SqL.of hp, rfl, _, rfl, _, _, _, _, rfl, rfl, SqL.of hp, rfl, _, _, _, _, rfl, rfl, SqL.of hl, hget, ?_⟩
        generalize cells[i.toNat] = c at c0
        refine ⟨_, rfl, _, _, _, _, rfl, rfl, SqL.of hp, rfl, _, _, rfl, rfl, _, rfl, _, _, _, _, rfl, rfl, hp, rfl, ?_⟩
        have ok2 : HandOk cells (i + 1) c t := ⟨ok.len, ok.pos, by omega, by omega, c0, ok.t0, ok.t1⟩
        refine ⟨_, rfl, _, _, rfl, rfl, ⟨by decide, by decide, by decide⟩, _, _, rfl, rfl, _, rfl, ?_⟩
        refine ite2 (fun e2 => ?_) (fun e2 => ?_)
        · refine ⟨_, rfl, .inl ⟨_, rfl, _, _, rfl, rfl, (by show (0 : Int) < 2147483647; decide), _, rfl, _, _, _, _, rfl, rfl, SqL.of upd_same, rfl, _, _, rfl, Int.emod_nonneg _ (by decide), Int.emod_lt_of_pos _ (by decide), by omega, by omega, fun d d0 => ?_⟩⟩
          refine .inl ⟨_, rfl, _, rfl, _, _, rfl, rfl, m0, ?_⟩
          exact fin _ _ _ _ _ (Int.emod_nonneg _ (Int.ne_of_gt m0)) (Int.emod_lt_of_pos _ m0) ⟨ok.len, ok.pos, ok2.i0, ok2.i1, ok.r0, ok.t0, ok.t1⟩ (by simp only [upd_upd]; rfl)
        · refine ⟨_, rfl, _, rfl, _, _, _, _, rfl, rfl, upd_same, rfl, ?_⟩
          have HP : (upd (upd H p (.lst ([V.ref l, .int i, .int r, .int t].set 1 (.int (i + 1))))) p (.lst (([V.ref l, .int i, .int r, .int t].set 1 (.int (i + 1))).set 2 (.int c)))) p = some (handO l (i + 1) c t) := upd_same
          refine ⟨_, rfl, _, _, _, _, rfl, rfl, SqL.of HP, rfl, _, _, rfl, rfl, _, rfl, ?_⟩
          refine ite2 (fun e3 => ?_) (fun e3 => ?_)
          · refine ⟨_, rfl, _, _, _, _, rfl, rfl, SqL.of HP, rfl, ?_⟩
            refine ⟨_, rfl, _, rfl, _, _, rfl, rfl, ⟨m0, mlog⟩, _, rfl, _, _, _, _, rfl, rfl, HP, rfl, ?_⟩
            refine ⟨_, rfl, .inl ⟨_, rfl, _, rfl, _, _, rfl, rfl, m0, ?_⟩⟩
            exact fin _ _ _ _ _ (Int.emod_nonneg _ (Int.ne_of_gt m0)) (Int.emod_lt_of_pos _ m0) ⟨ok2.len, ok2.pos, ok2.i0, ok2.i1, Int.ediv_nonneg ok2.r0 (Int.le_of_lt m0), ok2.t0, ok2.t1⟩ (by simp only [upd_upd]; rfl)
          · refine ⟨_, rfl, _, _, _, _, rfl, rfl, SqL.of HP, rfl, _, _, rfl, rfl, .inl ⟨_, rfl, _, _, rfl, rfl, (by show (0 : Int) < 2147483629; decide), _, rfl, _, _, _, _, rfl, rfl, HP, rfl, ?_⟩⟩
            have u0 := ok2.i0
            have u1 := ok2.i1
            refine ⟨_, rfl, _, _, _, _, rfl, rfl, SqL.of upd_same, rfl, _, rfl, _, _, _, _, rfl, rfl, SqL.of upd_same, rfl, _, _, rfl, by omega, by omega, by omega, by omega, fun d d0 => ?_⟩
            refine .inl ⟨_, rfl, _, rfl, _, _, rfl, rfl, m0, ?_⟩
            exact fin _ _ _ _ _ (Int.emod_nonneg _ (Int.ne_of_gt m0)) (Int.emod_lt_of_pos _ m0) ⟨ok2.len, ok2.pos, ok2.i0, ok2.i1, ok2.r0, Int.emod_nonneg (t + 1) (show (2147483629 : Int) ≠ 0 by decide), Int.emod_lt_of_pos (t + 1) (show (0 : Int) < 2147483629 by decide)⟩ (by simp only [upd_upd]; rfl)
      · have HP := hp
        refine ⟨_, rfl, _, _, _, _, rfl, rfl, SqL.of HP, rfl, _, _, rfl, rfl, _, rfl, ?_⟩
        refine ite2 (fun e2 => ?_) (fun e2 => ?_)
        · refine ⟨_, rfl, _, _, _, _, rfl, rfl, SqL.of HP, rfl, ?_⟩
          refine ⟨_, rfl, _, rfl, _, _, rfl, rfl, ⟨m0, mlog⟩, _, rfl, _, _, _, _, rfl, rfl, HP, rfl, ?_⟩
          refine ⟨_, rfl, .inl ⟨_, rfl, _, rfl, _, _, rfl, rfl, m0, ?_⟩⟩
          exact fin _ _ _ _ _ (Int.emod_nonneg _ (Int.ne_of_gt m0)) (Int.emod_lt_of_pos _ m0) ⟨ok.len, ok.pos, ok.i0, ok.i1, Int.ediv_nonneg ok.r0 (Int.le_of_lt m0), ok.t0, ok.t1⟩ (by simp only [upd_upd]; rfl)
        · refine ⟨_, rfl, _, _, _, _, rfl, rfl, SqL.of HP, rfl, _, _, rfl, rfl, .inl ⟨_, rfl, _, _, rfl, rfl, (by show (0 : Int) < 2147483629; decide), _, rfl, _, _, _, _, rfl, rfl, HP, rfl, ?_⟩⟩
          have u0 := ok.i0
          have u1 := ok.i1
          refine ⟨_, rfl, _, _, _, _, rfl, rfl, SqL.of upd_same, rfl, _, rfl, _, _, _, _, rfl, rfl, SqL.of upd_same, rfl, _, _, rfl, by omega, by omega, by omega, by omega, fun d d0 => ?_⟩
          refine .inl ⟨_, rfl, _, rfl, _, _, rfl, rfl, m0, ?_⟩
          exact fin _ _ _ _ _ (Int.emod_nonneg _ (Int.ne_of_gt m0)) (Int.emod_lt_of_pos _ m0) ⟨ok.len, ok.pos, ok.i0, ok.i1, ok.r0, Int.emod_nonneg (t + 1) (show (2147483629 : Int) ≠ 0 by decide), Int.emod_lt_of_pos (t + 1) (show (0 : Int) < 2147483629 by decide)⟩ (by simp only [upd_upd]; rfl)
    · have HP := hp
      refine ⟨_, rfl, _, _, _, _, rfl, rfl, SqL.of HP, rfl, _, _, rfl, rfl, _, rfl, ?_⟩
      refine ite2 (fun e2 => ?_) (fun e2 => ?_)
      · refine ⟨_, rfl, _, _, _, _, rfl, rfl, SqL.of HP, rfl, ?_⟩
        refine ⟨_, rfl, _, rfl, _, _, rfl, rfl, ⟨m0, mlog⟩, _, rfl, _, _, _, _, rfl, rfl, HP, rfl, ?_⟩
        refine ⟨_, rfl, .inl ⟨_, rfl, _, rfl, _, _, rfl, rfl, m0, ?_⟩⟩
        exact fin _ _ _ _ _ (Int.emod_nonneg _ (Int.ne_of_gt m0)) (Int.emod_lt_of_pos _ m0) ⟨ok.len, ok.pos, ok.i0, ok.i1, Int.ediv_nonneg ok.r0 (Int.le_of_lt m0), ok.t0, ok.t1⟩ (by simp only [upd_upd]; rfl)
      · refine ⟨_, rfl, _, _, _, _, rfl, rfl, SqL.of HP, rfl, _, _, rfl, rfl, .inl ⟨_, rfl, _, _, rfl, rfl, (by show (0 : Int) < 2147483629; decide), _, rfl, _, _, _, _, rfl, rfl, HP, rfl, ?_⟩⟩
        have u0 := ok.i0
        have u1 := ok.i1
        refine ⟨_, rfl, _, _, _, _, rfl, rfl, SqL.of upd_same, rfl, _, rfl, _, _, _, _, rfl, rfl, SqL.of upd_same, rfl, _, _, rfl, by omega, by omega, by omega, by omega, fun d d0 => ?_⟩
        refine .inl ⟨_, rfl, _, rfl, _, _, rfl, rfl, m0, ?_⟩
        exact fin _ _ _ _ _ (Int.emod_nonneg _ (Int.ne_of_gt m0)) (Int.emod_lt_of_pos _ m0) ⟨ok.len, ok.pos, ok.i0, ok.i1, ok.r0, Int.emod_nonneg (t + 1) (show (2147483629 : Int) ≠ 0 by decide), Int.emod_lt_of_pos (t + 1) (show (0 : Int) < 2147483629 by decide)⟩ (by simp only [upd_upd]; rfl)
/-! ### the hand is made -/
def absI (c : Int) : Int := if c < 0 then -c else c
theorem absI_nonneg (c : Int) : 0 ≤ absI c := by
  unfold absI
  split <;> omega
theorem same_upd {H : Hp} {p : Addr} {o : HO} (h : H p = none) : Same H (upd H p o) := fun b x e => by
  rw [upd_ne (ne_of_none e h)]
  exact e
def spHand (K : PySem.W.Frag) : Sp := fun vs H Q _ => ∃ (a : Addr) (ns : List Int), vs = [.ref a] ∧ SqL K H a (ns.map V.int) ∧ ns.length ≤ 63 ∧
  ∀ (H' : Hp) (p l : Addr) (t : Int), Same H H' → H p = none → HandAt H' p l (ns.map absI) 0 0 t → Q (.ref p) H'
theorem scHand : FnScope ["_law_script", "_law_total", "_law_k", "_law_cell"] ["_law_script"] (defScope sHand) := ⟨rfl, rfl, rfl, by decide +kernel, rfl, by decide +kernel, by decide +kernel⟩
theorem ok_hand {f : Addr} {fd : FuncData} (F : FnP K "_law_hand" sHand f fd) (zi : mg "int" = none) (za : mg "abs" = none) (ze : mg "enumerate" = none) : FnOk P w K mg base CX0 1 f fd ["_law_script"] (spHand K) := by
  refine F.ok scHand (fun vs H Q E h => ?_) (fun cdv A outer s H vs Q E hr h => ?_)
  · obtain ⟨a, ns, rfl, _⟩ := h
    rfl
  · obtain ⟨a, ns, rfl, hS, hlen, q⟩ := h
    refine ⟨_, PSs.nox (pss_cons (ps_set (i := 1) scHand.nd rfl (.inl rfl) pe_int)
      (pss_cons (ps_for PassesOwn.never rfl (pi_enum (by rfl) ze (pa_cons (pv 0) pa_nil))
          (pg_tup (by rfl) (pgs_cons (pg_name (i := 2) scHand.nd rfl (.inl rfl)) (pgs_cons (pg_name (i := 3) scHand.nd rfl (.inl rfl)) pgs_nil)))
        (pss_one (ps_set (i := 1) scHand.nd rfl (.inl rfl) (pe_op op_mod (pe_callTy call_int1 (by rfl) zi (by decide +kernel) (pa_cons
          (pe_op op_add (pe_op op_mul (pv 1) pe_int) (pe_op op_mul (pe_callTy call_int1 (by rfl) zi (by decide +kernel) (pa_cons (pv 3) pa_nil)) (pe_op op_add (pv 2) pe_int))) pa_nil)) pe_int))))
      (pss_one (ps_ret (pe_lst (pa_cons
        (pe_lc (own := [("_law_cell", 3)]) (g := gName 3) (tt := tYes) rfl scHand.nd (pi_list (pv 0)) (blkOk_by (N := ["_law_script", "_law_total", "_law_k", "_law_cell"]) (sc := defScope sHand) (by decide +kernel)) (fun _ _ _ _ _ => pg_name (i := 3) scHand.nd rfl (Or.inl rfl)) (fun _ _ _ _ _ => pts_nil)
          (fun _ _ _ _ _ => pe_callB call_abs (by rfl) za (by decide +kernel) (pa_cons (pe_callTy call_int1 (by rfl) zi (by decide +kernel) (pa_cons (pv 3) pa_nil)) pa_nil)))
        (pa_cons pe_int (pa_cons pe_int (pa_cons (pv 1) pa_nil))))))))), ?_⟩
    refine ⟨_, rfl, a, _, rfl, hS, for_it walk_enum (fun _ σ H' => ∃ (t : Int) (x y : Option V), σ = [some (.ref a), some (.int t), x, y] ∧ 0 ≤ t ∧ t < 2147483629 ∧ Same H H') ⟨0, none, none, rfl, by decide, by decide, fun _ _ e => e⟩
      (fun i σ H' _ ⟨_, _, _, _, _, _, sm⟩ => sm.seq hS) ?_ ?_⟩
    · rintro i x σ H1 H2 hi ⟨t, x1, x2, rfl, t0, t1, sm⟩ ⟨T, u, v, rfl, nT, rfl, eu, ev⟩
      have hi' : i < ns.length := by
        rw [List.length_map] at hi
        exact hi
      obtain rfl : u = .int (i : Int) := (Option.some.inj eu).symm
      obtain rfl : v = .int ns[i] := by
        have e2 : (ns.map V.int)[i]? = some (.int ns[i]) := by rw [List.getElem?_map, List.getElem?_eq_getElem hi']; rfl
        exact Option.some.inj (ev.symm.trans e2)
      refine ⟨T, _, rfl, .inl (.inl upd_same), rfl, _, _, rfl, _, _, rfl, rfl, ?_⟩
      refine ⟨_, rfl, _, _, rfl, rfl, .inl ⟨by omega, by omega⟩, _, rfl, .inl ⟨_, rfl, _, rfl, _, _, rfl, rfl, _, _, rfl, rfl, .inr ⟨by omega, by omega⟩, _, _, rfl, rfl, .inl ⟨_, rfl, _, _, rfl, rfl, (by show (0 : Int) < 2147483629; decide), ?_⟩⟩⟩
      exact ⟨_, _, _, rfl, Int.emod_nonneg _ (by decide), Int.emod_lt_of_pos _ (by decide), fun b o e => same_upd nT _ _ (sm _ _ e)⟩
    · rintro σ H1 ⟨t, x1, x2, rfl, t0, t1, sm⟩
      refine ⟨_, rfl, a, rfl, ⟨_, sm.seq hS⟩, fun D nD => lc_it walk_list (fun i H' => Same H1 H' ∧ H' D = some (.lst (((ns.map absI).take i).map V.int))) ⟨same_upd nD, upd_same⟩
        (fun i H' _ ⟨s2, _⟩ => s2.seq (sm.seq hS)) ?_ ?_⟩
      · rintro i x H2 H3 hi ⟨s2, eD⟩ ⟨rfl, ex⟩
        have hi' : i < ns.length := by
          rw [List.length_map] at hi
          exact hi
        obtain rfl : x = .int ns[i] := by
          have e2 : (ns.map V.int)[i]? = some (.int ns[i]) := by rw [List.getElem?_map, List.getElem?_eq_getElem hi']; rfl
          exact Option.some.inj (ex.symm.trans e2)
        refine ⟨rfl, ?_⟩
        refine ⟨_, rfl, .inl ⟨_, rfl, _, rfl, _, eD, ?_, ?_⟩⟩
        · rw [List.length_map, List.length_take]
          exact Nat.lt_of_le_of_lt (Nat.min_le_left _ _) (Nat.lt_of_lt_of_le (Nat.lt_of_lt_of_le hi' hlen) (by decide))
        · refine ⟨fun b o e => ?_, ?_⟩
          · have nb : b ≠ D := ne_of_none e nD
            rw [upd_ne nb]
            exact s2 _ _ e
          · rw [upd_same, List.take_add_one, List.getElem?_map, List.getElem?_eq_getElem hi', List.map_append]
            rfl
      · rintro H2 ⟨s2, eD⟩
        have eall : ((ns.map absI).take (ns.map V.int).length) = ns.map absI := List.take_of_length_le (by rw [List.length_map, List.length_map]; exact Nat.le_refl _)
        rw [eall] at eD
        refine ⟨_, rfl, (by show 4 ≤ sizeLine; decide), fun p np => ?_⟩
        have npD : D ≠ p := ne_of_none eD np
        refine q _ p D t (fun b o e => same_upd np _ _ (s2 _ _ (sm _ _ e))) ?_ ⟨upd_same, ?_, ?_⟩
        · cases e : H p with
          | none => rfl
          | some o =>
            have e2 := s2 _ _ (sm _ _ e)
            rw [np] at e2
            cases e2
        · rw [upd_ne npD]
          exact eD
        · exact ⟨by rw [List.length_map]; exact hlen, fun c hc => by
            obtain ⟨y, _, rfl⟩ := List.mem_map.mp hc
            exact absI_nonneg y, by decide, by decide, by decide, t0, t1⟩
end
end K08

/-! the questions: a whole number, a way, a source, a bar -/
namespace K08
open PySem PySem.Spec PyProof.Rows L2
/-- any thing that the law draws: its type's name -/
inductive Odd (H : Hp) : V → String → Prop where
  | int (i : Int) : Odd H (.int i) "int"
  | bl (b : Bool) : Odd H (.bl b) "bool"
  | non : Odd H .non "NoneType"
  | str (x : Str) (hx : x.length ≤ 1000) (hs : (PyData.str x).canLay0 = true) : Odd H (.str x) "str"
  | tup {a : Addr} {xs : List V} (h : H a = some (.tup xs)) : Odd H (.ref a) "tuple"
  | lst {a : Addr} {xs : List V} (h : H a = some (.lst xs)) : Odd H (.ref a) "list"
  | dic {a : Addr} {kvs : List (Key × V)} (h : H a = some (.dK kvs)) : Odd H (.ref a) "dict"
theorem Odd.ty {K : PySem.W.Frag} {H : Hp} {v : V} {t : String} (o : Odd H v t) : TyX K H v (.type t) := by
  cases o with
  | int i => exact .base (.int i)
  | bl b => exact .base (.bl b)
  | non => exact .base .non
  | str x _ _ => exact .base (.str x)
  | tup h => exact .base (.tup h)
  | lst h => exact .base (.lst h)
  | dic h => exact .base (.dK h)
def wholeV (v : V) (lo hi : Int) : Bool := match v with
  | .int i => decide (lo ≤ i) && decide (i ≤ hi)
  | _ => false
def spWhole : Sp := fun vs H Q _ => ∃ (v : V) (t : String) (lo hi : Int), vs = [v, .int lo, .int hi] ∧ Odd H v t ∧ Q (.bl (wholeV v lo hi)) H
section
variable {P : Program} {w : World} {K : PySem.W.Frag} {mg : Str → Option Value} {base : Heap}
theorem scWhole : FnScope ["thing", "low", "high"] ["thing", "low", "high"] (defScope sPIsWhole) := ⟨rfl, rfl, rfl, by decide +kernel, rfl, by decide +kernel, by decide +kernel⟩
theorem ok_whole {f : Addr} {fd : FuncData} (F : FnP K "is_whole" sPIsWhole f fd) (zi : mg "int" = none) (zb : mg "bool" = none) (zs : mg "isinstance" = none) : FnOk P w K mg base CX0 1 f fd ["thing", "low", "high"] spWhole := by
  refine F.ok scWhole (fun vs H Q E h => ?_) (fun cdv A outer s H vs Q E hr h => ?_)
  · obtain ⟨v, t, lo, hi, rfl, _⟩ := h
    rfl
  · obtain ⟨v, t, lo, hi, rfl, o, q⟩ := h
    refine ⟨_, PSs.nox (pss_one (ps_ret (pe_and (pe_callB call_isi (by rfl) zs (by decide +kernel) (pa_cons (pv 0) (pa_cons (pe_bltn (by rfl) zi (by decide +kernel) (v := .ty "int") rfl) pa_nil)))
      (pe_and (pe_not (pe_callB call_isi (by rfl) zs (by decide +kernel) (pa_cons (pv 0) (pa_cons (pe_bltn (by rfl) zb (by decide +kernel) (v := .ty "bool") rfl) pa_nil)))) (pe_one (pe_chain op_le op_le (pv 1) (pv 0) (pv 2))))))), ?_⟩
    have ty := o.ty (K := K)
    cases o with
    | int i =>
      refine ⟨_, rfl, _, _, _, _, true, rfl, .ty _, ty, kit_ty (by decide +kernel), _, rfl, iteT ⟨_, rfl, _, _, _, _, false, rfl, .ty _, ty, kit_ty (by decide +kernel), _, rfl, _, rfl, iteT ⟨_, rfl, _, rfl, _, _, rfl, rfl, _, rfl, ?_⟩⟩⟩
      have e : wholeV (.int i) lo hi = (decide (lo ≤ i) && decide (i ≤ hi)) := rfl
      rw [e] at q
      refine ite2 (fun h => ?_) (fun h => ?_)
      · rw [h, Bool.true_and] at q
        exact ⟨_, rfl, _, _, rfl, rfl, q⟩
      · rw [Bool.eq_false_iff.mpr h, Bool.false_and] at q
        exact q
    | bl b => exact ⟨_, rfl, _, _, _, _, true, rfl, .ty _, ty, kit_ty (by decide +kernel), _, rfl, iteT ⟨_, rfl, _, _, _, _, true, rfl, .ty _, ty, kit_ty (by decide +kernel), _, rfl, _, rfl, iteF q⟩⟩
    | _ => exact ⟨_, rfl, _, _, _, _, false, rfl, .ty _, ty, kit_ty (by decide +kernel), _, rfl, iteF q⟩
theorem Odd.same {H H' : Hp} {v : V} {t : String} (o : Odd H v t) (s : Same H H') : Odd H' v t := by
  cases o with
  | int i => exact .int i
  | bl b => exact .bl b
  | non => exact .non
  | str x hx hs => exact .str x hx hs
  | tup h => exact .tup (s _ _ h)
  | lst h => exact .lst (s _ _ h)
  | dic h => exact .dic (s _ _ h)
theorem not_t {b : Bool} (h : (!b) = true) : b = false := by
  cases b with
  | false => rfl
  | true => cases h
theorem not_f {b : Bool} (h : ¬ (!b) = true) : b = true := by
  cases b with
  | true => rfl
  | false => exact absurd rfl h
def fmC (c : Nat) : Bool := decide (c = 102 ∨ c = 109)
def wayV (v : V) (lo hi : Int) : Bool := match v with
  | .str x => (decide (lo ≤ x.length) && decide ((x.length : Int) ≤ hi)) && x.cps.toList.all fmC
  | _ => false
def rKd (K : PySem.W.Frag) (d : Addr) : R2 := fun x y H Q => ∃ (z : Str) (r : Option Value), x = .str z ∧ y = .ref d ∧ PySem.W.nsIn K d z = some r ∧ Q (.bl r.isSome) H
def spWay : Sp := fun vs H Q _ => ∃ (v : V) (t : String) (lo hi : Int), vs = [v, .int lo, .int hi] ∧ Odd H v t ∧ ∀ H', Same H H' → Q (.bl (wayV v lo hi)) H'
theorem scWay : FnScope ["thing", "least", "most", "letter"] ["thing", "least", "most"] (defScope sPIsWay) := ⟨rfl, rfl, rfl, by decide +kernel, rfl, by decide +kernel, by decide +kernel⟩
theorem ok_way {f d : Addr} {es : Array DictEntry} {n : Nat} {fd : FuncData} (F : FnP K "is_way" sPIsWay f fd) (zt : mg "str" = none) (zs : mg "isinstance" = none) (zl : mg "len" = none) (za : mg "all" = none) (gP : mg "PARENT_KIND" = some (.ref d)) (D : KDict K w d es n)
    (hK : ∀ c : Nat, ∃ r, PySem.W.nsIn K d ⟨#[c]⟩ = some r ∧ r.isSome = fmC c) : FnOk P w K mg base CX0 1 f fd ["thing", "least", "most"] spWay := by
  refine F.ok scWay (fun vs H Q E h => ?_) (fun cdv A outer s H vs Q E hr h => ?_)
  · obtain ⟨v, t, lo, hi, rfl, _⟩ := h
    rfl
  · obtain ⟨v, t, lo, hi, rfl, o, q⟩ := h
    refine ⟨_, PSs.nox (pss_cons (ps_if (PW.pt (pw_or (pt_not (pt_val (pe_callB call_isi (by rfl) zs (by decide +kernel) (pa_cons (pv 0) (pa_cons (pe_bltn (by rfl) zt (by decide +kernel) (v := .ty "str") rfl) pa_nil)))))
        (pw_or1 (pt_not (pt_chain op_le op_le (pv 1) (pe_callB call_len_str (by rfl) zl boot_len (pa_cons (pv 0) pa_nil)) (pv 2)))))) (pss_one (ps_ret pe_bl)) pss_nil)
      (pss_one (ps_ret (pe_callB (cr_all rfl) (by rfl) za (by decide +kernel) (pa_cons (pe_lc (own := [("letter", 3)]) (g := gName 3) (tt := tYes) rfl scWay.nd (pi_str (pv 0)) (blkOk_by (N := ["thing", "least", "most", "letter"]) (sc := defScope sPIsWay) (by decide +kernel))
          (fun _ _ _ _ _ => pg_name (i := 3) scWay.nd rfl (Or.inl rfl)) (fun _ _ _ _ _ => pts_nil) (fun _ _ _ _ _ => pe_cmpR (r := rKd K d) (op_in_kd D) (pv 3) (pe_glob (by rfl) gP (v := .ref d) rfl) (by rfl))) pa_nil))))), ?_⟩
    have ty := o.ty (K := K)
    cases o with
    | str x hx hs =>
      have e : wayV (.str x) lo hi = ((decide (lo ≤ x.length) && decide ((x.length : Int) ≤ hi)) && x.cps.toList.all fmC) := rfl
      rw [e] at q
      refine ⟨_, rfl, _, _, _, _, true, rfl, .ty _, ty, kit_ty (by decide +kernel), _, rfl, iteF ?_⟩
      refine ⟨_, rfl, _, rfl, _, rfl, Nat.le_trans hx (by decide), _, _, rfl, rfl, _, rfl, ?_⟩
      refine ite2 (fun h1 => ?_) (fun h1 => ?_)
      · rw [h1, Bool.true_and] at q
        refine ⟨_, rfl, _, _, rfl, rfl, _, rfl, ?_⟩
        refine ite2 (fun h2 => ?_) (fun h2 => ?_)
        · rw [not_t h2, Bool.false_and] at q
          exact q H (Same.refl H)
        · rw [not_f h2, Bool.true_and] at q
          refine ⟨_, rfl, x, rfl, fun D nD => lc_it walk_str (fun i H' => Same H H' ∧ H' D = some (.lst (((x.cps.toList.take i).map fmC).map V.bl))) ⟨same_upd nD, upd_same⟩ (fun _ _ _ _ => trivial) ?_ ?_⟩
          · rintro i y H2 H3 hi' ⟨s2, eD⟩ ⟨rfl, c, hc, rfl⟩
            have hc' : x.cps.toList[i]? = some c := by
              rw [Array.getElem?_toList]
              exact hc
            obtain ⟨r, hr1, hr2⟩ := hK c
            refine ⟨rfl, ?_⟩
            refine ⟨_, rfl, _, r, rfl, rfl, hr1, ?_⟩
            refine ⟨_, eD, ?_, fun b' o' e' => ?_, ?_⟩
            · rw [List.length_map, List.length_map, List.length_take]
              exact Nat.lt_of_le_of_lt (Nat.min_le_left _ _) (Nat.lt_of_lt_of_le hi' (Nat.le_trans hx (by decide)))
            · rw [upd_ne (ne_of_none e' nD)]
              exact s2 _ _ e'
            · rw [upd_same, List.take_add_one, hc', List.map_append, List.map_append, hr2]
              rfl
          · rintro H2 ⟨s2, eD⟩
            have eall : x.cps.toList.take x.cps.size = x.cps.toList := List.take_of_length_le (by rw [Array.length_toList]; exact Nat.le_refl _)
            rw [eall] at eD
            refine ⟨D, _, rfl, SqL.of eD, ?_⟩
            rw [show ((x.cps.toList.map fmC).all id) = x.cps.toList.all fmC by rw [List.all_map]; rfl]
            exact q H2 s2
      · rw [Bool.eq_false_iff.mpr h1, Bool.false_and, Bool.false_and] at q
        exact ⟨_, rfl, iteT (q H (Same.refl H))⟩
    | _ => exact ⟨_, rfl, _, _, _, _, false, rfl, .ty _, ty, kit_ty (by decide +kernel), _, rfl, iteT (q H (Same.refl H))⟩
end
end K08

set_option maxHeartbeats 1000000
/-! sources, bars -/
namespace K08
open PySem PySem.Spec PyProof.Rows L2
structure Df (P : Program) (w : World) (K : PySem.W.Frag) (mg : Str → Option Value) (base : Heap) (x : Str) (k : Nat) (ps : List Str) (sp : Sp) (f : Addr) (fd : FuncData) : Prop where
  gl : mg x = some (.ref f)
  ok : FnOk P w K mg base CX0 k f fd ps sp
  bi : Binds K fd ps []
  kp : PySem.W.keepIn K (.ref f) = true
def srcs : List Str := ["f", "m", "ff", "fm", "mf", "mm", "fff", "ffm", "fmf", "fmm", "mff", "mfm", "mmf", "mmm", "f.0", "f.1", "m.0", "m.1"]
def srcV (v : V) : Bool := match v with
  | .str x => inV (.str x) (srcs.map V.str)
  | _ => false
def wordsB : List Str := ["living", "ever"]
def barV (v : V) : Bool := match v with
  | .str x => inV (.str x) (srcs.map V.str) || inV (.str x) (wordsB.map V.str)
  | _ => false
def spSrc (g : V → Bool) : Sp := fun vs H Q _ => ∃ (v : V) (t : String), vs = [v] ∧ Odd H v t ∧ Q (.bl (g v)) H
theorem flat_strs (l : List Str) : (l.map V.str).all flatV = true := by
  rw [List.all_eq_true]
  intro v hv
  obtain ⟨x, _, rfl⟩ := List.mem_map.mp hv
  rfl
section
variable {P : Program} {w : World} {K : PySem.W.Frag} {mg : Str → Option Value} {base : Heap}
theorem ok_src {f a : Addr} {fd : FuncData} (F : FnP K "is_source" sPIsSource f fd) (z_str : mg "str" = none) (z_isinstance : mg "isinstance" = none) (gK : mg "SOURCES" = some (.ref a)) (hK : ∀ H, SqT K H a (srcs.map V.str)) : FnOk P w K mg base CX0 1 f fd ["thing"] (spSrc srcV) := by
  have sc : FnScope ["thing"] ["thing"] (defScope sPIsSource) := ⟨rfl, rfl, rfl, by decide +kernel, rfl, by decide +kernel, by decide +kernel⟩
  refine F.ok sc (fun vs H Q E h => ?_) (fun cdv A outer s H vs Q E hr h => ?_)
  · obtain ⟨v, t, rfl, _⟩ := h
    rfl
  · obtain ⟨v, t, rfl, o, q⟩ := h
    refine ⟨_, PSs.nox (pss_one (ps_ret (pe_and (pe_callB call_isi (by rfl) z_isinstance (by decide +kernel) (pa_cons (pv 0) (pa_cons (pe_bltn (by rfl) z_str (by decide +kernel) (v := .ty "str") rfl) pa_nil)))
      (pe_one (pe_cmpR op_in_seq (pv 0) (pe_glob (by rfl) gK (v := .ref a) rfl) (by rfl)))))), ?_⟩
    have ty := o.ty (K := K)
    cases o with
    | str x hx hs => exact ⟨_, rfl, _, _, _, _, true, rfl, .ty _, ty, kit_ty (by decide +kernel), _, rfl, iteT ⟨_, rfl, _, _, rfl, .inr (hK H), rfl, flat_strs _, q⟩⟩
    | _ => exact ⟨_, rfl, _, _, _, _, false, rfl, .ty _, ty, kit_ty (by decide +kernel), _, rfl, iteF q⟩
theorem ok_bar {f a fS : Addr} {fd fdS : FuncData} (F : FnP K "is_bar" sPIsBar f fd) (z_str : mg "str" = none) (z_isinstance : mg "isinstance" = none) (gK : mg "BAR_WORDS" = some (.ref a)) (hK : ∀ H, SqT K H a (wordsB.map V.str)) (dS : Df P w K mg base "is_source" 1 ["thing"] (spSrc srcV) fS fdS) : FnOk P w K mg base CX0 2 f fd ["thing"] (spSrc barV) := by
  have sc : FnScope ["thing"] ["thing"] (defScope sPIsBar) := ⟨rfl, rfl, rfl, by decide +kernel, rfl, by decide +kernel, by decide +kernel⟩
  refine F.ok sc (fun vs H Q E h => ?_) (fun cdv A outer s H vs Q E hr1 h => ?_)
  · obtain ⟨v, t, rfl, _⟩ := h
    rfl
  · obtain ⟨v, t, rfl, o, q⟩ := h
    refine ⟨_, PSs.nox (pss_one (ps_ret (pe_or (pe_call dS.ok hr1 (by rfl) dS.gl dS.kp dS.bi .nil pass0 (pa_cons (pv 0) pa_nil)) (pe_one (pe_and (pe_callB call_isi (by rfl) z_isinstance (by decide +kernel) (pa_cons (pv 0) (pa_cons (pe_bltn (by rfl) z_str (by decide +kernel) (v := .ty "str") rfl) pa_nil)))
      (pe_one (pe_cmpR op_in_seq (pv 0) (pe_glob (by rfl) gK (v := .ref a) rfl) (by rfl)))))))), ?_⟩
    have ty := o.ty (K := K)
    refine ⟨_, rfl, v, t, rfl, o, _, rfl, ?_⟩
    cases o with
    | str x hx hs =>
      have e : barV (.str x) = (inV (.str x) (srcs.map V.str) || inV (.str x) (wordsB.map V.str)) := rfl
      have e2 : srcV (.str x) = inV (.str x) (srcs.map V.str) := rfl
      rw [e] at q
      rw [e2]
      refine ite2 (fun h => ?_) (fun h => ?_)
      · rw [h, Bool.true_or] at q
        exact q
      · rw [Bool.eq_false_iff.mpr h, Bool.false_or] at q
        exact ⟨_, rfl, _, _, _, _, true, rfl, .ty _, ty, kit_ty (by decide +kernel), _, rfl, iteT ⟨_, rfl, _, _, rfl, .inr (hK H), rfl, flat_strs _, q⟩⟩
    | _ => exact iteF ⟨_, rfl, _, _, _, _, false, rfl, .ty _, ty, kit_ty (by decide +kernel), _, rfl, iteF q⟩
end
end K08

/-! the errors' __init__ -/
namespace K08
open PySem PySem.Spec PyProof.Rows L2
theorem none_of {H H' : Hp} {y : Addr} (s : Same H H') (h : H' y = none) : H y = none := by
  cases e : H y with
  | none => rfl
  | some o =>
    have z := s _ _ e
    rw [h] at z
    cases z
abbrev sPatErr : Stmt := inClass (top 4) 0
abbrev sMtErr : Stmt := inClass (top 3) 0
abbrev NoF (K : PySem.W.Frag) (C : Addr) (f : Str) : Prop := PySem.W.findIn K (.ref C) f = some none
abbrev patF (i : Int) (x : Str) : List (Str × V) := [("what", .str x), ("index", .int i)]
abbrev stF (x : Str) : List (Str × V) := [("what", .str x)]
theorem keep_new {H : Hp} {a d : Addr} {o u : HO} (nd : H d = none) : ∀ b x, b ≠ a → H b = some x → (upd (upd H d u) a o) b = some x := fun b x n e => by
  rw [upd_ne n, upd_ne (ne_of_none e nd)]
  exact e
theorem keep_dict {H H1 : Hp} {a d : Addr} {o : HO} (nd : H d = none) (k : ∀ b x, b ≠ a → H b = some x → H1 b = some x) : ∀ b x, b ≠ a → H b = some x → (upd H1 d o) b = some x := fun b x n e => by
  rw [upd_ne (ne_of_none e nd)]
  exact k b x n e
def spPatErr (C : Addr) : Sp := fun vs H Q _ => ∃ (a : Addr) (i : Int) (x : Str), vs = [.ref a, .int i, .str x] ∧ H a = some (exo a C none) ∧
  ∀ (H' : Hp) (d : Addr), H d = none → H' a = some (exo a C (some d)) → H' d = some (exd d (patF i x)) → (∀ b o, b ≠ a → H b = some o → H' b = some o) → Q .non H'
def spMtErr (C : Addr) : Sp := fun vs H Q _ => ∃ (a : Addr) (x : Str), vs = [.ref a, .str x] ∧ H a = some (exo a C none) ∧
  ∀ (H' : Hp) (d : Addr), H d = none → H' a = some (exo a C (some d)) → H' d = some (exd d (stF x)) → (∀ b o, b ≠ a → H b = some o → H' b = some o) → Q .non H'
/-- an own error, made -/
structure ErrC (P : Program) (w : World) (K : PySem.W.Frag) (mg : Str → Option Value) (base : Heap) (x : Str) (ps : List Str) (sp : Addr → Sp) (C fI : Addr) (fd : FuncData) : Prop where
  cl : OexC K C
  ini : PySem.W.findIn K (.ref C) "__init__" = some (some (.ref fI))
  ty : PySem.W.typeIn K (.ref fI) = some (.type "function")
  gl : mg x = some (.ref C)
  ok : FnOk P w K mg base CX0 1 fI fd ps (sp C)
  bi : Binds K fd ps []
section
variable {P : Program} {w : World} {K : PySem.W.Frag} {mg : Str → Option Value} {base : Heap}
theorem ok_patErr {f C : Addr} {fd : FuncData} (F : FunD K "__init__" "BadClause.__init__" (defArgs sPatErr) (defBody sPatErr) (defScope sPatErr) [] [] f fd) (T : OexC K C) (n0 : NoF K C "index") (n1 : NoF K C "what") :
    FnOk P w K mg base CX0 1 f fd ["self", "index", "what"] (spPatErr C) := by
  have sc : FnScope ["self", "index", "what"] ["self", "index", "what"] (defScope sPatErr) := ⟨rfl, rfl, rfl, by decide +kernel, rfl, by decide +kernel, by decide +kernel⟩
  refine F.ok sc (fun vs H Q E h => ?_) (fun cdv A outer s H vs Q E hr h => ?_)
  · obtain ⟨a, i, x, rfl, _⟩ := h
    rfl
  · obtain ⟨a, i, x, rfl, ea, q⟩ := h
    refine ⟨_, PSs.nox (pss_cons (ps_ost (pv 0) (pv 1)) (pss_one (ps_ost (pv 0) (pv 2)))), ?_⟩
    refine ⟨_, rfl, _, rfl, a, C, rfl, T, n0, .inl ⟨ea, fun d nd ne => ?_⟩⟩
    refine ⟨_, rfl, _, rfl, a, C, rfl, T, n1, .inr ⟨d, _, upd_same, Eq.trans (upd_ne ne) upd_same, (by show 1 ≤ 900; decide), ?_⟩⟩
    exact q _ d nd (Eq.trans (upd_ne (Ne.symm ne)) upd_same) upd_same (keep_dict nd (keep_new nd))
theorem ok_mtErr {f C : Addr} {fd : FuncData} (F : FunD K "__init__" "BadCondition.__init__" (defArgs sMtErr) (defBody sMtErr) (defScope sMtErr) [] [] f fd) (T : OexC K C) (n1 : NoF K C "what") :
    FnOk P w K mg base CX0 1 f fd ["self", "what"] (spMtErr C) := by
  have sc : FnScope ["self", "what"] ["self", "what"] (defScope sMtErr) := ⟨rfl, rfl, rfl, by decide +kernel, rfl, by decide +kernel, by decide +kernel⟩
  refine F.ok sc (fun vs H Q E h => ?_) (fun cdv A outer s H vs Q E hr h => ?_)
  · obtain ⟨a, x, rfl, _⟩ := h
    rfl
  · obtain ⟨a, x, rfl, ea, q⟩ := h
    refine ⟨_, PSs.nox (pss_one (ps_ost (pv 0) (pv 1))), ?_⟩
    refine ⟨_, rfl, _, rfl, a, C, rfl, T, n1, .inl ⟨ea, fun d nd ne => ?_⟩⟩
    exact q _ d nd upd_same (Eq.trans (upd_ne ne) upd_same) (keep_new nd)
end
end K08

/-! conditions, made -/
namespace K08
open PySem PySem.Spec PyProof.Rows L2
/-- an __init__ that keeps what it gets under its names, or lets a word out -/
def spIni (C CE : Addr) (n : Nat) (fs : List V → List (Str × V)) (ok : List V → Bool) (z : Str) : Sp := fun vs H Q E => ∃ (x dx : Addr) (us : List V), vs = .ref x :: us ∧ us.length = n ∧ H x = some (.ins C dx []) ∧ (∀ u ∈ us, ∃ t, Odd H u t) ∧
  (ok us = true → ∀ H' : Hp, H' x = some (.ins C dx (fs us)) → (∀ y o, H y = some o → y ≠ x → H' y = some o) → Q .non H') ∧
  (ok us = false → ∀ (H' : Hp) (d : Addr), H d = none → H' d = some (.xd (stF z)) → Same H H' → E (.ref CE) (some d) H')
theorem fail_st {CE : Addr} {H H0 : Hp} {z : Str} {E : XK} (q0 : ∀ (H' : Hp) (d : Addr), H d = none → H' d = some (.xd (stF z)) → Same H H' → E (.ref CE) (some d) H') (s0 : Same H H0) :
    ∀ av, H0 av = none → spMtErr CE [.ref av, .str z] (upd H0 av (exo av CE none)) (fun v H3 => v = .non ∧ ∃ dd fs, H3 av = some (exo av CE (some dd)) ∧ H3 dd = some (exd dd fs) ∧ H0 dd = none ∧ E (.ref CE) (some dd) (upd (del H3 av) dd (.xd fs))) E0 := fun av nav =>
      ⟨av, z, rfl, upd_same, fun H3 dd nd3 ha3 hd3 kp => ⟨rfl, dd, _, ha3, hd3, none_of (same_upd nav) nd3, q0 _ dd (none_of s0 (none_of (same_upd nav) nd3)) upd_same fun y' o' e' => by
        have e2 := s0 _ _ e'
        rw [upd_ne (ne_of_none e2 (none_of (same_upd nav) nd3)), del_ne (ne_of_none e2 nav)]
        exact kp _ _ (ne_of_none e2 nav) (same_upd nav _ _ e2)⟩⟩
structure ConC (K : PySem.W.Frag) (C : Addr) (ns : List Str) : Prop where
  cl : Cls K C
  no : ∀ n ∈ ns, NoAttr K C n
abbrev sNum : Stmt := inClass (top 17) 0
abbrev sAlive : Stmt := inClass (top 18) 0
abbrev sDead : Stmt := inClass (top 19) 0
abbrev sUnlike : Stmt := inClass (top 22) 0
section
variable {P : Program} {w : World} {K : PySem.W.Frag} {mg : Str → Option Value} {base : Heap}
theorem ok_numC {f C CE fW fX : Addr} {fd fdW fdX : FuncData} (F : FunD K "__init__" "Number.__init__" (defArgs sNum) (defBody sNum) (defScope sNum) [] [] f fd) (T : ConC K C ["n"]) (dW : Df P w K mg base "is_whole" 1 ["thing", "low", "high"] spWhole fW fdW)
    (X : ErrC P w K mg base "BadCondition" ["self", "what"] spMtErr CE fX fdX) : FnOk P w K mg base (L2.CX P w) 3 f fd ["self", "n"] (spIni C CE 1 (fun us => [("n", us.getD 0 .non)]) (fun us => wholeV (us.getD 0 .non) 1 4) "number") := by
  have sc : FnScope ["self", "n"] ["self", "n"] (defScope sNum) := ⟨rfl, rfl, rfl, by decide +kernel, rfl, by decide +kernel, by decide +kernel⟩
  refine F.ok sc (fun vs H Q E h => ?_) (fun cdv A outer s H vs Q E hr2 h => ?_)
  · obtain ⟨x, dx, us, rfl, hl, _⟩ := h
    match us, hl with
    | [v], _ => rfl
  · obtain ⟨x, dx, us, rfl, hl, hx, od, q1, q0⟩ := h
    match us, hl, od, q1, q0 with
    | [v], _, od, q1, q0 =>
      obtain ⟨t, o⟩ := od v (List.mem_singleton.mpr rfl)
      have hr1 := hr2.mono (show 1 ≤ 2 by decide)
      refine ⟨_, pss_cons (ps_if (pt_not (pt_val (pe_call dW.ok hr1 (by rfl) dW.gl dW.kp dW.bi .nil pass0 (pa_cons (pv 1) (pa_cons pe_int (pa_cons pe_int pa_nil))))))
          (pss_one (ps_raise rfl (takes_of rfl rfl rfl rfl) (pmk_oex X.cl X.ini X.ty X.ok hr2 X.bi .nil pass0 (by rfl) X.gl (pa_cons pe_str pa_nil)))) pss_nil)
        (PSs.nox (pss_one (ps_fld (pv 0) (pv 1) rfl))), ?_⟩
      refine ⟨_, rfl, v, t, 1, 4, rfl, o, _, rfl, ?_⟩
      have q1 : wholeV v 1 4 = true → _ := q1
      have q0 : wholeV v 1 4 = false → _ := q0
      cases hb : wholeV v 1 4 with
      | false => exact iteT ⟨(by show 1 ≤ 1000; decide), fun av nav => fail_st (q0 hb) (Same.refl _) av nav⟩
      | true =>
        refine iteF ?_
        refine ⟨_, rfl, _, rfl, x, C, dx, _, rfl, hx, T.cl, T.no _ (List.mem_singleton.mpr rfl), by decide, ?_⟩
        exact q1 hb _ upd_same fun y o' e ne => (upd_ne ne).trans e
theorem ok_aliveC {f C CE fW fX : Addr} {fd fdW fdX : FuncData} (F : FunD K "__init__" "Alive.__init__" (defArgs sAlive) (defBody sAlive) (defScope sAlive) [] [] f fd) (T : ConC K C ["way"]) (dW : Df P w K mg base "is_way" 1 ["thing", "least", "most"] spWay fW fdW)
    (X : ErrC P w K mg base "BadCondition" ["self", "what"] spMtErr CE fX fdX) : FnOk P w K mg base (L2.CX P w) 3 f fd ["self", "way"] (spIni C CE 1 (fun us => [("way", us.getD 0 .non)]) (fun us => wayV (us.getD 0 .non) 1 3) "way") := by
  have sc : FnScope ["self", "way"] ["self", "way"] (defScope sAlive) := ⟨rfl, rfl, rfl, by decide +kernel, rfl, by decide +kernel, by decide +kernel⟩
  refine F.ok sc (fun vs H Q E h => ?_) (fun cdv A outer s H vs Q E hr2 h => ?_)
  · obtain ⟨x, dx, us, rfl, hl, _⟩ := h
    match us, hl with
    | [v], _ => rfl
  · obtain ⟨x, dx, us, rfl, hl, hx, od, q1, q0⟩ := h
    match us, hl, od, q1, q0 with
    | [v], _, od, q1, q0 =>
      obtain ⟨t, o⟩ := od v (List.mem_singleton.mpr rfl)
      have hr1 := hr2.mono (show 1 ≤ 2 by decide)
      refine ⟨_, pss_cons (ps_if (pt_not (pt_val (pe_call dW.ok hr1 (by rfl) dW.gl dW.kp dW.bi .nil pass0 (pa_cons (pv 1) (pa_cons pe_int (pa_cons pe_int pa_nil))))))
          (pss_one (ps_raise rfl (takes_of rfl rfl rfl rfl) (pmk_oex X.cl X.ini X.ty X.ok hr2 X.bi .nil pass0 (by rfl) X.gl (pa_cons pe_str pa_nil)))) pss_nil)
        (PSs.nox (pss_one (ps_fld (pv 0) (pv 1) rfl))), ?_⟩
      refine ⟨_, rfl, v, t, 1, 3, rfl, o, fun H1 s1 => ⟨_, rfl, ?_⟩⟩
      have q1 : wayV v 1 3 = true → _ := q1
      have q0 : wayV v 1 3 = false → _ := q0
      cases hb : wayV v 1 3 with
      | false => exact iteT ⟨(by show 1 ≤ 1000; decide), fun av nav => fail_st (q0 hb) s1 av nav⟩
      | true =>
        refine iteF ?_
        refine ⟨_, rfl, _, rfl, x, C, dx, _, rfl, s1 _ _ hx, T.cl, T.no _ (List.mem_singleton.mpr rfl), by decide, ?_⟩
        exact q1 hb _ upd_same fun y o' e ne => (upd_ne ne).trans (s1 _ _ e)
theorem ok_deadC {f C CE fW fX : Addr} {fd fdW fdX : FuncData} (F : FunD K "__init__" "Dead.__init__" (defArgs sDead) (defBody sDead) (defScope sDead) [] [] f fd) (T : ConC K C ["way"]) (dW : Df P w K mg base "is_way" 1 ["thing", "least", "most"] spWay fW fdW)
    (X : ErrC P w K mg base "BadCondition" ["self", "what"] spMtErr CE fX fdX) : FnOk P w K mg base (L2.CX P w) 3 f fd ["self", "way"] (spIni C CE 1 (fun us => [("way", us.getD 0 .non)]) (fun us => wayV (us.getD 0 .non) 1 3) "way") := by
  have sc : FnScope ["self", "way"] ["self", "way"] (defScope sDead) := ⟨rfl, rfl, rfl, by decide +kernel, rfl, by decide +kernel, by decide +kernel⟩
  refine F.ok sc (fun vs H Q E h => ?_) (fun cdv A outer s H vs Q E hr2 h => ?_)
  · obtain ⟨x, dx, us, rfl, hl, _⟩ := h
    match us, hl with
    | [v], _ => rfl
  · obtain ⟨x, dx, us, rfl, hl, hx, od, q1, q0⟩ := h
    match us, hl, od, q1, q0 with
    | [v], _, od, q1, q0 =>
      obtain ⟨t, o⟩ := od v (List.mem_singleton.mpr rfl)
      have hr1 := hr2.mono (show 1 ≤ 2 by decide)
      refine ⟨_, pss_cons (ps_if (pt_not (pt_val (pe_call dW.ok hr1 (by rfl) dW.gl dW.kp dW.bi .nil pass0 (pa_cons (pv 1) (pa_cons pe_int (pa_cons pe_int pa_nil))))))
          (pss_one (ps_raise rfl (takes_of rfl rfl rfl rfl) (pmk_oex X.cl X.ini X.ty X.ok hr2 X.bi .nil pass0 (by rfl) X.gl (pa_cons pe_str pa_nil)))) pss_nil)
        (PSs.nox (pss_one (ps_fld (pv 0) (pv 1) rfl))), ?_⟩
      refine ⟨_, rfl, v, t, 1, 3, rfl, o, fun H1 s1 => ⟨_, rfl, ?_⟩⟩
      have q1 : wayV v 1 3 = true → _ := q1
      have q0 : wayV v 1 3 = false → _ := q0
      cases hb : wayV v 1 3 with
      | false => exact iteT ⟨(by show 1 ≤ 1000; decide), fun av nav => fail_st (q0 hb) s1 av nav⟩
      | true =>
        refine iteF ?_
        refine ⟨_, rfl, _, rfl, x, C, dx, _, rfl, s1 _ _ hx, T.cl, T.no _ (List.mem_singleton.mpr rfl), by decide, ?_⟩
        exact q1 hb _ upd_same fun y o' e ne => (upd_ne ne).trans (s1 _ _ e)
theorem ok_unlikeC {f C CE fS fX : Addr} {fd fdS fdX : FuncData} (F : FunD K "__init__" "Unlike.__init__" (defArgs sUnlike) (defBody sUnlike) (defScope sUnlike) [] [] f fd) (T : ConC K C ["one", "other"]) (dS : Df P w K mg base "is_source" 1 ["thing"] (spSrc srcV) fS fdS)
    (X : ErrC P w K mg base "BadCondition" ["self", "what"] spMtErr CE fX fdX) : FnOk P w K mg base (L2.CX P w) 3 f fd ["self", "one", "other"] (spIni C CE 2 (fun us => [("one", us.getD 0 .non), ("other", us.getD 1 .non)]) (fun us => srcV (us.getD 0 .non) && srcV (us.getD 1 .non)) "source") := by
  have sc : FnScope ["self", "one", "other"] ["self", "one", "other"] (defScope sUnlike) := ⟨rfl, rfl, rfl, by decide +kernel, rfl, by decide +kernel, by decide +kernel⟩
  refine F.ok sc (fun vs H Q E h => ?_) (fun cdv A outer s H vs Q E hr2 h => ?_)
  · obtain ⟨x, dx, us, rfl, hl, _⟩ := h
    match us, hl with
    | [u, v], _ => rfl
  · obtain ⟨x, dx, us, rfl, hl, hx, od, q1, q0⟩ := h
    match us, hl, od, q1, q0 with
    | [u, v], _, od, q1, q0 =>
      obtain ⟨tu, ou⟩ := od u List.mem_cons_self
      obtain ⟨tv, ov⟩ := od v (List.mem_cons_of_mem _ List.mem_cons_self)
      have hr1 := hr2.mono (show 1 ≤ 2 by decide)
      refine ⟨_, pss_cons (ps_if (PW.pt (pw_or (pt_not (pt_val (pe_call dS.ok hr1 (by rfl) dS.gl dS.kp dS.bi .nil pass0 (pa_cons (pv 1) pa_nil)))) (pw_or1 (pt_not (pt_val (pe_call dS.ok hr1 (by rfl) dS.gl dS.kp dS.bi .nil pass0 (pa_cons (pv 2) pa_nil)))))))
          (pss_one (ps_raise rfl (takes_of rfl rfl rfl rfl) (pmk_oex X.cl X.ini X.ty X.ok hr2 X.bi .nil pass0 (by rfl) X.gl (pa_cons pe_str pa_nil)))) pss_nil)
        (PSs.nox (pss_cons (ps_fld (pv 0) (pv 1) rfl) (pss_one (ps_fld (pv 0) (pv 2) rfl)))), ?_⟩
      refine ⟨_, rfl, u, tu, rfl, ou, _, rfl, ?_⟩
      have q1 : (srcV u && srcV v) = true → _ := q1
      have q0 : (srcV u && srcV v) = false → _ := q0
      cases hu : srcV u with
      | false => exact iteT (iteT ⟨(by show 1 ≤ 1000; decide), fun av nav => fail_st (q0 (by rw [hu]; rfl)) (Same.refl _) av nav⟩)
      | true =>
        refine iteF ⟨_, rfl, v, tv, rfl, ov, _, rfl, ?_⟩
        cases hv : srcV v with
        | false => exact iteT ⟨(by show 1 ≤ 1000; decide), fun av nav => fail_st (q0 (by rw [hu, hv]; rfl)) (Same.refl _) av nav⟩
        | true =>
          refine iteF ?_
          refine ⟨_, rfl, _, rfl, x, C, dx, _, rfl, hx, T.cl, T.no _ List.mem_cons_self, by decide, ?_⟩
          refine ⟨_, rfl, _, rfl, x, C, dx, _, rfl, upd_same, T.cl, T.no _ (List.mem_cons_of_mem _ List.mem_cons_self), (by show 1 < 1000; decide), ?_⟩
          exact q1 (by rw [hu, hv]; rfl) _ upd_same fun y o' e ne => ((upd_ne ne).trans (upd_ne ne)).trans e
end
end K08

/-! enumerate over a tuple -/
namespace K08
open PySem PySem.Spec PyProof.Rows
open AutoSeq1 (wpAny_loadPart')
theorem enum_new_tuple (l : Addr) (items : Array Value) (n : Nat) (dct : Option Addr) (sl : Array (Option Value)) :
    Meets (Builtin.«enumerate.__new__» ⟨[.type "enumerate", .ref l], []⟩) (fun _ R s => s.heap.get? l = some { cls := .type "tuple", dict := dct, data := .seq items n, slots := sl } ∧
      R (.ok (.ret (.ref (s.heap.push { cls := .type "tuple_iterator", data := .fields #[.ref l, .int 0 0] }).objs.size)))
        { s with heap := (s.heap.push { cls := .type "tuple_iterator", data := .fields #[.ref l, .int 0 0] }).push { cls := .type "enumerate", data := .fields #[.none, .bool false, .ref s.heap.objs.size, rawInt 0, .none, .none] } }) :=
  .of_wp fun prog w A R s h => by
    obtain ⟨hp, g, d, tk, os⟩ := s
    obtain ⟨hl, h⟩ := h
    have subE := sub_enumerate
    have isT : Heap.IsTuple (Shared.heap ⟨hp, g, d, tk, os⟩) l items := ⟨_, hl, rfl, n, rfl⟩
    wp_walk using wpAny_loadPart' hl
    refine wpAny_stack_any fun st => wpAny_pure ?_
    split
    · rename_i c _ _ _ _ _
      cases (c == Value.type "enumerate")
      · wp_walk using wpAny_loadPart' hl, wpAny_pyIter_tuple isT
        exact ⟨_, rfl, h⟩
      · wp_walk using wpAny_loadPart' hl, wpAny_pyIter_tuple isT
        exact ⟨_, rfl, h⟩
    · wp_walk using wpAny_loadPart' hl, wpAny_pyIter_tuple isT
      exact ⟨_, rfl, h⟩
section
variable {prog : Program} {w : World} {A : Around} {E : Value → Shared → Prop} {s : Shared}
theorem call_enum_tuple {l : Addr} {items : Array Value} {Q : Value → Shared → Prop} (hL : IsTup s.heap l items)
    (h : ∀ h', IsEnum h' (s.heap.objs.size + 1) s.heap.objs.size 0 .none → h'.IsTupleIter s.heap.objs.size l 0 → h'.objs.size = s.heap.objs.size + 2 →
      (∀ b o, s.heap.get? b = some o → h'.get? b = some o) → Q (.ref (s.heap.objs.size + 1)) { s with heap := h' }) :
    wpAny (model prog w) A (call (.type "enumerate") [.ref l]) Q E s := by
  obtain ⟨⟨c, dct, dt, sl⟩, hl, hc, n, hd⟩ := hL
  replace hc : c = .type "tuple" := hc
  replace hd : dt = .seq items n := hd
  subst hc hd
  refine callType_new F.called_enumerate (by decide) (F.typeCall_enumerate_1 _) (F.newCall_enumerate_1 _) (fun obj => F.args_object_init_2 obj _) F.entry_enumerate_new (enum_new_tuple l items n dct sl) ⟨hl, ?_⟩
  have hz : (s.heap.push { cls := .type "tuple_iterator", data := .fields #[.ref l, .int 0 0] }).objs.size = s.heap.objs.size + 1 := Heap.size_push ..
  show _ ∧ _
  rw [hz]
  have he : IsEnum ((s.heap.push { cls := .type "tuple_iterator", data := .fields #[.ref l, .int 0 0] }).push
      { cls := .type "enumerate", data := .fields #[.none, .bool false, .ref s.heap.objs.size, rawInt 0, .none, .none] }) (s.heap.objs.size + 1) s.heap.objs.size 0 .none := by
    have e0 := Heap.get?_push_size (s.heap.push { cls := .type "tuple_iterator", data := .fields #[.ref l, .int 0 0] })
      (o := { cls := .type "enumerate", data := .fields #[.none, .bool false, .ref s.heap.objs.size, rawInt 0, .none, .none] }) rfl
    rw [hz] at e0
    exact e0
  exact ⟨⟨_, he, rfl⟩, h _ he ⟨_, Heap.get?_push_of_some _ (Heap.get?_push_size _ rfl), rfl, rfl⟩ (by rw [Heap.size_push, hz]) fun b o x => Heap.get?_push_of_some _ (Heap.get?_push_of_some _ x)⟩
end
open L2
/-- the tuple at a, its items in new pairs with their numbers -/
def IteT (K : PySem.W.Frag) (a : Addr) : It :=
  ⟨fun i H => ∃ (xs : List V) (x : V), SqT K H a xs ∧ xs[i]? = some x, fun i H v H' => ∃ T x, v = .ref T ∧ H T = none ∧ H' = upd H T (.tup [.int (i : Nat), x]) ∧ ∀ xs, SqT K H a xs → xs[i]? = some x, fun i H => ∃ xs : List V, SqT K H a xs ∧ xs.length = i⟩
theorem turn_enumT {P : Program} {w : World} {K : PySem.W.Frag} {elts : List Expr} {kk : Nat} {tpos : Pos} (a e it : Addr) :
    Turn P w K (.Tuple elts kk tpos) (IteT K a) [e, it] e (fun i h => (∃ old, IsEnum h e it ((i : Nat) : Int) old) ∧ h.IsTupleIter it a i ∧ e ≠ it) where
  mem := by simp
  obj := fun i h st b hb => by
    obtain ⟨⟨old, he⟩, ⟨o, ho, hc, hd⟩, _⟩ := st
    have e' : b = e ∨ b = it := by simpa using hb
    rcases e' with z | z
    · rw [z]; exact ⟨_, he, fun v q => nomatch q⟩
    · rw [z]; exact ⟨o, ho, fun v q => by rw [hd] at q; cases q⟩
  keep := fun i h h' st k => let ⟨⟨old, he⟩, hi, hne⟩ := st; ⟨⟨old, k e (by simp) _ he⟩, hi.at fun o q => k it (by simp) o q, hne⟩
  item := by
    intro X hP hw hK hc i pins s σ H E I hf st hg
    subst hP hw hK
    obtain ⟨⟨old, he⟩, hit, hne⟩ := st
    obtain ⟨xs, x, hq, hx⟩ := hg
    obtain ⟨its, rv, p, hz⟩ := I.tuple hq
    obtain ⟨u, hu, ru⟩ := rv.get hx
    have hel : e < s.heap.objs.size := Heap.lt_size he
    have hil : it < s.heap.objs.size := by obtain ⟨_, q, _⟩ := hit; exact Heap.lt_size q
    have nae : e ≠ a := fun z => by
      obtain ⟨o, ho, hcl, _⟩ := p
      rw [← z, he] at ho
      have z2 := Option.some.inj ho
      subst z2
      exact absurd (Value.type.inj hcl) (by decide)
    have nai : a ≠ it := fun z => by
      obtain ⟨o, ho, hcl, _⟩ := p
      obtain ⟨o2, ho2, hc2, _⟩ := hit
      rw [z, ho2] at ho
      have z2 := Option.some.inj ho
      subst z2
      rw [hcl] at hc2
      exact absurd (Value.type.inj hc2) (by decide)
    have hi : i < its.toArray.size := by
      have z := (List.getElem?_eq_some_iff.mp hu).1
      simpa using z
    refine wpAny_pyNext_enum_itemD (Draws.tuple (A := X.A.in1) (I.ok.hd hc) it a nai its.toArray) he ⟨hit, show s.heap.IsTuple a its.toArray from p⟩ hi hne (by simp only [List.mem_cons, List.not_mem_nil, or_false, not_or]; exact ⟨hne, nae⟩) fun y h' tk hP ho hst' hT hsz hk => ?_
    have ey : y = u := by
      have z : its.toArray[i]? = some u := by simpa using hu
      exact Option.some.inj (hP.symm.trans z)
    subst ey
    refine ⟨_, rfl, wpAny_letOwnedTupleGo_enum (s := { s with heap := h', toks := tk + 1 }) ho fun h'' he' sb => ?_⟩
    have hT2 : h''.get? s.heap.objs.size = some { cls := .type "tuple", data := .seq #[.int i tk, y] } := (sb.2 _ (Nat.ne_of_gt hel)).trans hT
    have new : ObjOk X.prog X.w (upd H s.heap.objs.size (.tup [.int (i : Nat), x])) h'' s.heap.objs.size (.tup [.int (i : Nat), x]) :=
      ⟨by show 2 ≤ sizeLine; decide, [.int i tk, y], .cons ⟨_, rfl⟩ (.cons ru .nil), ⟨_, hT2, rfl, _, rfl⟩⟩
    have I1 : Inv X pins σ (upd H s.heap.objs.size (.tup [.int (i : Nat), x])) { s with heap := h'', toks := tk + 1 } :=
      I.turnedNew (ch := [e, it]) (fun b ob hb q => (sb.2 b (fun z => hb (by simp [z]))).trans (hk b ob (fun z => hb (by simp [z])) (fun z => hb (by simp [z])) q)) hf (Nat.le_refl _) new
    refine ⟨.ref s.heap.objs.size, _, I1, rfl, ⟨_, x, rfl, I.hok.fresh (Nat.le_refl _), rfl, fun ys hy => by rw [I.tuple_inj hy hq]; exact hx⟩, ⟨⟨y, ?_⟩, hst'.1.at fun o q => (sb.2 it (Ne.symm hne)).trans q, hne⟩, fun b hb => ?_⟩
    · have e1 : ((i + 1 : Nat) : Int) = (i : Int) + 1 := by omega
      rw [e1]; exact he'
    · have hb' : b < s.heap.objs.size := by
        have e' : b = e ∨ b = it := by simpa using hb
        rcases e' with z | z
        · rw [z]; exact hel
        · rw [z]; exact hil
      rw [upd_ne (Nat.ne_of_lt hb')]
      exact (hf b hb).1
  done := by
    intro X hP hw hK hc i pins s σ H E I hf st hg
    subst hP hw hK
    obtain ⟨⟨old, he⟩, hit, hne⟩ := st
    obtain ⟨xs, hq, hx⟩ := hg
    obtain ⟨its, rv, p, hz⟩ := I.tuple hq
    obtain ⟨f0, f1, f2, f3, f4, f5⟩ := hf it (by simp)
    have nai : a ≠ it := fun z => by
      obtain ⟨o, ho, hcl, _⟩ := p
      obtain ⟨o2, ho2, hc2, _⟩ := hit
      rw [z, ho2] at ho
      have z2 := Option.some.inj ho
      subst z2
      rw [hcl] at hc2
      exact absurd (Value.type.inj hc2) (by decide)
    have hn : its.toArray.size = i := by
      have hl := rv.length
      simp only [List.size_toArray]
      omega
    have D := Draws.tuple (prog := X.prog) (w := X.w) (A := X.A.in1) (I.ok.hd hc) it a nai its.toArray
    rw [hn] at D
    exact wpAny_pyNext_enum_endD D he ⟨hit, show s.heap.IsTuple a its.toArray from p⟩ fun h' eb => ⟨rfl, I.turned (t' := s.toks) (fun b o hb q => eb b o hb q) f0 f1 f3 f4 f5⟩
  self := fun A i s Q E st h => let ⟨⟨_, he⟩, _⟩ := st; wpAny_pyIter_enum he h
def iEnumT (K : PySem.W.Frag) (ta : TA) : TI := fun σ H R => ta σ H fun vs H1 => ∃ a xs, vs = [.ref a] ∧ SqT K H1 a xs ∧ R (IteT K a) H1
theorem pi_enumT {X : Cx} {e : Expr} {ta : TA} {p pos tpos : Pos} {elts : List Expr} {kk : Nat} (hg : Gl X "enumerate") (hm : X.mg "enumerate" = none) (ha : PA X [e] ta) (hs : starEach [e] X.env = [(false, eval e X.env)]) :
    PI X (.Tuple elts kk tpos) (.Call (.Name "enumerate" p) [e] [] pos) (iEnumT X.K ta) := by
  refine ⟨fun pins s σ H R I h => ?_⟩
  refine Call_ (ld_blt I hg hm boot_enumerate (PyProof.Rows.callWith_type1 (thn (ha.run pos pins s σ H _ I h) fun us s1 ⟨vs, H1, I1, r1, q1⟩ => ?_) hs rfl))
  obtain ⟨a, xs, rfl, hq, q⟩ := q1
  obtain ⟨u, rfl, rx⟩ := vals1 r1
  cases (show u = Value.ref a from rx)
  obtain ⟨its, rv, tp, hz⟩ := I1.tuple hq
  refine call_enum_tuple tp fun h' he hit hsz hk => wpAny_pyIter_enum he ?_
  have I2 : Inv X pins σ H1 { s1 with heap := h' } := I1.kept (t' := s1.toks) hk
  refine ⟨s1.heap.objs.size + 1, [s1.heap.objs.size + 1, s1.heap.objs.size], _, _, H1, rfl, I2, turn_enumT a (s1.heap.objs.size + 1) s1.heap.objs.size, ⟨⟨.none, he⟩, hit, Nat.succ_ne_self _⟩, fun b hb => ?_, q⟩
  have hle : s1.heap.objs.size ≤ b := by
    have e' : b = s1.heap.objs.size + 1 ∨ b = s1.heap.objs.size := by simpa using hb
    rcases e' with z | z
    · rw [z]
      exact Nat.le_succ _
    · rw [z]
      exact Nat.le_refl _
  exact I1.fpOk hle (I1.hok.fresh hle)
theorem walk_enumT {K : PySem.W.Frag} {a : Addr} {xs : List V} : Walk (IteT K a) xs.length (fun H => SqT K H a xs) (YPair (fun i => some (.int (i : Nat))) (fun i => xs[i]?)) := by
  refine ⟨fun i _ hi q => ⟨xs, xs[i], q, by simp [hi]⟩, fun _ q => ⟨xs, q, rfl⟩, fun i H v H' _ q y => ?_⟩
  obtain ⟨T, x, h1, h2, h3, h4⟩ := y
  exact ⟨T, .int (i : Nat), x, h1, h2, h3, rfl, h4 xs q⟩
/-- one walk or the other -/
theorem pi_or {X : Cx} {tg it : Expr} {w1 w2 : TI} (h1 : PI X tg it w1) (h2 : PI X tg it w2) : PI X tg it (fun σ H R => w1 σ H R ∨ w2 σ H R) :=
  ⟨fun pins s σ H R I h => h.elim (h1.run pins s σ H R I) (h2.run pins s σ H R I)⟩
end K08

/-! clauses, made -/
namespace K08
open PySem PySem.Spec PyProof.Rows L2
abbrev sTakeI : Stmt := inClass (top 23) 1
abbrev sFreeI : Stmt := inClass (top 24) 1
theorem tNext_of {D : Ends} {σ : L2.St} {H : Hp} (h : D.nx σ H) : tNext D σ H := h
/-- the first that is not so -/
def firstF (i : Nat) : List Bool → Option Nat
  | [] => none
  | b :: bs => if b = true then firstF (i + 1) bs else some i
def takF (s : Bool) (bs : List Bool) : Option (Nat × Str) := if s = false then some (0, "source") else if 4 < bs.length then some (0, "many") else (firstF 0 bs).map fun i => (i, "condition")
def freF (bs : List Bool) : Option (Nat × Str) := if 4 < bs.length then some (0, "many") else (firstF 0 bs).map fun i => (i, "bar")
/-- is it an instance of CC -/
def Itm (K : PySem.W.Frag) (CC : Addr) (H : Hp) (y : V) (b : Bool) : Prop := ∃ t, (∀ H', Same H H' → TyX K H' y t) ∧ PySem.W.kitOne K t (.ref CC) = some b
theorem Itm.same {K : PySem.W.Frag} {CC : Addr} {H H' : Hp} {y : V} {b : Bool} (h : Itm K CC H y b) (s : Same H H') : Itm K CC H' y b := let ⟨t, h1, h2⟩ := h; ⟨t, fun H2 s2 => h1 H2 (s.trans s2), h2⟩
def spTakI (K : PySem.W.Frag) (CT CC CE : Addr) : Sp := fun vs H Q E => ∃ (x dx tp : Addr) (src : V) (ts : String) (ys : List V) (bs : List Bool), vs = [.ref x, src, .ref tp] ∧ H x = some (.ins CT dx []) ∧ Odd H src ts ∧ H tp = some (.tup ys) ∧ ys.length = bs.length ∧ ys.length ≤ 64 ∧
  (∀ (i : Nat) y b, ys[i]? = some y → bs[i]? = some b → Itm K CC H y b) ∧
  (takF (srcV src) bs = none → ∀ H' : Hp, H' x = some (.ins CT dx [("source", src), ("conditions", .ref tp)]) → (∀ y o, H y = some o → y ≠ x → H' y = some o) → Q .non H') ∧
  ∀ i z, takF (srcV src) bs = some (i, z) → ∀ (H' : Hp) (d : Addr), H d = none → H' d = some (.xd (patF (i : Nat) z)) → Same H H' → E (.ref CE) (some d) H'
def spTake (K : PySem.W.Frag) (CT CC CE : Addr) : Sp := fun vs H Q E => ∃ ws rest, vs = ws ++ rest ∧ ws.length = ([("self" : Str), ("source" : Str)] : List Str).length ∧ rest.length ≤ sizeLine ∧ ∀ p, H p = Option.none → spTakI K CT CC CE (ws ++ [V.ref p]) (upd H p (.tup rest)) Q E
theorem fail_pt {CE : Addr} {H H0 : Hp} {i : Nat} {z : Str} {E : XK} (q0 : ∀ (H' : Hp) (d : Addr), H d = none → H' d = some (.xd (patF (i : Nat) z)) → Same H H' → E (.ref CE) (some d) H') (s0 : Same H H0) :
    ∀ av, H0 av = none → spPatErr CE [.ref av, .int (i : Int), .str z] (upd H0 av (exo av CE none)) (fun v H3 => v = .non ∧ ∃ dd fs, H3 av = some (exo av CE (some dd)) ∧ H3 dd = some (exd dd fs) ∧ H0 dd = none ∧ E (.ref CE) (some dd) (upd (del H3 av) dd (.xd fs))) E0 := fun av nav =>
      ⟨av, i, z, rfl, upd_same, fun H3 dd nd3 ha3 hd3 kp => ⟨rfl, dd, _, ha3, hd3, none_of (same_upd nav) nd3, q0 _ dd (none_of s0 (none_of (same_upd nav) nd3)) upd_same fun y' o' e' => by
        have e2 := s0 _ _ e'
        rw [upd_ne (ne_of_none e2 (none_of (same_upd nav) nd3)), del_ne (ne_of_none e2 nav)]
        exact kp _ _ (ne_of_none e2 nav) (same_upd nav _ _ e2)⟩⟩
section
variable {P : Program} {w : World} {K : PySem.W.Frag} {mg : Str → Option Value} {base : Heap}
theorem ok_take {f CT CC CE fS fX : Addr} {fd fdS fdX : FuncData} (F : FunD K "__init__" "Take.__init__" (defArgs sTakeI) (defBody sTakeI) (defScope sTakeI) [] [] f fd) (T : ConC K CT ["source", "conditions"]) (z_len : mg "len" = none) (z_enumerate : mg "enumerate" = none) (z_isinstance : mg "isinstance" = none) (g_MOST : ∃ t, mg "MOST_CONDITIONS" = some (.int 4 t)) (gC : mg "Condition" = some (.ref CC))
    (dS : Df P w K mg base "is_source" 1 ["thing"] (spSrc srcV) fS fdS) (X : ErrC P w K mg base "BadClause" ["self", "index", "what"] spPatErr CE fX fdX) : FnR P w K mg base (L2.CX P w) 3 f (spTake K CT CC CE) := by
  obtain ⟨tk, g_MOST⟩ := g_MOST
  have sc : FnScope ["self", "source", "conditions", "index", "condition"] (([("self" : Str), ("source" : Str)] : List Str) ++ [("conditions" : Str)]) (defScope sTakeI) := ⟨rfl, rfl, rfl, by decide +kernel, rfl, by decide +kernel, by decide +kernel⟩
  obtain ⟨oc, od, dV, kV, doc, pm, an, cdv, ct, osl, rfl, lk, hcd, hDf, _⟩ := F.ex
  rcases hDf with ⟨_, rfl⟩ | ⟨ne, _⟩
  rotate_left
  · exact absurd rfl ne
  refine StX.fn_star (ps := ["self", "source"]) (pv := "conditions") lk hcd sc StX.cxUp ?_ (fun A outer s H vs Q E hr2 h => ?_)
  · exact StX.bind_star2 (p1 := "self") (p2 := "source") (pv := "conditions") (B := fun us => bindArgs (PySem.W.fnOf "__init__" "Take.__init__" (defArgs sTakeI) (defBody sTakeI) (defScope sTakeI) .none kV doc pm an cdv ct) ⟨us, []⟩) (fun a b => by rfl) (fun a b r rs => by rfl)
  obtain ⟨x, dx, tp, src, ts, ys, bs, rfl, hx, ho, ht, hl, few, hI, q1, q0⟩ := h
  have hr1 := hr2.mono (show 1 ≤ 2 by decide)
  refine ⟨_, (pss_cons (ps_if (pt_not (pt_val (pe_call dS.ok hr1 (by rfl) dS.gl dS.kp dS.bi .nil pass0 (pa_cons (pv 1) pa_nil))))
      (pss_one (ps_raise rfl (takes_of rfl rfl rfl rfl) (pmk_oex X.cl X.ini X.ty X.ok hr2 X.bi .nil pass0 (by rfl) X.gl (pa_cons pe_int (pa_cons pe_str pa_nil)))))
      pss_nil)
    (pss_cons (ps_if (pt_cmpR op_gt (pe_callB call_len_seq (by rfl) z_len boot_len (pa_cons (pv 2) pa_nil)) (pe_glob (by rfl) g_MOST (v := .int 4) ⟨_, rfl⟩) (nomark _))
      (pss_one (ps_raise rfl (takes_of rfl rfl rfl rfl) (pmk_oex X.cl X.ini X.ty X.ok hr2 X.bi .nil pass0 (by rfl) X.gl (pa_cons pe_int (pa_cons pe_str pa_nil)))))
      pss_nil)
    (pss_cons (ps_for PassesOwn.leaving rfl (pi_enumT (by rfl) z_enumerate (pa_cons (pv 2) pa_nil) rfl) (pg_tup (by rfl) (pgs_cons (pg_name (i := 3) sc.nd rfl (.inl rfl)) (pgs_cons (pg_name (i := 4) sc.nd rfl (.inl rfl)) pgs_nil)))
      (pss_one (ps_if (pt_not (pt_val (pe_callB call_isi (by rfl) z_isinstance (by decide +kernel) (pa_cons (pv 4) (pa_cons (pe_glob (by rfl) gC (v := .ref CC) rfl (by decide +kernel)) pa_nil)))))
        (pss_one (ps_raise rfl (takes_of rfl rfl rfl rfl) (pmk_oex X.cl X.ini X.ty X.ok hr2 X.bi .nil pass0 (by rfl) X.gl (pa_cons (pv 3) (pa_cons pe_str pa_nil)))))
        pss_nil)))
    (pss_cons (ps_fld (pv 0) (pv 1) rfl)
    (pss_one (ps_fld (pv 0) (pv 2) rfl)))))), ?_⟩
  refine ⟨_, rfl, src, ts, rfl, ho, _, rfl, ?_⟩
  unfold takF at q1 q0
  cases hs : srcV src with
  | false =>
    rw [if_pos hs] at q0
    exact iteT ⟨(by show 2 ≤ 1000; decide), fun av nav => fail_pt (i := 0) (q0 0 _ rfl) (Same.refl _) av nav⟩
  | true =>
    rw [if_neg (by rw [hs]; exact Bool.noConfusion)] at q1 q0
    refine iteF (tNext_of ?_)
    refine ⟨_, rfl, tp, _, rfl, .inr (SqT.of ht), _, _, rfl, rfl, _, rfl, ?_⟩
    by_cases h4 : 4 < bs.length
    · rw [if_pos h4] at q0
      rw [decide_eq_true (show (4 : Int) < (ys.length : Int) by omega)]
      exact iteT ⟨(by show 2 ≤ 1000; decide), fun av nav => fail_pt (i := 0) (q0 0 _ rfl) (Same.refl _) av nav⟩
    rw [if_neg h4] at q1 q0
    rw [decide_eq_false (show ¬ (4 : Int) < (ys.length : Int) by omega)]
    refine iteF (tNext_of ?_)
    refine ⟨_, rfl, tp, _, rfl, SqT.of ht, for_it walk_enumT (fun i σ H' => ∃ (x3 x4 : Option V), σ = [some (.ref x), some src, some (.ref tp), x3, x4] ∧ firstF i (bs.drop i) = firstF 0 bs ∧ Same H H')
      ⟨none, none, rfl, by rw [List.drop_zero], Same.refl _⟩ (fun i σ H' _ ⟨_, _, _, _, s⟩ => SqT.of (s _ _ ht)) ?_ ?_⟩
    · rintro i y σ H1 H2 hi ⟨x3, x4, rfl, hc, sm⟩ ⟨T2, u', v, rfl, nT, rfl, eu, ev⟩
      obtain rfl : u' = .int (i : Int) := (Option.some.inj eu).symm
      have ev : ys[i]? = some v := ev
      have il : i < bs.length := by rw [← hl]; exact hi
      have eb : bs[i]? = some bs[i] := List.getElem?_eq_getElem il
      obtain ⟨t, hty, hk⟩ := hI i v _ ev eb
      rw [List.drop_eq_getElem_cons il] at hc
      have hc : (if bs[i] = true then firstF (i + 1) (bs.drop (i + 1)) else some i) = firstF 0 bs := hc
      have sT := sm.trans (same_upd (o := .tup [.int (i : Int), v]) nT)
      refine ⟨T2, _, rfl, .inl (.inl upd_same), rfl, _, _, rfl, _, _, rfl, rfl, ?_⟩
      generalize upd H1 T2 (.tup [.int (i : Int), v]) = H3 at sT ⊢
      refine ⟨_, rfl, _, _, t, _, bs[i], rfl, .own _, hty _ sT, hk, _, rfl, ?_⟩
      cases hb : bs[i] with
      | true =>
        rw [if_pos hb] at hc
        exact iteF ⟨_, _, rfl, hc, sT⟩
      | false =>
        rw [if_neg (by rw [hb]; exact Bool.noConfusion)] at hc
        exact iteT ⟨_, rfl, (by show 2 ≤ 1000; decide), fun av nav => fail_pt (q0 i _ (by rw [← hc]; rfl)) sT av nav⟩
    · rintro σ H1 ⟨x3, x4, rfl, hc, sm⟩
      rw [show bs.drop ys.length = [] by rw [hl]; exact List.drop_length] at hc
      have hc : none = firstF 0 bs := hc
      refine ⟨_, rfl, _, rfl, x, CT, dx, _, rfl, sm _ _ hx, T.cl, T.no _ List.mem_cons_self, by decide, ?_⟩
      refine ⟨_, rfl, _, rfl, x, CT, dx, _, rfl, upd_same, T.cl, T.no _ (List.mem_cons_of_mem _ List.mem_cons_self), (by show 1 < 1000; decide), ?_⟩
      exact q1 (by rw [← hc]; rfl) _ upd_same fun y o' e ne => ((upd_ne ne).trans (upd_ne ne)).trans (sm _ _ e)
end
end K08

/-! a free clause, made -/
namespace K08
open PySem PySem.Spec PyProof.Rows L2
def spFreI (CT CE : Addr) : Sp := fun vs H Q E => ∃ (x dx tp : Addr) (ys : List V), vs = [.ref x, .ref tp] ∧ H x = some (.ins CT dx []) ∧ H tp = some (.tup ys) ∧ ys.length ≤ 64 ∧ (∀ y ∈ ys, ∃ t, Odd H y t) ∧
  (freF (ys.map barV) = none → ∀ H' : Hp, H' x = some (.ins CT dx [("bars", .ref tp)]) → (∀ y o, H y = some o → y ≠ x → H' y = some o) → Q .non H') ∧
  ∀ i z, freF (ys.map barV) = some (i, z) → ∀ (H' : Hp) (d : Addr), H d = none → H' d = some (.xd (patF (i : Nat) z)) → Same H H' → E (.ref CE) (some d) H'
def spFree (CT CE : Addr) : Sp := fun vs H Q E => ∃ ws rest, vs = ws ++ rest ∧ ws.length = ([("self" : Str)] : List Str).length ∧ rest.length ≤ sizeLine ∧ ∀ p, H p = Option.none → spFreI CT CE (ws ++ [V.ref p]) (upd H p (.tup rest)) Q E
section
variable {P : Program} {w : World} {K : PySem.W.Frag} {mg : Str → Option Value} {base : Heap}
theorem ok_free {f CT CE fS fX : Addr} {fd fdS fdX : FuncData} (F : FunD K "__init__" "Free.__init__" (defArgs sFreeI) (defBody sFreeI) (defScope sFreeI) [] [] f fd) (T : ConC K CT ["bars"]) (z_len : mg "len" = none) (z_enumerate : mg "enumerate" = none) (g_MOST : ∃ t, mg "MOST_CONDITIONS" = some (.int 4 t))
    (dB : Df P w K mg base "is_bar" 2 ["thing"] (spSrc barV) fS fdS) (X : ErrC P w K mg base "BadClause" ["self", "index", "what"] spPatErr CE fX fdX) : FnR P w K mg base (L2.CX P w) 3 f (spFree CT CE) := by
  obtain ⟨tk, g_MOST⟩ := g_MOST
  have sc : FnScope ["self", "bars", "index", "bar"] (([("self" : Str)] : List Str) ++ [("bars" : Str)]) (defScope sFreeI) := ⟨rfl, rfl, rfl, by decide +kernel, rfl, by decide +kernel, by decide +kernel⟩
  obtain ⟨oc, od, dV, kV, doc, pm, an, cdv, ct, osl, rfl, lk, hcd, hDf, _⟩ := F.ex
  rcases hDf with ⟨_, rfl⟩ | ⟨ne, _⟩
  rotate_left
  · exact absurd rfl ne
  refine StX.fn_star (ps := ["self"]) (pv := "bars") lk hcd sc StX.cxUp ?_ (fun A outer s H vs Q E hr2 h => ?_)
  · exact StX.bind_star1 (p1 := "self") (pv := "bars") (B := fun us => bindArgs (PySem.W.fnOf "__init__" "Free.__init__" (defArgs sFreeI) (defBody sFreeI) (defScope sFreeI) .none kV doc pm an cdv ct) ⟨us, []⟩) (fun a => by rfl) (fun a r rs => by rfl)
  obtain ⟨x, dx, tp, ys, rfl, hx, ht, few, od, q1, q0⟩ := h
  refine ⟨_, (pss_cons (ps_if (pt_cmpR op_gt (pe_callB call_len_seq (by rfl) z_len boot_len (pa_cons (pv 1) pa_nil)) (pe_glob (by rfl) g_MOST (v := .int 4) ⟨_, rfl⟩) (nomark _))
      (pss_one (ps_raise rfl (takes_of rfl rfl rfl rfl) (pmk_oex X.cl X.ini X.ty X.ok hr2 X.bi .nil pass0 (by rfl) X.gl (pa_cons pe_int (pa_cons pe_str pa_nil)))))
      pss_nil)
    (pss_cons (ps_for PassesOwn.leaving rfl (pi_enumT (by rfl) z_enumerate (pa_cons (pv 1) pa_nil) rfl) (pg_tup (by rfl) (pgs_cons (pg_name (i := 2) sc.nd rfl (.inl rfl)) (pgs_cons (pg_name (i := 3) sc.nd rfl (.inl rfl)) pgs_nil)))
      (pss_one (ps_if (pt_not (pt_val (pe_call dB.ok hr2 (by rfl) dB.gl dB.kp dB.bi .nil pass0 (pa_cons (pv 3) pa_nil))))
        (pss_one (ps_raise rfl (takes_of rfl rfl rfl rfl) (pmk_oex X.cl X.ini X.ty X.ok hr2 X.bi .nil pass0 (by rfl) X.gl (pa_cons (pv 2) (pa_cons pe_str pa_nil)))))
        pss_nil)))
    (pss_one (ps_fld (pv 0) (pv 1) rfl)))), ?_⟩
  unfold freF at q1 q0
  rw [List.length_map] at q1 q0
  refine ⟨_, rfl, tp, _, rfl, .inr (SqT.of ht), _, _, rfl, rfl, _, rfl, ?_⟩
  by_cases h4 : 4 < ys.length
  · rw [if_pos h4] at q0
    rw [decide_eq_true (show (4 : Int) < (ys.length : Int) by omega)]
    exact iteT ⟨(by show 2 ≤ 1000; decide), fun av nav => fail_pt (i := 0) (q0 0 _ rfl) (Same.refl _) av nav⟩
  rw [if_neg h4] at q1 q0
  rw [decide_eq_false (show ¬ (4 : Int) < (ys.length : Int) by omega)]
  refine iteF (tNext_of ?_)
  refine ⟨_, rfl, tp, _, rfl, SqT.of ht, for_it walk_enumT (fun i σ H' => ∃ (x3 x4 : Option V), σ = [some (.ref x), some (.ref tp), x3, x4] ∧ firstF i ((ys.map barV).drop i) = firstF 0 (ys.map barV) ∧ Same H H')
    ⟨none, none, rfl, by rw [List.drop_zero], Same.refl _⟩ (fun i σ H' _ ⟨_, _, _, _, s⟩ => SqT.of (s _ _ ht)) ?_ ?_⟩
  · rintro i y σ H1 H2 hi ⟨x3, x4, rfl, hc, sm⟩ ⟨T2, u', v, rfl, nT, rfl, eu, ev⟩
    obtain rfl : u' = .int (i : Int) := (Option.some.inj eu).symm
    have ev : ys[i]? = some v := ev
    obtain ⟨t, o⟩ := od v (List.mem_of_getElem? ev)
    have il : i < (ys.map barV).length := by rw [List.length_map]; exact hi
    have eb : (ys.map barV)[i] = barV v := by
      have z := List.getElem?_eq_getElem il
      rw [List.getElem?_map, ev] at z
      exact (Option.some.inj z).symm
    rw [List.drop_eq_getElem_cons il, eb] at hc
    have hc : (if barV v = true then firstF (i + 1) ((ys.map barV).drop (i + 1)) else some i) = firstF 0 (ys.map barV) := hc
    have sT := sm.trans (same_upd (o := .tup [.int (i : Int), v]) nT)
    refine ⟨T2, _, rfl, .inl (.inl upd_same), rfl, _, _, rfl, _, _, rfl, rfl, ?_⟩
    generalize upd H1 T2 (.tup [.int (i : Int), v]) = H3 at sT ⊢
    refine ⟨_, rfl, v, t, rfl, o.same sT, _, rfl, ?_⟩
    cases hb : barV v with
    | true =>
      rw [if_pos hb] at hc
      exact iteF ⟨_, _, rfl, hc, sT⟩
    | false =>
      rw [if_neg (by rw [hb]; exact Bool.noConfusion)] at hc
      exact iteT ⟨_, rfl, (by show 2 ≤ 1000; decide), fun av nav => fail_pt (q0 i _ (by rw [← hc]; rfl)) sT av nav⟩
  · rintro σ H1 ⟨x3, x4, rfl, hc, sm⟩
    rw [show (ys.map barV).drop ys.length = [] by rw [← List.length_map (f := barV)]; exact List.drop_length] at hc
    have hc : none = firstF 0 (ys.map barV) := hc
    refine ⟨_, rfl, _, rfl, x, CT, dx, _, rfl, sm _ _ hx, T.cl, T.no _ List.mem_cons_self, by decide, ?_⟩
    exact q1 (by rw [← hc]; rfl) _ upd_same fun y o' e ne => (upd_ne ne).trans (sm _ _ e)
end
end K08

set_option maxHeartbeats 2000000
/-! str(x) by an own __str__ -/
namespace K08
open PySem PySem.Spec PySem.Calls PyProof.Rows L2
section
variable {prog : Program} {w : World} {A : Around} {E : Value → Shared → Prop} {s : Shared} {K : PySem.W.Frag} {x C f : Addr} {ox : Obj} {od : Option Obj}
open Builtin Builtin.Str PySem.W in
theorem call_str_own {Q : Value → Shared → Prop} (hu : A.in1.in1.units < cLine) (X : K.In s.heap) (I : InstAt s.heap x ox C od) (hs : findIn K (.ref C) "__str__" = some (some (.ref f))) (hf : isFn K (.ref f) = true)
    (h : wpAny (model prog w) A.in1.in1 (call (.ref f) [.ref x]) (StrBack Q) E s) : wpAny (model prog w) A (call (.type "str") [.ref x]) Q E s := by
  refine callType_codes (T := "str") (Bi := Builtin.«object.__init__») (Q₁ := fun r s₁ => ∃ y u, r = .str y u ∧ Q r s₁) PySem.F.called_str (PySem.F.typeCall_str_1 _) PySem.F.entry_object_init ?_ ?_
  · refine codeAny_of_tree ?_
    show wpAny _ A.in1.in1 (do checkBuiltinCall "str.__new__" ⟨[.type "str", .ref x], []⟩; again (.builtin "str.__new__" ⟨[.type "str", .ref x], []⟩)) _ _ s
    refine wpAny_bind (wpAny_of_eq (PySem.F.newCall_str_1 _) (wpAny_pure ⟨plainId_quiet (by decide +kernel) _, codeAny_builtin PySem.F.entry_str_new ?_⟩))
    rw [Around.under_plainId (by decide +kernel) _]
    rw [str_new_tree]
    refine wpAny_bind (wpAny_pure ?_)
    refine wpAny_bind (wpAny_of_eq isSubtype_str_str ?_)
    have key : wpAny (model prog w) A.in1.in1 (PySem.Builtin.Str.strOf (.ref x)) (fun r s₁ => ∃ y u, r = .str y u ∧ Q r s₁) E s := by
      unfold PySem.Builtin.Str.strOf
      rw [show isExactStr (.ref x) = false from rfl]
      refine wpAny_bind (m := cRoomFor _ _) (wpAny_cRoomFor hu ?_)
      refine wpAny_bind (m := callSpecial? (.ref x) (Str.ofString "__str__")) (special_fn X I hs (beq_iff_eq.mp hf) (wpAny_mono h (fun r s' z => ?_) fun _ _ y => y))
      cases r <;> first | exact z.elim | exact wpAny_pure ⟨_, _, rfl, z⟩
    exact wpAny_bind (wpAny_mono key (fun r s₁ hr => wpAny_pure hr) fun _ _ y => y)
  · rintro obj s₁ ⟨y, u, rfl, hq⟩
    exact ⟨typeIs_str _ _ _, PySem.F.args_object_init_2 _ _, object_init_meets PySem.F.called_str.init.lookup PySem.F.called_str.made (by decide) prog w A.in1 _ s₁ ⟨typeIs_str _ _ _, rfl, hq⟩⟩
end
def rStrI (C : Addr) (sp : Sp) : List V → Hp → VK → Prop := fun xs H Q => ∃ (a dx : Addr) (fs : List (Str × V)), xs = [.ref a] ∧ H a = some (.ins C dx fs) ∧ sp [.ref a] H (fun v H' => ∃ y, v = .str y ∧ Q (.str y) H') E0
theorem call_strI {X : Cx} {n : Nat} {CX : CXT} {C f : Addr} {fd : FuncData} {ps : List Str} {sp : Sp} (F : FnOk X.prog X.w X.K X.mg X.base CX n f fd ps sp)
    (hs : PySem.W.findIn X.K (.ref C) "__str__" = some (some (.ref f))) (hf : PySem.W.isFn X.K (.ref f) = true) (hb : Binds X.K fd ps []) (hx : Passes CX X E0) (hr : Room (n + 2) X.A) : CallR X (.type "str") (rStrI C sp) := by
  intro pins s σ H xs us Q I r h
  obtain ⟨a, dx, fs, rfl, ha, hsp⟩ := h
  rw [Vals.ref1 r]
  obtain ⟨mA, J, _⟩ := ins_get I.hok ha
  obtain ⟨od, J, _⟩ := J.look
  have r2 : Room n X.A.in1.in1 := (Room.in1 (Room.in1 hr))
  refine call_str_own (by have := r2.un; omega) I.kIn J hs hf ?_
  have e0 : Env0 X.prog X.w X.K X.mg X.base X.A.in1.in1 X.stack s H := I.env0.in1.in1
  have hl := F.len _ _ _ _ hsp
  refine wpAny_call (codeAny_mono (F.run X.A.in1.in1 X.stack s H ⟨[.ref a], []⟩ [.ref a] [.ref a] _ E0 r2 e0 (by
    have := hb s [.ref a] I.kIn (by simpa using hl)
    simpa using this) (.cons rfl .nil) hsp) fun r s' hq => ?_)
  cases r with
  | error e => exact hx pins σ H s e s' I hq
  | ok fl =>
    cases fl with
    | ret w =>
      obtain ⟨z, H', I', rz, b, ez, q⟩ := I.after hq
      subst ez
      obtain ⟨t, rfl⟩ := rz
      exact ⟨.str b, H', I', ⟨t, rfl⟩, q⟩
    | next => exact False.elim hq
    | brk => exact False.elim hq
    | cont => exact False.elim hq
end K08

/-! texts of conditions -/
namespace K08
open PySem PySem.Spec PyProof.Rows L2
abbrev sNumS : Stmt := inClass (top 17) 3
abbrev sAliveS : Stmt := inClass (top 18) 5
abbrev sDeadS : Stmt := inClass (top 19) 5
abbrev sUnborneS : Stmt := inClass (top 20) 2
abbrev sNeverS : Stmt := inClass (top 21) 2
abbrev sUnlikeS : Stmt := inClass (top 22) 5
def spStr (C : Addr) (R : List (Str × V) → Str → Prop) : Sp := fun vs H Q _ => ∃ (x dx : Addr) (fs : List (Str × V)) (y : Str), vs = [.ref x] ∧ H x = some (.ins C dx fs) ∧ R fs y ∧ Q (.str y) H
def RNum (fs : List (Str × V)) (y : Str) : Prop := ∃ i : Int, fs = ([("n", .int i)] : List (Str × V)) ∧ 1 ≤ i ∧ i ≤ 4 ∧ y = Str.empty ++ ("number " : Str) ++ (toString i : Str)
def RWay (z : Str) (fs : List (Str × V)) (y : Str) : Prop := ∃ u : Str, fs = ([("way", .str u)] : List (Str × V)) ∧ u.length ≤ 1000 ∧ y = Str.empty ++ z ++ u
def RUnl (fs : List (Str × V)) (y : Str) : Prop := ∃ a b : Str, fs = ([("one", .str a), ("other", .str b)] : List (Str × V)) ∧ a.length ≤ 1000 ∧ b.length ≤ 1000 ∧ y = Str.empty ++ ("unlike " : Str) ++ a ++ (" " : Str) ++ b
def RSay (z : Str) (fs : List (Str × V)) (y : Str) : Prop := fs = [] ∧ y = z
theorem len_cat (a b : Str) : (a ++ b).length = a.length + b.length := by
  show (a.cps ++ b.cps).size = _
  rw [Array.size_append]
  rfl
section
variable {P : Program} {w : World} {K : PySem.W.Frag} {mg : Str → Option Value} {base : Heap}
theorem ok_numS {f C : Addr} {fd : FuncData} (F : FunD K "__str__" "Number.__str__" (defArgs sNumS) (defBody sNumS) (defScope sNumS) [] [] f fd) (T : ConC K C ["n"]) : FnOk P w K mg base CX0 1 f fd ["self"] (spStr C RNum) := by
  have sc : FnScope ["self"] ["self"] (defScope sNumS) := ⟨rfl, rfl, rfl, by decide +kernel, rfl, by decide +kernel, by decide +kernel⟩
  refine F.ok sc (fun vs H Q E h => ?_) (fun cdv A outer s H vs Q E hr h => ?_)
  · obtain ⟨x, dx, fs, y, rfl, _⟩ := h
    rfl
  · obtain ⟨x, dx, _, _, rfl, hx, ⟨i, rfl, h1, h4, rfl⟩, q⟩ := h
    refine ⟨_, PSs.nox (pss_one (ps_ret (pe_joined (.cons pe_str (.cons (pe_fmt (pe_fld (pv 0) rfl)) .nil))))), ?_⟩
    refine ⟨_, rfl, (by show 7 ≤ sizeLine; decide), _, rfl, x, C, dx, _, _, rfl, hx, T.cl, T.no _ List.mem_cons_self, rfl, .inr ⟨i, rfl, ?_, _, rfl, ?_, q⟩⟩
    · obtain rfl | rfl | rfl | rfl : i = 1 ∨ i = 2 ∨ i = 3 ∨ i = 4 := by omega
      all_goals decide
    · obtain rfl | rfl | rfl | rfl : i = 1 ∨ i = 2 ∨ i = 3 ∨ i = 4 := by omega
      all_goals decide +kernel
theorem ok_aliveS {f C : Addr} {fd : FuncData} (F : FunD K "__str__" "Alive.__str__" (defArgs sAliveS) (defBody sAliveS) (defScope sAliveS) [] [] f fd) (T : ConC K C ["way"]) : FnOk P w K mg base CX0 1 f fd ["self"] (spStr C (RWay "alive ")) := by
  have sc : FnScope ["self"] ["self"] (defScope sAliveS) := ⟨rfl, rfl, rfl, by decide +kernel, rfl, by decide +kernel, by decide +kernel⟩
  refine F.ok sc (fun vs H Q E h => ?_) (fun cdv A outer s H vs Q E hr h => ?_)
  · obtain ⟨x, dx, fs, y, rfl, _⟩ := h
    rfl
  · obtain ⟨x, dx, _, _, rfl, hx, ⟨u, rfl, hu, rfl⟩, q⟩ := h
    refine ⟨_, PSs.nox (pss_one (ps_ret (pe_joined (.cons pe_str (.cons (pe_fmt (pe_fld (pv 0) rfl)) .nil))))), ?_⟩
    refine ⟨_, rfl, (by decide +kernel), _, rfl, x, C, dx, _, _, rfl, hx, T.cl, T.no _ List.mem_cons_self, rfl, .inl ⟨u, rfl, Nat.le_trans hu (by decide), _, rfl, ?_, q⟩⟩
    rw [len_cat]
    refine Nat.le_trans (Nat.add_le_add_left hu _) ?_
    decide +kernel
theorem ok_deadS {f C : Addr} {fd : FuncData} (F : FunD K "__str__" "Dead.__str__" (defArgs sDeadS) (defBody sDeadS) (defScope sDeadS) [] [] f fd) (T : ConC K C ["way"]) : FnOk P w K mg base CX0 1 f fd ["self"] (spStr C (RWay "dead ")) := by
  have sc : FnScope ["self"] ["self"] (defScope sDeadS) := ⟨rfl, rfl, rfl, by decide +kernel, rfl, by decide +kernel, by decide +kernel⟩
  refine F.ok sc (fun vs H Q E h => ?_) (fun cdv A outer s H vs Q E hr h => ?_)
  · obtain ⟨x, dx, fs, y, rfl, _⟩ := h
    rfl
  · obtain ⟨x, dx, _, _, rfl, hx, ⟨u, rfl, hu, rfl⟩, q⟩ := h
    refine ⟨_, PSs.nox (pss_one (ps_ret (pe_joined (.cons pe_str (.cons (pe_fmt (pe_fld (pv 0) rfl)) .nil))))), ?_⟩
    refine ⟨_, rfl, (by decide +kernel), _, rfl, x, C, dx, _, _, rfl, hx, T.cl, T.no _ List.mem_cons_self, rfl, .inl ⟨u, rfl, Nat.le_trans hu (by decide), _, rfl, ?_, q⟩⟩
    rw [len_cat]
    refine Nat.le_trans (Nat.add_le_add_left hu _) ?_
    decide +kernel
theorem ok_unborneS {f C : Addr} {fd : FuncData} (F : FunD K "__str__" "Unborne.__str__" (defArgs sUnborneS) (defBody sUnborneS) (defScope sUnborneS) [] [] f fd) : FnOk P w K mg base CX0 1 f fd ["self"] (spStr C (RSay "unborne")) := by
  have sc : FnScope ["self"] ["self"] (defScope sUnborneS) := ⟨rfl, rfl, rfl, by decide +kernel, rfl, by decide +kernel, by decide +kernel⟩
  refine F.ok sc (fun vs H Q E h => ?_) (fun cdv A outer s H vs Q E hr h => ?_)
  · obtain ⟨x, dx, fs, y, rfl, _⟩ := h
    rfl
  · obtain ⟨x, dx, _, _, rfl, hx, ⟨rfl, rfl⟩, q⟩ := h
    refine ⟨_, PSs.nox (pss_one (ps_ret pe_str)), ?_⟩
    exact q
theorem ok_neverS {f C : Addr} {fd : FuncData} (F : FunD K "__str__" "Never.__str__" (defArgs sNeverS) (defBody sNeverS) (defScope sNeverS) [] [] f fd) : FnOk P w K mg base CX0 1 f fd ["self"] (spStr C (RSay "never")) := by
  have sc : FnScope ["self"] ["self"] (defScope sNeverS) := ⟨rfl, rfl, rfl, by decide +kernel, rfl, by decide +kernel, by decide +kernel⟩
  refine F.ok sc (fun vs H Q E h => ?_) (fun cdv A outer s H vs Q E hr h => ?_)
  · obtain ⟨x, dx, fs, y, rfl, _⟩ := h
    rfl
  · obtain ⟨x, dx, _, _, rfl, hx, ⟨rfl, rfl⟩, q⟩ := h
    refine ⟨_, PSs.nox (pss_one (ps_ret pe_str)), ?_⟩
    exact q
theorem ok_unlikeS {f C : Addr} {fd : FuncData} (F : FunD K "__str__" "Unlike.__str__" (defArgs sUnlikeS) (defBody sUnlikeS) (defScope sUnlikeS) [] [] f fd) (T : ConC K C ["one", "other"]) : FnOk P w K mg base CX0 1 f fd ["self"] (spStr C RUnl) := by
  have sc : FnScope ["self"] ["self"] (defScope sUnlikeS) := ⟨rfl, rfl, rfl, by decide +kernel, rfl, by decide +kernel, by decide +kernel⟩
  refine F.ok sc (fun vs H Q E h => ?_) (fun cdv A outer s H vs Q E hr h => ?_)
  · obtain ⟨x, dx, fs, y, rfl, _⟩ := h
    rfl
  · obtain ⟨x, dx, _, _, rfl, hx, ⟨a, b, rfl, ha, hb, rfl⟩, q⟩ := h
    refine ⟨_, PSs.nox (pss_one (ps_ret (pe_joined (.cons pe_str (.cons (pe_fmt (pe_fld (pv 0) rfl)) (.cons pe_str (.cons (pe_fmt (pe_fld (pv 0) rfl)) .nil))))))), ?_⟩
    have l0 : (Str.empty ++ ("unlike " : Str)).length ≤ 10 := by decide +kernel
    have l1 : (" " : Str).length ≤ 10 := by decide +kernel
    have big : 3000 ≤ sizeLine := by decide
    refine ⟨_, rfl, (by decide +kernel), _, rfl, x, C, dx, _, _, rfl, hx, T.cl, T.no _ List.mem_cons_self, rfl, .inl ⟨a, rfl, Nat.le_trans ha (by decide), _, rfl, ?_, _, rfl, ?_, ?_⟩⟩
    · rw [len_cat]; omega
    · rw [len_cat, len_cat]; omega
    · refine ⟨_, rfl, x, C, dx, _, _, rfl, hx, T.cl, T.no _ (List.mem_cons_of_mem _ List.mem_cons_self), rfl, .inl ⟨b, rfl, Nat.le_trans hb (by decide), _, rfl, ?_, q⟩⟩
      rw [len_cat, len_cat, len_cat]; omega
end
end K08

/-! == by an own __eq__, with either answer; is between classes of either sort; type of either sort -/
namespace K08
open PySem PySem.Spec PyProof.Rows L2
/-- what stands right of the sign: its class -/
inductive TyR (H : Hp) : V → Value → Prop where
  | ins {a C dx : Addr} {fs : List (Str × V)} (e : H a = some (.ins C dx fs)) : TyR H (.ref a) (.ref C)
  | tup {a : Addr} {xs : List V} (e : H a = some (.tup xs)) : TyR H (.ref a) (.type "tuple")
  | lst {a : Addr} {xs : List V} (e : H a = some (.lst xs)) : TyR H (.ref a) (.type "list")
  | str (x : Str) : TyR H (.str x) (.type "str")
def rEqI (K : PySem.W.Frag) (C : Addr) (sp : Sp) : R2 := fun x y H Q => ∃ (a dx : Addr) (fs : List (Str × V)) (tb : Value), x = .ref a ∧ H a = some (.ins C dx fs) ∧ TyR H y tb ∧ PySem.W.notFirst K C tb = true ∧ sp [.ref a, y] H (fun v H' => ∃ b, v = .bl b ∧ Q (.bl b) H') E0
section
variable {X : Cx} {n : Nat}
theorem TyR.look {pins : List (Addr × Obj)} {s : Shared} {σ : L2.St} {H : Hp} {y : V} {v tb : Value} (I : Inv X pins σ H s) (t : TyR H y tb) (r : RelV y v) : PySem.W.Looks (model X.prog X.w) s.heap (typeOf v) tb := by
  cases t with
  | ins e =>
    cases r
    obtain ⟨mA, J, _⟩ := ins_get I.hok e
    obtain ⟨od, J, _⟩ := J.look
    exact J.type
  | tup e =>
    cases r
    obtain ⟨_, _, _, o, h1, h2, _⟩ := (show ObjOk X.prog X.w H s.heap _ (.tup _) from I.hok _ _ e)
    exact fun A Q E s k q => wpAny_typeOf_ref (k _ _ h1) (by rw [h2]; exact q)
  | lst e =>
    cases r
    obtain ⟨_, _, n, _, h1⟩ := (show ObjOk X.prog X.w H s.heap _ (.lst _) from I.hok _ _ e)
    exact fun A Q E s k q => wpAny_typeOf_ref (k _ _ h1) q
  | str x =>
    obtain ⟨t, rfl⟩ := r
    exact fun A Q E s k q => wpAny_pure q
theorem op_eqI {CX : CXT} {C f : Addr} {fd : FuncData} {ps : List Str} {sp : Sp} (F : FnOk X.prog X.w X.K X.mg X.base CX n f fd ps sp)
    (hs : PySem.W.findIn X.K (.ref C) "__eq__" = some (some (.ref f))) (hf : PySem.W.isFn X.K (.ref f) = true) (hb : Binds X.K fd ps []) (hx : Passes CX X E0) (hr : Room n X.A) : OpR X (compareOp .Eq) (rEqI X.K C sp) := by
  intro pins s σ H x y u v Q I rx ry h
  obtain ⟨a, dx, fs, tb, rfl, ha, ty, nf, hsp⟩ := h
  cases rx
  obtain ⟨mA, J, _⟩ := ins_get I.hok ha
  obtain ⟨od, J, _⟩ := J.look
  obtain ⟨m, hF⟩ := I.fr
  refine PySem.W.cmp_K (op := .Eq) (tb := tb) hr.units0 hF I.ok.mod.kin J (ty.look I ry) nf hs hf ?_
  have e0 : Env0 X.prog X.w X.K X.mg X.base X.A X.stack s H := I.env0
  have hl := F.len _ _ _ _ hsp
  have r2 : Vals [V.ref a, y] [Value.ref a, v] := .cons rfl (.cons ry .nil)
  refine wpAny_call (codeAny_mono (F.run X.A X.stack s H ⟨[.ref a, v], []⟩ [.ref a, v] [.ref a, y] _ E0 hr e0 (by
    have := hb s [.ref a, v] I.kIn (by simpa using hl)
    simpa using this) r2 hsp) fun r s' hq => ?_)
  cases r with
  | error e => exact hx pins σ H s e s' I hq
  | ok fl =>
    cases fl with
    | ret w =>
      obtain ⟨z, H', I', rz, b, ez, q⟩ := I.after hq
      subst ez
      cases rz
      exact ⟨.bl b, H', I', rfl, q⟩
    | next => exact False.elim hq
    | brk => exact False.elim hq
    | cont => exact False.elim hq
/-! ### type(a) is type(b) -/
def rTyp2 : List V → Hp → VK → Prop := fun xs H Q => ∃ x, xs = [x] ∧ ((∃ a C dx fs, x = .ref a ∧ H a = some (.ins C dx fs) ∧ Q (.ref C) H) ∨ (∃ a us, x = .ref a ∧ (H a = some (.tup us)) ∧ Q (.ty "tuple") H) ∨ (∃ y, x = .str y ∧ Q (.ty "str") H))
theorem cr_type2 : CallR X (.type "type") rTyp2 := by
  intro pins s σ H xs us Q I r h
  obtain ⟨x, rfl, ⟨a, C, dx, fs, rfl, ha, q⟩ | ⟨a, zs, rfl, ha, q⟩ | ⟨y, rfl, q⟩⟩ := h
  · exact cr_type pins s σ H _ us Q I r ⟨a, C, dx, fs, rfl, ha, q⟩
  · rw [Vals.ref1 r]
    obtain ⟨hz, its, r', ob, g, c, k⟩ := (show ObjOk X.prog X.w H s.heap _ (.tup _) from I.hok _ _ ha)
    exact call_type_of (Tx := "tuple") ⟨ob, g, c⟩ (by decide +kernel) ⟨.ty "tuple", H, I, rfl, q⟩
  · obtain ⟨u, rfl, t, rfl⟩ := vals1 r
    exact call_type_of (Tx := "str") (typeIs_str _ _ _) (by decide +kernel) ⟨.ty "str", H, I, rfl, q⟩
def rIs2 (K : PySem.W.Frag) : R2 := fun x y H Q => ∃ a, x = .ref a ∧ ((y = .ref a ∧ Q (.bl true) H) ∨ (∃ b, y = .ref b ∧ a ≠ b ∧ PySem.W.makesIn K a = true ∧ PySem.W.makesIn K b = true ∧ Q (.bl false) H) ∨ (∃ t, y = .ty t ∧ Q (.bl false) H))
theorem op_is2 : OpR X (compareOp .Is) (rIs2 X.K) := by
  intro pins s σ H x y v u Q I rx ry h
  obtain ⟨a, rfl, ⟨rfl, q⟩ | ⟨b, rfl, ne, h1, h2, q⟩ | ⟨t, rfl, q⟩⟩ := h
  · exact op_is_cls pins s σ H _ _ v u Q I rx ry ⟨a, a, rfl, rfl, .inl rfl, by rw [decide_eq_true rfl]; exact q⟩
  · exact op_is_cls pins s σ H _ _ v u Q I rx ry ⟨a, b, rfl, rfl, .inr ⟨h1, h2⟩, by rw [decide_eq_false ne]; exact q⟩
  · cases rx
    cases ry
    exact wpAny_is_other rfl (by intro z; cases z) ⟨.bl false, H, I, rfl, q⟩
end
end K08

/-! equal conditions -/
namespace K08
open PySem PySem.Spec PyProof.Rows L2
/-- something of another class -/
inductive Oth (K : PySem.W.Frag) (C : Addr) (H : Hp) : V → Prop where
  | ins {z C2 dz : Addr} {gs : List (Str × V)} (e : H z = some (.ins C2 dz gs)) (ne : C ≠ C2) (m1 : PySem.W.makesIn K C = true) (m2 : PySem.W.makesIn K C2 = true) : Oth K C H (.ref z)
  | tup {z : Addr} {us : List V} (e : H z = some (.tup us)) : Oth K C H (.ref z)
  | str (x : Str) : Oth K C H (.str x)
theorem Oth.same {K : PySem.W.Frag} {C : Addr} {H H' : Hp} {v : V} (h : Oth K C H v) (s : Same H H') : Oth K C H' v := by
  cases h with
  | ins e ne m1 m2 => exact .ins (s _ _ e) ne m1 m2
  | tup e => exact .tup (s _ _ e)
  | str x => exact .str x
/-- fields, one by one -/
def fsEq : List (Str × V) → List (Str × V) → Bool
  | [], [] => true
  | f :: fs, g :: gs => decide (f.2 = g.2) && fsEq fs gs
  | _, _ => false
def scalAll : List (Str × V) → List (Str × V) → Prop
  | [], [] => True
  | f :: fs, g :: gs => f.1 = g.1 ∧ scal f.2 g.2 = true ∧ scalAll fs gs
  | _, _ => False
def spEqC (K : PySem.W.Frag) (C : Addr) (ns : List Str) : Sp := fun vs H Q _ => ∃ (x dx : Addr) (fs : List (Str × V)) (y : V), vs = [.ref x, y] ∧ H x = some (.ins C dx fs) ∧ fs.map (·.1) = ns ∧
  ((∃ (z dz : Addr) (gs : List (Str × V)), y = .ref z ∧ H z = some (.ins C dz gs) ∧ scalAll fs gs ∧ Q (.bl (fsEq fs gs)) H) ∨ (Oth K C H y ∧ Q (.bl false) H))
section
variable {P : Program} {w : World} {K : PySem.W.Frag} {mg : Str → Option Value} {base : Heap}
/-- type(self) is type(other): not so -/
theorem type_oth {C x dx : Addr} {fs : List (Str × V)} {σ : L2.St} {H : Hp} {y : V} {Q : VK} (e0 : σ[0]? = some (some (.ref x))) (e1 : σ[1]? = some (some y)) (hx : H x = some (.ins C dx fs)) (o : Oth K C H y) (q : Q (.bl false) H) :
    tOp (rIs2 K) (tCB rTyp2 (tCons (tVar 0) tNil)) (tCB rTyp2 (tCons (tVar 1) tNil)) σ H Q := by
  cases o with
  | ins e ne m1 m2 => exact ⟨_, e0, _, rfl, .inl ⟨x, C, dx, _, rfl, hx, _, e1, _, rfl, .inl ⟨_, _, _, _, rfl, e, C, rfl, .inr (.inl ⟨_, rfl, ne, m1, m2, q⟩)⟩⟩⟩
  | tup e => exact ⟨_, e0, _, rfl, .inl ⟨x, C, dx, _, rfl, hx, _, e1, _, rfl, .inr (.inl ⟨_, _, rfl, e, C, rfl, .inr (.inr ⟨_, rfl, q⟩)⟩)⟩⟩
  | str u => exact ⟨_, e0, _, rfl, .inl ⟨x, C, dx, _, rfl, hx, _, e1, _, rfl, .inr (.inr ⟨u, rfl, C, rfl, .inr (.inr ⟨_, rfl, q⟩)⟩)⟩⟩
theorem type_same {C x dx z dz : Addr} {fs gs : List (Str × V)} {σ : L2.St} {H : Hp} {Q : VK} (e0 : σ[0]? = some (some (.ref x))) (e1 : σ[1]? = some (some (.ref z))) (hx : H x = some (.ins C dx fs)) (hz : H z = some (.ins C dz gs)) (q : Q (.bl true) H) :
    tOp (rIs2 K) (tCB rTyp2 (tCons (tVar 0) tNil)) (tCB rTyp2 (tCons (tVar 1) tNil)) σ H Q :=
  ⟨_, e0, _, rfl, .inl ⟨x, C, dx, _, rfl, hx, _, e1, _, rfl, .inl ⟨z, C, dz, _, rfl, hz, C, rfl, .inl ⟨rfl, q⟩⟩⟩⟩
abbrev sNumberE : Stmt := inClass (top 17) 2
theorem ok_numE {f C : Addr} {fd : FuncData} (F : FunD K "__eq__" "Number.__eq__" (defArgs sNumberE) (defBody sNumberE) (defScope sNumberE) [] [] f fd) (T : ConC K C ["n"]) (z_type : mg "type" = none) : FnOk P w K mg base CX0 1 f fd ["self", "other"] (spEqC K C ["n"]) := by
  have sc : FnScope ["self", "other"] ["self", "other"] (defScope sNumberE) := ⟨rfl, rfl, rfl, by decide +kernel, rfl, by decide +kernel, by decide +kernel⟩
  refine F.ok sc (fun vs H Q E h => ?_) (fun cdv A outer s H vs Q E hr h => ?_)
  · obtain ⟨x, dx, fs, y, rfl, _⟩ := h
    rfl
  · obtain ⟨x, dx, fs, y, rfl, hx, hn, h⟩ := h
    refine ⟨_, PSs.nox (pss_one (ps_ret (pe_and (pe_cmpR op_is2 (pe_callTy cr_type2 (by rfl) z_type (by decide +kernel) (pa_cons (pv 0) pa_nil)) (pe_callTy cr_type2 (by rfl) z_type (by decide +kernel) (pa_cons (pv 1) pa_nil)) (nomark _)) (pe_one (pe_cmpR op_eq (pe_fld (pv 0) rfl) (pe_fld (pv 1) rfl) (nomark _)))))), ?_⟩
    match fs, hn with
    | [(_, u)], hn =>
      obtain rfl := List.head_eq_of_cons_eq hn
      rcases h with ⟨z, dz, gs, rfl, hz, hs, q⟩ | ⟨o, q⟩
      · match gs, hs with
        | [(_, v)], ⟨e1, s1, _⟩ =>
          have e1 : ("n" : Str) = _ := e1
          subst e1
          refine type_same rfl rfl hx hz ⟨_, rfl, iteT ?_⟩
          have q : Q (.bl (decide (u = v) && true)) H := q
          rw [Bool.and_true] at q
          exact ⟨_, rfl, x, C, dx, _, _, rfl, hx, T.cl, T.no _ List.mem_cons_self, rfl, _, rfl, z, C, dz, _, _, rfl, hz, T.cl, T.no _ List.mem_cons_self, rfl, s1, q⟩
      · exact type_oth rfl rfl hx o ⟨_, rfl, iteF q⟩
abbrev sAliveE : Stmt := inClass (top 18) 4
theorem ok_aliveE {f C : Addr} {fd : FuncData} (F : FunD K "__eq__" "Alive.__eq__" (defArgs sAliveE) (defBody sAliveE) (defScope sAliveE) [] [] f fd) (T : ConC K C ["way"]) (z_type : mg "type" = none) : FnOk P w K mg base CX0 1 f fd ["self", "other"] (spEqC K C ["way"]) := by
  have sc : FnScope ["self", "other"] ["self", "other"] (defScope sAliveE) := ⟨rfl, rfl, rfl, by decide +kernel, rfl, by decide +kernel, by decide +kernel⟩
  refine F.ok sc (fun vs H Q E h => ?_) (fun cdv A outer s H vs Q E hr h => ?_)
  · obtain ⟨x, dx, fs, y, rfl, _⟩ := h
    rfl
  · obtain ⟨x, dx, fs, y, rfl, hx, hn, h⟩ := h
    refine ⟨_, PSs.nox (pss_one (ps_ret (pe_and (pe_cmpR op_is2 (pe_callTy cr_type2 (by rfl) z_type (by decide +kernel) (pa_cons (pv 0) pa_nil)) (pe_callTy cr_type2 (by rfl) z_type (by decide +kernel) (pa_cons (pv 1) pa_nil)) (nomark _)) (pe_one (pe_cmpR op_eq (pe_fld (pv 0) rfl) (pe_fld (pv 1) rfl) (nomark _)))))), ?_⟩
    match fs, hn with
    | [(_, u)], hn =>
      obtain rfl := List.head_eq_of_cons_eq hn
      rcases h with ⟨z, dz, gs, rfl, hz, hs, q⟩ | ⟨o, q⟩
      · match gs, hs with
        | [(_, v)], ⟨e1, s1, _⟩ =>
          have e1 : ("way" : Str) = _ := e1
          subst e1
          refine type_same rfl rfl hx hz ⟨_, rfl, iteT ?_⟩
          have q : Q (.bl (decide (u = v) && true)) H := q
          rw [Bool.and_true] at q
          exact ⟨_, rfl, x, C, dx, _, _, rfl, hx, T.cl, T.no _ List.mem_cons_self, rfl, _, rfl, z, C, dz, _, _, rfl, hz, T.cl, T.no _ List.mem_cons_self, rfl, s1, q⟩
      · exact type_oth rfl rfl hx o ⟨_, rfl, iteF q⟩
abbrev sDeadE : Stmt := inClass (top 19) 4
theorem ok_deadE {f C : Addr} {fd : FuncData} (F : FunD K "__eq__" "Dead.__eq__" (defArgs sDeadE) (defBody sDeadE) (defScope sDeadE) [] [] f fd) (T : ConC K C ["way"]) (z_type : mg "type" = none) : FnOk P w K mg base CX0 1 f fd ["self", "other"] (spEqC K C ["way"]) := by
  have sc : FnScope ["self", "other"] ["self", "other"] (defScope sDeadE) := ⟨rfl, rfl, rfl, by decide +kernel, rfl, by decide +kernel, by decide +kernel⟩
  refine F.ok sc (fun vs H Q E h => ?_) (fun cdv A outer s H vs Q E hr h => ?_)
  · obtain ⟨x, dx, fs, y, rfl, _⟩ := h
    rfl
  · obtain ⟨x, dx, fs, y, rfl, hx, hn, h⟩ := h
    refine ⟨_, PSs.nox (pss_one (ps_ret (pe_and (pe_cmpR op_is2 (pe_callTy cr_type2 (by rfl) z_type (by decide +kernel) (pa_cons (pv 0) pa_nil)) (pe_callTy cr_type2 (by rfl) z_type (by decide +kernel) (pa_cons (pv 1) pa_nil)) (nomark _)) (pe_one (pe_cmpR op_eq (pe_fld (pv 0) rfl) (pe_fld (pv 1) rfl) (nomark _)))))), ?_⟩
    match fs, hn with
    | [(_, u)], hn =>
      obtain rfl := List.head_eq_of_cons_eq hn
      rcases h with ⟨z, dz, gs, rfl, hz, hs, q⟩ | ⟨o, q⟩
      · match gs, hs with
        | [(_, v)], ⟨e1, s1, _⟩ =>
          have e1 : ("way" : Str) = _ := e1
          subst e1
          refine type_same rfl rfl hx hz ⟨_, rfl, iteT ?_⟩
          have q : Q (.bl (decide (u = v) && true)) H := q
          rw [Bool.and_true] at q
          exact ⟨_, rfl, x, C, dx, _, _, rfl, hx, T.cl, T.no _ List.mem_cons_self, rfl, _, rfl, z, C, dz, _, _, rfl, hz, T.cl, T.no _ List.mem_cons_self, rfl, s1, q⟩
      · exact type_oth rfl rfl hx o ⟨_, rfl, iteF q⟩
abbrev sUnborneE : Stmt := inClass (top 20) 1
theorem ok_unborneE {f C : Addr} {fd : FuncData} (F : FunD K "__eq__" "Unborne.__eq__" (defArgs sUnborneE) (defBody sUnborneE) (defScope sUnborneE) [] [] f fd) (z_type : mg "type" = none) : FnOk P w K mg base CX0 1 f fd ["self", "other"] (spEqC K C []) := by
  have sc : FnScope ["self", "other"] ["self", "other"] (defScope sUnborneE) := ⟨rfl, rfl, rfl, by decide +kernel, rfl, by decide +kernel, by decide +kernel⟩
  refine F.ok sc (fun vs H Q E h => ?_) (fun cdv A outer s H vs Q E hr h => ?_)
  · obtain ⟨x, dx, fs, y, rfl, _⟩ := h
    rfl
  · obtain ⟨x, dx, fs, y, rfl, hx, hn, h⟩ := h
    refine ⟨_, PSs.nox (pss_one (ps_ret (pe_cmpR op_is2 (pe_callTy cr_type2 (by rfl) z_type (by decide +kernel) (pa_cons (pv 0) pa_nil)) (pe_callTy cr_type2 (by rfl) z_type (by decide +kernel) (pa_cons (pv 1) pa_nil)) (nomark _)))), ?_⟩
    match fs, hn with
    | [], _ =>
      rcases h with ⟨z, dz, gs, rfl, hz, hs, q⟩ | ⟨o, q⟩
      · match gs, hs with
        | [], _ => exact type_same rfl rfl hx hz q
      · exact type_oth rfl rfl hx o q
abbrev sNeverE : Stmt := inClass (top 21) 1
theorem ok_neverE {f C : Addr} {fd : FuncData} (F : FunD K "__eq__" "Never.__eq__" (defArgs sNeverE) (defBody sNeverE) (defScope sNeverE) [] [] f fd) (z_type : mg "type" = none) : FnOk P w K mg base CX0 1 f fd ["self", "other"] (spEqC K C []) := by
  have sc : FnScope ["self", "other"] ["self", "other"] (defScope sNeverE) := ⟨rfl, rfl, rfl, by decide +kernel, rfl, by decide +kernel, by decide +kernel⟩
  refine F.ok sc (fun vs H Q E h => ?_) (fun cdv A outer s H vs Q E hr h => ?_)
  · obtain ⟨x, dx, fs, y, rfl, _⟩ := h
    rfl
  · obtain ⟨x, dx, fs, y, rfl, hx, hn, h⟩ := h
    refine ⟨_, PSs.nox (pss_one (ps_ret (pe_cmpR op_is2 (pe_callTy cr_type2 (by rfl) z_type (by decide +kernel) (pa_cons (pv 0) pa_nil)) (pe_callTy cr_type2 (by rfl) z_type (by decide +kernel) (pa_cons (pv 1) pa_nil)) (nomark _)))), ?_⟩
    match fs, hn with
    | [], _ =>
      rcases h with ⟨z, dz, gs, rfl, hz, hs, q⟩ | ⟨o, q⟩
      · match gs, hs with
        | [], _ => exact type_same rfl rfl hx hz q
      · exact type_oth rfl rfl hx o q
abbrev sUnlikeE : Stmt := inClass (top 22) 4
theorem ok_unlikeE {f C : Addr} {fd : FuncData} (F : FunD K "__eq__" "Unlike.__eq__" (defArgs sUnlikeE) (defBody sUnlikeE) (defScope sUnlikeE) [] [] f fd) (T : ConC K C ["one", "other"]) (z_type : mg "type" = none) : FnOk P w K mg base CX0 1 f fd ["self", "other"] (spEqC K C ["one", "other"]) := by
  have sc : FnScope ["self", "other"] ["self", "other"] (defScope sUnlikeE) := ⟨rfl, rfl, rfl, by decide +kernel, rfl, by decide +kernel, by decide +kernel⟩
  refine F.ok sc (fun vs H Q E h => ?_) (fun cdv A outer s H vs Q E hr h => ?_)
  · obtain ⟨x, dx, fs, y, rfl, _⟩ := h
    rfl
  · obtain ⟨x, dx, fs, y, rfl, hx, hn, h⟩ := h
    refine ⟨_, PSs.nox (pss_one (ps_ret (pe_and (pe_cmpR op_is2 (pe_callTy cr_type2 (by rfl) z_type (by decide +kernel) (pa_cons (pv 0) pa_nil)) (pe_callTy cr_type2 (by rfl) z_type (by decide +kernel) (pa_cons (pv 1) pa_nil)) (nomark _)) (pe_and (pe_cmpR op_eq (pe_fld (pv 0) rfl) (pe_fld (pv 1) rfl) (nomark _)) (pe_one (pe_cmpR op_eq (pe_fld (pv 0) rfl) (pe_fld (pv 1) rfl) (nomark _))))))), ?_⟩
    match fs, hn with
    | [(_, u), (_, u2)], hn =>
      obtain rfl := List.head_eq_of_cons_eq hn
      obtain rfl := List.head_eq_of_cons_eq (List.tail_eq_of_cons_eq hn)
      rcases h with ⟨z, dz, gs, rfl, hz, hs, q⟩ | ⟨o, q⟩
      · match gs, hs with
        | [(_, v), (_, v2)], ⟨e1, s1, e2, s2, _⟩ =>
          have e1 : ("one" : Str) = _ := e1
          have e2 : ("other" : Str) = _ := e2
          subst e1 e2
          refine type_same rfl rfl hx hz ⟨_, rfl, iteT ?_⟩
          have q : Q (.bl (decide (u = v) && (decide (u2 = v2) && true))) H := q
          rw [Bool.and_true] at q
          refine ⟨_, rfl, x, C, dx, _, _, rfl, hx, T.cl, T.no _ List.mem_cons_self, rfl, _, rfl, z, C, dz, _, _, rfl, hz, T.cl, T.no _ List.mem_cons_self, rfl, s1, _, rfl, ?_⟩
          have m2 := T.no "other" (List.mem_cons_of_mem _ List.mem_cons_self)
          cases hd : decide (u = v) with
          | false =>
            rw [hd, Bool.false_and] at q
            exact iteF q
          | true =>
            rw [hd, Bool.true_and] at q
            exact iteT ⟨_, rfl, x, C, dx, _, _, rfl, hx, T.cl, m2, rfl, _, rfl, z, C, dz, _, _, rfl, hz, T.cl, m2, rfl, s2, q⟩
      · exact type_oth rfl rfl hx o ⟨_, rfl, iteF q⟩
end
end K08

/-! comprehensions, in general -/
namespace K08
open PySem PySem.Spec PyProof.Rows L2
/-- what was built so far; only the new list's place may change -/
structure LcR (D : Addr) (R : Nat → List V → Hp → Prop) : Prop where
  keep : ∀ i acc H H' ys, R i acc H → H D = some (.lst ys) → (∀ b o, b ≠ D → H b = some o → H' b = some o) → R i acc H'
  few : ∀ i acc H, R i acc H → acc.length ≤ i
theorem lc_N {J : It} {xs : List V} {G : Hp → Prop} (w : Walk J xs.length G (YAt xs)) {j : Nat} {tt : TT} {te : TE} {vs : List Nat} {σ : L2.St} {H1 : Hp} {D : Addr} {Qd : Hp → Prop} (R : Nat → List V → Hp → Prop) (hR : LcR D R) (nD : H1 D = none) (hl : xs.length < sizeLine)
    (h0 : R 0 [] (upd H1 D (.lst []))) (hG : ∀ H', Same H1 H' → G H') (hw : ∀ x, wipe ((wipe σ vs).set j (some x)) vs = wipe σ vs)
    (hs : ∀ i x acc H', xs[i]? = some x → Same H1 H' → H' D = some (.lst acc) → R i acc H' → tt ((wipe σ vs).set j (some x)) H' fun b H3 => Same H' H3 ∧ if b = true then te ((wipe σ vs).set j (some x)) H3 fun y H4 => Same H3 H4 ∧ R (i + 1) (acc ++ [y]) H4 else R (i + 1) acc H3)
    (mt : ∀ σ H (Q Q' : Bool → Hp → Prop), (∀ b H', Q b H' → Q' b H') → tt σ H Q → tt σ H Q') (me : ∀ σ H (Q Q' : VK), (∀ v H', Q v H' → Q' v H') → te σ H Q → te σ H Q')
    (hd : ∀ H' acc, Same H1 H' → H' D = some (.lst acc) → R xs.length acc H' → Qd H') :
    ∃ W : Nat → Nat → Hp → Prop, (∃ m, W 0 m (upd H1 D (.lst []))) ∧ ∀ i m H, W i m H →
      (J.stop i H ∧ Qd H) ∨ (J.go i H ∧ ∃ Nx : Hp → Prop, (∀ H', Nx H' → ∃ m', m' < m ∧ W (i + 1) m' H') ∧ ∀ x H', J.yld i H x H' → gName j x (wipe σ vs) H' fun σ2 H2 => wipe σ2 vs = wipe σ vs ∧ tt σ2 H2 fun b H3 =>
        if b = true then te σ2 H3 fun y H4 => ∃ acc, H4 D = some (.lst acc) ∧ acc.length < sizeLine ∧ Nx (upd H4 D (.lst (acc ++ [y]))) else Nx H3) := by
  refine lc_it w (fun i H' => Same H1 H' ∧ ∃ acc, H' D = some (.lst acc) ∧ R i acc H') ⟨same_upd nD, [], upd_same, h0⟩ (fun i H' _ h => hG H' h.1) ?_ (fun H' ⟨s, acc, e, r⟩ => hd H' acc s e r)
  rintro i x H2 H3 hi ⟨s2, acc, eD, r⟩ ⟨rfl, ev⟩
  refine ⟨hw x, mt _ _ _ _ ?_ (hs i x acc _ ev s2 eD r)⟩
  rintro b H4 ⟨s4, hb⟩
  have eD4 := s4 _ _ eD
  cases b with
  | false => exact ⟨s2.trans s4, acc, eD4, hb⟩
  | true =>
    refine me _ _ _ _ ?_ hb
    rintro y H5 ⟨s5, r5⟩
    have eD5 := s5 _ _ eD4
    refine ⟨acc, eD5, Nat.lt_of_le_of_lt (hR.few _ _ _ r) (by omega), fun b u e => ?_, acc ++ [y], upd_same, hR.keep _ _ _ _ _ r5 eD5 fun b u nb e => (upd_ne nb).trans e⟩
    rw [upd_ne (ne_of_none e nD)]
    exact s5 _ _ (s4 _ _ (s2 _ _ e))
theorem lc_E {K : PySem.W.Frag} {J : It} {xs : List V} {G : Hp → Prop} (w : Walk J xs.length G (YPair (fun i => some (.int (i : Nat))) (fun i => xs[i]?))) {j1 j2 : Nat} {tt : TT} {te : TE} {vs : List Nat} {σ : L2.St} {H1 : Hp} {D : Addr} {Qd : Hp → Prop} (R : Nat → List V → Hp → Prop) (hR : LcR D R) (nD : H1 D = none) (hl : xs.length < sizeLine)
    (h0 : R 0 [] (upd H1 D (.lst []))) (hG : ∀ H', Same H1 H' → G H') (hw : ∀ u x, wipe (((wipe σ vs).set j1 (some u)).set j2 (some x)) vs = wipe σ vs)
    (hs : ∀ (i : Nat) x acc H', xs[i]? = some x → Same H1 H' → H' D = some (.lst acc) → R i acc H' → tt (((wipe σ vs).set j1 (some (.int (i : Int)))).set j2 (some x)) H' fun b H3 => Same H' H3 ∧ if b = true then te (((wipe σ vs).set j1 (some (.int (i : Int)))).set j2 (some x)) H3 fun y H4 => Same H3 H4 ∧ R (i + 1) (acc ++ [y]) H4 else R (i + 1) acc H3)
    (mt : ∀ σ H (Q Q' : Bool → Hp → Prop), (∀ b H', Q b H' → Q' b H') → tt σ H Q → tt σ H Q') (me : ∀ σ H (Q Q' : VK), (∀ v H', Q v H' → Q' v H') → te σ H Q → te σ H Q')
    (hd : ∀ H' acc, Same H1 H' → H' D = some (.lst acc) → R xs.length acc H' → Qd H') :
    ∃ W : Nat → Nat → Hp → Prop, (∃ m, W 0 m (upd H1 D (.lst []))) ∧ ∀ i m H, W i m H →
      (J.stop i H ∧ Qd H) ∨ (J.go i H ∧ ∃ Nx : Hp → Prop, (∀ H', Nx H' → ∃ m', m' < m ∧ W (i + 1) m' H') ∧ ∀ x H', J.yld i H x H' → gTup K 2 (gCons (gName j1) (gCons (gName j2) gNil)) x (wipe σ vs) H' fun σ2 H2 => wipe σ2 vs = wipe σ vs ∧ tt σ2 H2 fun b H3 =>
        if b = true then te σ2 H3 fun y H4 => ∃ acc, H4 D = some (.lst acc) ∧ acc.length < sizeLine ∧ Nx (upd H4 D (.lst (acc ++ [y]))) else Nx H3) := by
  refine lc_it w (fun i H' => Same H1 H' ∧ ∃ acc, H' D = some (.lst acc) ∧ R i acc H') ⟨same_upd nD, [], upd_same, h0⟩ (fun i H' _ h => hG H' h.1) ?_ (fun H' ⟨s, acc, e, r⟩ => hd H' acc s e r)
  rintro i x H2 H3 hi ⟨s2, acc, eD, r⟩ ⟨T, u, v, rfl, nT, rfl, eu, ev⟩
  obtain rfl : u = .int (i : Int) := (Option.some.inj eu).symm
  have sT := same_upd (o := .tup [.int (i : Int), v]) nT
  have eDT := sT _ _ eD
  have rT := hR.keep _ _ _ _ _ r eD fun b o nb e => sT b o e
  refine ⟨T, _, rfl, .inl (.inl upd_same), rfl, _, _, rfl, _, _, rfl, rfl, hw _ v, mt _ _ _ _ ?_ (hs i v acc _ ev (s2.trans sT) eDT rT)⟩
  rintro b H4 ⟨s4, hb⟩
  have eD4 := s4 _ _ eDT
  cases b with
  | false => exact ⟨(s2.trans sT).trans s4, acc, eD4, hb⟩
  | true =>
    refine me _ _ _ _ ?_ hb
    rintro y H5 ⟨s5, r5⟩
    have eD5 := s5 _ _ eD4
    refine ⟨acc, eD5, Nat.lt_of_le_of_lt (hR.few _ _ _ r) (by omega), fun b u e => ?_, acc ++ [y], upd_same, hR.keep _ _ _ _ _ r5 eD5 fun b u nb e => (upd_ne nb).trans e⟩
    rw [upd_ne (ne_of_none e nD)]
    exact s5 _ _ (s4 _ _ (sT _ _ (s2 _ _ e)))
/-! ### what is wanted may be more -/
def MonoE (t : TE) : Prop := ∀ (σ : L2.St) (H : Hp) (Q Q' : VK), (∀ v H', Q v H' → Q' v H') → t σ H Q → t σ H Q'
def MonoT (t : TT) : Prop := ∀ (σ : L2.St) (H : Hp) (Q Q' : Bool → Hp → Prop), (∀ v H', Q v H' → Q' v H') → t σ H Q → t σ H Q'
def MonoA (t : TA) : Prop := ∀ (σ : L2.St) (H : Hp) (Q Q' : List V → Hp → Prop), (∀ v H', Q v H' → Q' v H') → t σ H Q → t σ H Q'
def MonoR (r : R2) : Prop := ∀ (x y : V) (H : Hp) (Q Q' : VK), (∀ v H', Q v H' → Q' v H') → r x y H Q → r x y H Q'
theorem mE_var {i : Nat} : MonoE (tVar i) := fun _ _ _ _ h ⟨x, e, q⟩ => ⟨x, e, h _ _ q⟩
theorem mE_c {v : V} : MonoE (tC v) := fun _ _ _ _ h q => h _ _ q
theorem mE_op {r : R2} {a b : TE} (hr : MonoR r) (ha : MonoE a) (hb : MonoE b) : MonoE (tOp r a b) := fun _ _ _ _ h q => ha _ _ _ _ (fun _ _ q1 => hb _ _ _ _ (fun _ _ q2 => hr _ _ _ _ _ h q2) q1) q
theorem mT_test {e : TE} (he : MonoE e) : MonoT (tTest e) := fun _ _ _ _ h q => he _ _ _ _ (fun _ _ ⟨k, e, q⟩ => ⟨k, e, h _ _ q⟩) q
theorem mT_yes : MonoT tYes := fun _ _ _ _ h q => h _ _ q
theorem mE_if {t : TT} {a b : TE} (ht : MonoT t) (ha : MonoE a) (hb : MonoE b) : MonoE (tIf t a b) := fun _ _ _ _ h q => ht _ _ _ _ (fun c H1 q1 => by
  cases c with
  | true => exact iteT (ha _ _ _ _ h (show a _ _ _ from q1))
  | false => exact iteF (hb _ _ _ _ h (show b _ _ _ from q1))) q
theorem mA_nil : MonoA tNil := fun _ _ _ _ h q => h _ _ q
theorem mA_cons {t : TE} {ta : TA} (ht : MonoE t) (ha : MonoA ta) : MonoA (tCons t ta) := fun _ _ _ _ h q => ht _ _ _ _ (fun _ _ q1 => ha _ _ _ _ (fun _ _ q2 => h _ _ q2) q1) q
theorem mE_tup {ta : TA} (ha : MonoA ta) : MonoE (tTup ta) := fun _ _ _ _ h q => ha _ _ _ _ (fun _ _ ⟨l, q⟩ => ⟨l, fun p np => h _ _ (q p np)⟩) q
theorem mR_eq : MonoR rEq := fun _ _ _ _ _ h ⟨s, q⟩ => ⟨s, h _ _ q⟩
theorem mR_ne : MonoR rNe := fun _ _ _ _ _ h ⟨s, q⟩ => ⟨s, h _ _ q⟩
theorem mR_ixT {K : PySem.W.Frag} : MonoR (rIxT K) := fun _ _ _ _ _ h ⟨p, xs, i, v, e1, e2, e3, e4, q⟩ => ⟨p, xs, i, v, e1, e2, e3, e4, h _ _ q⟩
theorem mR_ixL {K : PySem.W.Frag} : MonoR (rIxL K) := fun _ _ _ _ _ h ⟨p, xs, i, v, e1, e2, e3, e4, q⟩ => ⟨p, xs, i, v, e1, e2, e3, e4, h _ _ q⟩
theorem mR_in {K : PySem.W.Frag} {n : Bool} : MonoR (rIn K n) := fun _ _ _ _ _ h ⟨p, xs, e, o, f1, f2, q⟩ => ⟨p, xs, e, o, f1, f2, h _ _ q⟩
theorem mR_isN {f : V → V} : MonoR (fun x y H Q => y = V.non ∧ Q (f x) H) := fun _ _ _ _ _ h ⟨e, q⟩ => ⟨e, h _ _ q⟩
end K08

/-! a list of things, said -/
namespace K08
open PySem PySem.Spec PyProof.Rows L2
abbrev ShoR : Type := Addr × (List (Str × V) → Str → Prop)
/-- str(v) gives y -/
inductive Sho (cs : List ShoR) (H : Hp) : V → Str → Prop
  | str (y : Str) (hy : y.length ≤ 1000) : Sho cs H (.str y) y
  | ins {a C dx : Addr} {fs : List (Str × V)} {R : List (Str × V) → Str → Prop} {y : Str} (e : H a = some (.ins C dx fs)) (m : (C, R) ∈ cs) (r : R fs y) : Sho cs H (.ref a) y
theorem Sho.same {cs : List ShoR} {H H' : Hp} {v : V} {y : Str} (h : Sho cs H v y) (s : Same H H') : Sho cs H' v y := by
  cases h with
  | str y hy => exact .str y hy
  | ins e m r => exact .ins (s _ _ e) m r
structure StrOk (P : Program) (w : World) (K : PySem.W.Frag) (mg : Str → Option Value) (base : Heap) (p : ShoR) : Prop where
  ex : ∃ (f : Addr) (fd : FuncData), FnOk P w K mg base CX0 1 f fd ["self"] (spStr p.1 p.2) ∧ PySem.W.findIn K (.ref p.1) "__str__" = some (some (.ref f)) ∧ PySem.W.isFn K (.ref f) = true ∧ Binds K fd ["self"] []
def rStrAny (cs : List ShoR) : List V → Hp → VK → Prop := fun xs H Q => ∃ (v : V) (y : Str), xs = [v] ∧ Sho cs H v y ∧ Q (.str y) H
theorem call_strAny {X : Cx} {cs : List ShoR} (hc : ∀ p ∈ cs, StrOk X.prog X.w X.K X.mg X.base p) (hr : Room 3 X.A) : CallR X (.type "str") (rStrAny cs) := by
  intro pins s σ H xs us Q I r h
  obtain ⟨v, y, rfl, hs, q⟩ := h
  cases hs with
  | str y hy => exact SkE.call_str_str pins s σ H _ us Q I r ⟨y, rfl, q⟩
  | ins e m rr =>
    obtain ⟨f, fd, ok, hs, hf, hb⟩ := (hc _ m).ex
    exact call_strI ok hs hf hb pass0 hr pins s σ H _ us Q I r ⟨_, _, _, rfl, e, _, _, _, _, rfl, e, rr, _, rfl, q⟩
def spListed (cs : List ShoR) : Sp := fun vs H Q _ => ∃ (tp : Addr) (us : List V) (ys : List Str), vs = [.ref tp] ∧ H tp = some (.tup us) ∧ us.length = ys.length ∧ us.length ≤ 64 ∧ (∀ (i : Nat) v y, us[i]? = some v → ys[i]? = some y → Sho cs H v y ∧ y.length ≤ 4000) ∧ ∀ H', Same H H' → Q (.str (Txt.join ", " ys)) H'
theorem sum_le {l : List Str} (h : ∀ y ∈ l, y.length ≤ 4000) : (l.map (·.length)).sum ≤ l.length * 4000 := by
  induction l with
  | nil => exact Nat.le_refl _
  | cons y l ih =>
    have h1 := h y List.mem_cons_self
    have h2 := ih fun z hz => h z (List.mem_cons_of_mem _ hz)
    rw [List.map_cons, List.sum_cons, List.length_cons]
    omega
theorem take_snoc' {α : Type} {xs : List α} {i : Nat} {v : α} (h : xs[i]? = some v) : xs.take (i + 1) = xs.take i ++ [v] := by
  rw [List.take_add_one, h]
  rfl
section
variable {P : Program} {w : World} {K : PySem.W.Frag} {mg : Str → Option Value} {base : Heap}
theorem ok_listed {f : Addr} {fd : FuncData} {cs : List ShoR} (F : FnP K "listed" sPListed f fd) (z_str : mg "str" = none) (hc : ∀ p ∈ cs, StrOk P w K mg base p) : FnOk P w K mg base CX0 5 f fd ["things"] (spListed cs) := by
  have sc : FnScope ["things", "thing"] ["things"] (defScope sPListed) := ⟨rfl, rfl, rfl, by decide +kernel, rfl, by decide +kernel, by decide +kernel⟩
  refine F.ok sc (fun vs H Q E h => ?_) (fun cdv A outer s H vs Q E hr h => ?_)
  · obtain ⟨tp, us, ys, rfl, _⟩ := h
    rfl
  · obtain ⟨tp, us, ys, rfl, ht, hl, few, hS, q⟩ := h
    have hr2 := hr.mono (show 3 ≤ 4 by decide)
    refine ⟨_, PSs.nox (pss_one (ps_ret (pe_join pe_str (pe_lc (own := [("thing", 1)]) (g := gName 1) (tt := tYes) (te := tCB (rStrAny cs) (tCons (tVar 1) tNil)) rfl sc.nd (pi_tup (pv 0)) (blkOk_by (N := ["things", "thing"]) (sc := defScope sPListed) (by decide +kernel)) (fun _ _ _ _ _ => pg_name (i := 1) sc.nd rfl (Or.inl rfl)) (fun _ _ _ _ _ => pts_nil) (fun _ _ _ _ _ => pe_callTy (call_strAny hc hr2) (by rfl) z_str (by decide +kernel) (pa_cons (pv 1) pa_nil)))))), ?_⟩
    refine ⟨⟨_, rfl⟩, _, rfl, tp, rfl, ⟨_, SqT.of ht⟩, fun D nD => lc_N walk_tup (fun i acc _ => acc = (ys.take i).map V.str) (⟨fun _ _ _ _ _ r _ _ => r, fun i acc _ r => by rw [r, List.length_map]; exact List.length_take_le _ _⟩) nD (Nat.lt_of_le_of_lt few (by decide)) rfl (fun H' s' => SqT.of (s' _ _ ht)) (fun _ => rfl) ?_ mT_yes (fun _ _ _ _ h ⟨x, e, v, y, e1, e2, q⟩ => ⟨x, e, v, y, e1, e2, h _ _ q⟩) ?_⟩
    · rintro i v acc H' ev s' eD rfl
      have il : i < ys.length := by rw [← hl]; exact (List.getElem?_eq_some_iff.mp ev).1
      have ey : ys[i]? = some ys[i] := List.getElem?_eq_getElem il
      obtain ⟨hs, _⟩ := hS i v _ ev ey
      refine ⟨Same.refl _, iteT ⟨_, rfl, v, _, rfl, hs.same s', Same.refl _, ?_⟩⟩
      rw [take_snoc' ey, List.map_append]
      rfl
    rintro H1 acc s1 eD rfl
    rw [hl, List.take_length] at eD
    refine ⟨_, D, ys, rfl, rfl, .inl (SqL.of eD), ?_, q H1 s1⟩
    have h1 := sum_le (l := ys) fun y hy => by
      obtain ⟨i, hi, rfl⟩ := List.mem_iff_getElem.mp hy
      have il : i < us.length := by rw [hl]; exact hi
      exact (hS i _ _ (List.getElem?_eq_getElem il) (List.getElem?_eq_getElem hi)).2
    have h2 : (", " : Str).length ≤ 10 := by decide +kernel
    have h3 : ys.length ≤ 64 := by rw [← hl]; exact few
    have h4 : ys.length * (", " : Str).length ≤ 64 * 10 := Nat.mul_le_mul h3 h2
    have h5 : ys.length * 4000 ≤ 64 * 4000 := Nat.mul_le_mul_right _ h3
    omega
end
end K08

/-! texts of clauses -/
namespace K08
open PySem PySem.Spec PyProof.Rows L2
abbrev sTakeS : Stmt := inClass (top 23) 10
abbrev sFreeS : Stmt := inClass (top 24) 10
theorem join_len {sep : Str} {m : Nat} : ∀ {ys : List Str}, (∀ y ∈ ys, y.length ≤ m) → (Str.join sep ys).length ≤ ys.length * (m + sep.length)
  | [], _ => Nat.zero_le _
  | [y], h => by
    show y.length ≤ _
    have := h y List.mem_cons_self
    show y.length ≤ 1 * (m + sep.length)
    omega
  | x :: y :: ys, h => by
    show (x ++ sep ++ Str.join sep (y :: ys)).length ≤ _
    rw [len_cat, len_cat]
    have h1 := h x List.mem_cons_self
    have h2 := join_len (sep := sep) (m := m) (ys := y :: ys) fun z hz => h z (List.mem_cons_of_mem _ hz)
    rw [List.length_cons, Nat.succ_mul]
    omega
def takeT (z : Str) (ys : List Str) : Str := if ys = [] then Str.empty ++ ("take " : Str) ++ z else Str.empty ++ ("take " : Str) ++ z ++ (" if " : Str) ++ Txt.join ", " ys
def freeT (ys : List Str) : Str := if ys = [] then "free" else Str.empty ++ ("free not " : Str) ++ Txt.join ", " ys
/-- what listed asks -/
def Things (cs : List ShoR) (H : Hp) (tp : Addr) (us : List V) (ys : List Str) : Prop := H tp = some (.tup us) ∧ us.length = ys.length ∧ us.length ≤ 64 ∧ ∀ (i : Nat) v y, us[i]? = some v → ys[i]? = some y → Sho cs H v y ∧ y.length ≤ 4000
theorem Things.few {cs : List ShoR} {H : Hp} {tp : Addr} {us : List V} {ys : List Str} (h : Things cs H tp us ys) : (Txt.join ", " ys).length ≤ 300000 := by
  obtain ⟨_, hl, few, hS⟩ := h
  have e : Txt.join ", " ys = Str.join ", " ys := TL.join_eq _ _
  rw [e]
  have h1 := join_len (sep := ", ") (m := 4000) (ys := ys) fun y hy => by
    obtain ⟨i, hi, rfl⟩ := List.mem_iff_getElem.mp hy
    have il : i < us.length := by rw [hl]; exact hi
    exact (hS i _ _ (List.getElem?_eq_getElem il) (List.getElem?_eq_getElem hi)).2
  have h2 : (", " : Str).length ≤ 10 := by decide +kernel
  have h3 : ys.length ≤ 64 := by rw [← hl]; exact few
  have h4 : ys.length * (4000 + (", " : Str).length) ≤ 64 * 4010 := Nat.mul_le_mul h3 (by omega)
  omega
def spTakS (cs : List ShoR) (C : Addr) : Sp := fun vs H Q _ => ∃ (x dx tp : Addr) (z : Str) (us : List V) (ys : List Str), vs = [.ref x] ∧ H x = some (.ins C dx [("source", .str z), ("conditions", .ref tp)]) ∧ z.length ≤ 1000 ∧ Things cs H tp us ys ∧ ∀ H', Same H H' → Q (.str (takeT z ys)) H'
def spFreS (cs : List ShoR) (C : Addr) : Sp := fun vs H Q _ => ∃ (x dx tp : Addr) (us : List V) (ys : List Str), vs = [.ref x] ∧ H x = some (.ins C dx [("bars", .ref tp)]) ∧ Things cs H tp us ys ∧ ∀ H', Same H H' → Q (.str (freeT ys)) H'
section
variable {P : Program} {w : World} {K : PySem.W.Frag} {mg : Str → Option Value} {base : Heap}
theorem ok_takeS {f C fL : Addr} {fd fdL : FuncData} {cs : List ShoR} (F : FunD K "__str__" "Take.__str__" (defArgs sTakeS) (defBody sTakeS) (defScope sTakeS) [] [] f fd) (T : ConC K C ["source", "conditions"]) (dL : Df P w K mg base "listed" 5 ["things"] (spListed cs) fL fdL) : FnOk P w K mg base CX0 6 f fd ["self"] (spTakS cs C) := by
  have sc : FnScope ["self"] ["self"] (defScope sTakeS) := ⟨rfl, rfl, rfl, by decide +kernel, rfl, by decide +kernel, by decide +kernel⟩
  refine F.ok sc (fun vs H Q E h => ?_) (fun cdv A outer s H vs Q E hr5 h => ?_)
  · obtain ⟨x, dx, tp, z, us, ys, rfl, _⟩ := h
    rfl
  · obtain ⟨x, dx, tp, z, us, ys, rfl, hx, hz, ht, q⟩ := h
    have few := ht.few
    obtain ⟨e1, hl, h64, hS⟩ := ht
    refine ⟨_, PSs.nox (pss_cons (ps_if (pt_not (pt_truth (pe_fld (pv 0) rfl) (by intro _; rfl)))
      (pss_one (ps_ret (pe_joined (.cons pe_str (.cons (pe_fmt (pe_fld (pv 0) rfl)) .nil)))))
      pss_nil)
    (pss_one (ps_ret (pe_joined (.cons pe_str (.cons (pe_fmt (pe_fld (pv 0) rfl)) (.cons pe_str (.cons (pe_fmt (pe_call dL.ok hr5 (by rfl) dL.gl dL.kp dL.bi .nil pass0 (pa_cons (pe_fld (pv 0) rfl) pa_nil))) .nil)))))))), ?_⟩
    have big : 400000 ≤ sizeLine := by decide
    have l0 : (Str.empty ++ ("take " : Str)).length ≤ 10 := by decide +kernel
    have l1 : (" if " : Str).length ≤ 10 := by decide +kernel
    refine ⟨_, rfl, x, C, dx, _, _, rfl, hx, T.cl, T.no _ (List.mem_cons_of_mem _ List.mem_cons_self), rfl, !us.isEmpty, .inr (.inl ⟨us, SqT.of e1, rfl⟩), ?_⟩
    unfold takeT at q
    cases ys with
    | nil =>
      have e0 : us.isEmpty = true := by rw [List.eq_nil_of_length_eq_zero hl]; rfl
      rw [e0]
      rw [if_pos rfl] at q
      refine iteT ⟨_, rfl, (by decide +kernel), _, rfl, x, C, dx, _, _, rfl, hx, T.cl, T.no _ List.mem_cons_self, rfl, .inl ⟨z, rfl, Nat.le_trans hz (by decide), _, rfl, ?_, q H (Same.refl _)⟩⟩
      rw [len_cat]; omega
    | cons y ys =>
      rw [if_neg (fun h => by cases h)] at q
      have e0 : us.isEmpty = false := by
        cases us with
        | nil => cases hl
        | cons u us => rfl
      rw [e0]
      refine iteF (tNext_of ?_)
      refine ⟨_, rfl, (by decide +kernel), _, rfl, x, C, dx, _, _, rfl, hx, T.cl, T.no _ List.mem_cons_self, rfl, .inl ⟨z, rfl, Nat.le_trans hz (by decide), _, rfl, ?_, _, rfl, ?_, ?_⟩⟩
      · rw [len_cat]; omega
      · rw [len_cat, len_cat]; omega
      · refine ⟨_, rfl, x, C, dx, _, _, rfl, hx, T.cl, T.no _ (List.mem_cons_of_mem _ List.mem_cons_self), rfl, tp, us, _, rfl, e1, hl, h64, hS, fun H1 s1 => .inl ⟨_, rfl, Nat.le_trans few (by omega), _, rfl, ?_, q H1 s1⟩⟩
        rw [len_cat, len_cat, len_cat]; omega
theorem ok_freeS {f C fL : Addr} {fd fdL : FuncData} {cs : List ShoR} (F : FunD K "__str__" "Free.__str__" (defArgs sFreeS) (defBody sFreeS) (defScope sFreeS) [] [] f fd) (T : ConC K C ["bars"]) (dL : Df P w K mg base "listed" 5 ["things"] (spListed cs) fL fdL) : FnOk P w K mg base CX0 6 f fd ["self"] (spFreS cs C) := by
  have sc : FnScope ["self"] ["self"] (defScope sFreeS) := ⟨rfl, rfl, rfl, by decide +kernel, rfl, by decide +kernel, by decide +kernel⟩
  refine F.ok sc (fun vs H Q E h => ?_) (fun cdv A outer s H vs Q E hr5 h => ?_)
  · obtain ⟨x, dx, tp, us, ys, rfl, _⟩ := h
    rfl
  · obtain ⟨x, dx, tp, us, ys, rfl, hx, ht, q⟩ := h
    have few := ht.few
    obtain ⟨e1, hl, h64, hS⟩ := ht
    refine ⟨_, PSs.nox (pss_cons (ps_if (pt_not (pt_truth (pe_fld (pv 0) rfl) (by intro _; rfl)))
      (pss_one (ps_ret pe_str))
      pss_nil)
    (pss_one (ps_ret (pe_joined (.cons pe_str (.cons (pe_fmt (pe_call dL.ok hr5 (by rfl) dL.gl dL.kp dL.bi .nil pass0 (pa_cons (pe_fld (pv 0) rfl) pa_nil))) .nil)))))), ?_⟩
    have big : 400000 ≤ sizeLine := by decide
    have l0 : (Str.empty ++ ("free not " : Str)).length ≤ 20 := by decide +kernel
    refine ⟨_, rfl, x, C, dx, _, _, rfl, hx, T.cl, T.no _ List.mem_cons_self, rfl, !us.isEmpty, .inr (.inl ⟨us, SqT.of e1, rfl⟩), ?_⟩
    unfold freeT at q
    cases ys with
    | nil =>
      have e0 : us.isEmpty = true := by rw [List.eq_nil_of_length_eq_zero hl]; rfl
      rw [e0]
      rw [if_pos rfl] at q
      exact iteT (q H (Same.refl _))
    | cons y ys =>
      rw [if_neg (fun h => by cases h)] at q
      have e0 : us.isEmpty = false := by
        cases us with
        | nil => cases hl
        | cons u us => rfl
      rw [e0]
      refine iteF (tNext_of ?_)
      refine ⟨_, rfl, (by decide +kernel), _, rfl, x, C, dx, _, _, rfl, hx, T.cl, T.no _ List.mem_cons_self, rfl, tp, us, _, rfl, e1, hl, h64, hS, fun H1 s1 => .inl ⟨_, rfl, Nat.le_trans few (by omega), _, rfl, ?_, q H1 s1⟩⟩
      rw [len_cat]; omega
end
end K08

/-! the law's own ways and sources -/
namespace K08
open PySem PySem.Spec PyProof.Rows L2
abbrev sV (l : List Str) : List V := l.map V.str
def lon (row : List Str) : List Str := row.flatMap fun w => [w ++ ("f" : Str), w ++ ("m" : Str)]
def rowN : Nat → List Str
  | 0 => [("" : Str)]
  | n + 1 => lon (rowN n)
def foundN : Nat → List Str
  | 0 => []
  | n + 1 => if 1 ≤ n then foundN n ++ rowN n else foundN n
theorem sV_app (l m : List Str) : sV (l ++ m) = sV l ++ sV m := List.map_append
theorem lon_len (l : List Str) : (lon l).length = 2 * l.length := by
  induction l with
  | nil => rfl
  | cons a l ih =>
    show ([a ++ ("f" : Str), a ++ ("m" : Str)] ++ lon l).length = 2 * (l.length + 1)
    rw [List.length_append, ih]
    show 2 + _ = _
    omega
def spWays : Sp := fun vs H Q _ => vs = [.int 1, .int 3] ∧ ∀ (H' : Hp) (z : Addr), Same H H' → H z = none → H' z = some (.lst (sV (foundN 4))) → Q (.ref z) H'
section
variable {P : Program} {w : World} {K : PySem.W.Frag} {mg : Str → Option Value} {base : Heap}
theorem ok_ways {f : Addr} {fd : FuncData} (F : FnP K "_law_ways" sWays f fd) (z_range : mg "range" = none) : FnOk P w K mg base CX0 1 f fd ["_law_least", "_law_most"] spWays := by
  have sc : FnScope ["_law_least", "_law_most", "_law_found", "_law_row_here", "_law_many", "_law_longer", "_law_way"] ["_law_least", "_law_most"] (defScope sWays) := ⟨rfl, rfl, rfl, by decide +kernel, rfl, by decide +kernel, by decide +kernel⟩
  refine F.ok sc (fun vs H Q E h => ?_) (fun cdv A outer s H vs Q E hr h => ?_)
  · obtain ⟨rfl, _⟩ := h
    rfl
  · obtain ⟨rfl, q⟩ := h
    refine ⟨_, PSs.nox (pss_cons (ps_set (i := 2) sc.nd rfl (.inl rfl) (pe_lst pa_nil))
    (pss_cons (ps_set (i := 3) sc.nd rfl (.inl rfl) (pe_lst (pa_cons pe_str pa_nil)))
    (pss_cons (ps_for PassesOwn.never rfl (pi_range1 (by rfl) z_range (pa_cons (pe_op op_add (pv 1) pe_int) pa_nil)) (pg_name (i := 4) sc.nd rfl (.inl rfl))
      (pss_cons (ps_if (pt_cmpR op_ge (pv 4) (pv 0) (nomark _))
        (pss_one (ps_set (i := 2) sc.nd rfl (.inl rfl) (pe_op op_cat (pv 2) (pv 3))))
        pss_nil)
      (pss_cons (ps_set (i := 5) sc.nd rfl (.inl rfl) (pe_lst pa_nil))
      (pss_cons (ps_for PassesOwn.never rfl (pi_list (pv 3)) (pg_name (i := 6) sc.nd rfl (.inl rfl))
        (pss_one (ps_set (i := 5) sc.nd rfl (.inl rfl) (pe_op op_cat (pv 5) (pe_lst (pa_cons (pe_op op_add_str (pv 6) pe_str) (pa_cons (pe_op op_add_str (pv 6) pe_str) pa_nil)))))))
      (pss_one (ps_set (i := 3) sc.nd rfl (.inl rfl) (pv 5)))))))
    (pss_one (ps_ret (pv 2)))))), ?_⟩
    have small : ∀ k, k < 4 → (rowN k).length ≤ 8 ∧ (foundN k).length ≤ 14 ∧ ∀ w ∈ rowN k, w.length ≤ 3 := fun k hk => by
      have z : ((List.range 4).all fun k => decide ((rowN k).length ≤ 8) && (decide ((foundN k).length ≤ 14) && (rowN k).all fun w => decide (w.length ≤ 3))) = true := by decide +kernel
      have y := List.all_eq_true.mp z k (List.mem_range.mpr hk)
      obtain ⟨a, b⟩ := Bool.and_eq_true_iff.mp y
      obtain ⟨b, c⟩ := Bool.and_eq_true_iff.mp b
      exact ⟨of_decide_eq_true a, of_decide_eq_true b, fun w hw => of_decide_eq_true (List.all_eq_true.mp c w hw)⟩
    have big : 1000 ≤ sizeLine := by decide
    refine ⟨Nat.zero_le _, fun f0 nf0 => ⟨(by show 1 ≤ sizeLine; decide), fun r0 nr0 => ?_⟩⟩
    have s1 := same_upd (o := .lst []) nf0
    have s2 := same_upd (o := .lst [.str ""]) nr0
    have ef0 := s2 _ _ (upd_same (H := H) (a := f0) (o := .lst []))
    refine ⟨_, rfl, _, _, rfl, rfl, 4, rfl, by decide, by decide, ?_⟩
    refine for_it (n := 4) walk_range (fun k σ H' => ∃ (fo ro : Addr) (x4 x5 x6 : Option V), σ = [some (.int 1), some (.int 3), some (.ref fo), some (.ref ro), x4, x5, x6] ∧ H' fo = some (.lst (sV (foundN k))) ∧ H' ro = some (.lst (sV (rowN k))) ∧ Same H H' ∧ H fo = none)
      ⟨f0, r0, none, none, none, rfl, ef0, upd_same, s1.trans s2, nf0⟩ (fun _ _ _ _ _ => trivial) ?_ ?_
    · rintro k y σ H1 H2 hk ⟨fo, ro, x4, x5, x6, rfl, ef, er, sm, nf⟩ ⟨rfl, rfl⟩
      show gName 4 (V.int (0 + (k : Int))) _ _ _
      rw [Int.zero_add]
      obtain ⟨l1, l2, l3⟩ := small k hk
      have after : ∀ (fo' : Addr) (H3 : Hp), H3 fo' = some (.lst (sV (foundN (k + 1)))) → H3 ro = some (.lst (sV (rowN k))) → Same H H3 → H fo' = none → tSeq (tAsg (tLst tNil) (gName 5))
              (tSeq
                (tFor (iList K (tVar 3)) (gName 6)
                  (tAsg
                    (tOp rCat (tVar 5)
                      (tLst
                        (tCons (tOp (fun x y H Q => ∃ i j, x = V.str i ∧ y = V.str j ∧ i.length + j.length ≤ sizeLine ∧ Q (V.str (i ++ j)) H) (tVar 6) (tC (V.str "f")))
                          (tCons (tOp (fun x y H Q => ∃ i j, x = V.str i ∧ y = V.str j ∧ i.length + j.length ≤ sizeLine ∧ Q (V.str (i ++ j)) H) (tVar 6) (tC (V.str "m"))) tNil)))) (gName 5)))
                (tAsg (tVar 5) (gName 3)))
          { nx := fun σ H' => ∃ (fo ro : Addr) (x4 x5 x6 : Option V), σ = [some (.int 1), some (.int 3), some (.ref fo), some (.ref ro), x4, x5, x6] ∧ H' fo = some (.lst (sV (foundN (k + 1)))) ∧ H' ro = some (.lst (sV (rowN (k + 1)))) ∧ Same H H' ∧ H fo = none, rt := Q }
          [some (.int 1), some (.int 3), some (.ref fo'), some (.ref ro), some (.int (k : Int)), x5, x6] H3 := fun fo' H3 ef3 er3 sm3 nf3 => by
        refine ⟨Nat.zero_le _, fun d0 nd0 => ?_⟩
        have sd := same_upd (o := .lst []) nd0
        have ef4 := sd _ _ ef3
        have er4 := sd _ _ er3
        have sm4 := sm3.trans sd
        refine ⟨_, rfl, ro, rfl, ⟨_, SqL.of er4⟩, ?_⟩
        refine for_it walk_list (fun i σ H' => ∃ (d : Addr) (x6 : Option V), σ = [some (.int 1), some (.int 3), some (.ref fo'), some (.ref ro), some (.int (k : Int)), some (.ref d), x6] ∧ H' d = some (.lst (sV (lon ((rowN k).take i)))) ∧ H' fo' = some (.lst (sV (foundN (k + 1)))) ∧ H' ro = some (.lst (sV (rowN k))) ∧ Same H H')
          ⟨d0, x6, rfl, upd_same, ef4, er4, sm4⟩ (fun i σ H' _ ⟨_, _, _, _, _, er, _⟩ => SqL.of er) ?_ ?_
        · rintro i y σ H5 H6 hi ⟨d, x6, rfl, ed, ef5, er5, sm5⟩ ⟨rfl, ey⟩
          obtain ⟨u, eu, rfl⟩ := (by simpa using ey : ∃ u, (rowN k)[i]? = some u ∧ V.str u = y)
          have hu := l3 u (List.mem_of_getElem? eu)
          have c1 : ("f" : Str).length ≤ 1 := by decide +kernel
          have c2 : ("m" : Str).length ≤ 1 := by decide +kernel
          refine ⟨_, rfl, _, rfl, u, _, rfl, rfl, by omega, _, rfl, u, _, rfl, rfl, by omega, (by show 2 ≤ sizeLine; decide), fun t nt => ?_⟩
          have st := same_upd (o := .lst [.str (u ++ ("f" : Str)), .str (u ++ ("m" : Str))]) nt
          refine ⟨d, t, _, _, rfl, rfl, st _ _ ed, upd_same, ?_, fun e ne => ?_⟩
          · show (sV (lon ((rowN k).take i))).length + 2 ≤ sizeLine
            rw [List.length_map, lon_len, List.length_take]
            omega
          · have se := same_upd (o := .lst (sV (lon ((rowN k).take i)) ++ [.str (u ++ ("f" : Str)), .str (u ++ ("m" : Str))])) ne
            refine ⟨e, _, rfl, ?_, se _ _ (st _ _ ef5), se _ _ (st _ _ er5), (sm5.trans st).trans se⟩
            rw [upd_same, take_snoc' eu]
            unfold lon
            rw [List.flatMap_append, sV_app]
            rfl
        · rintro σ H5 ⟨d, x6, rfl, ed, ef5, er5, sm5⟩
          rw [List.length_map, List.take_length] at ed
          exact ⟨_, rfl, fo', d, _, _, _, rfl, ef5, ed, sm5, nf3⟩
      refine ⟨_, rfl, _, rfl, _, _, rfl, rfl, _, rfl, ?_⟩
      by_cases h1 : 1 ≤ k
      · rw [decide_eq_true (show (1 : Int) ≤ (k : Int) by omega)]
        refine iteT ⟨_, rfl, _, rfl, fo, ro, _, _, rfl, rfl, ef, er, by rw [List.length_map, List.length_map]; omega, fun p np => ?_⟩
        have sp := same_upd (o := .lst (sV (foundN k) ++ sV (rowN k))) np
        refine after p _ ?_ (sp _ _ er) (sm.trans sp) (none_of sm np)
        rw [upd_same]
        show _ = some (HO.lst (sV (if 1 ≤ k then foundN k ++ rowN k else foundN k)))
        rw [if_pos h1, sV_app]
      · rw [decide_eq_false (show ¬ (1 : Int) ≤ (k : Int) by omega)]
        refine iteF (tNext_of ?_)
        refine after fo _ ?_ er sm nf
        show _ = some (HO.lst (sV (if 1 ≤ k then foundN k ++ rowN k else foundN k)))
        rw [if_neg h1]
        exact ef
    · rintro σ H1 ⟨fo, ro, x4, x5, x6, rfl, ef, er, sm, nf⟩
      exact ⟨_, rfl, q H1 fo sm nf ef⟩
end
end K08

/-! the law's own sources; its own questions -/
namespace K08
open PySem PySem.Spec PyProof.Rows L2
def hous : List Str := ["f.0", "m.0", "f.1", "m.1"]
def lsrc : List Str := foundN 4 ++ hous
def spHou : Sp := fun vs H Q _ => vs = [.int 2] ∧ ∀ (H' : Hp) (z : Addr), Same H H' → H z = none → H' z = some (.lst (sV hous)) → Q (.ref z) H'
def spLsr : Sp := fun vs H Q _ => vs = [.int 2] ∧ ∀ (H' : Hp) (z : Addr), Same H H' → H z = none → H' z = some (.lst (sV lsrc)) → Q (.ref z) H'
def spAsk (g : V → Bool) : Sp := fun vs H Q _ => ∃ (v : V) (t : String), vs = [v] ∧ Odd H v t ∧ ∀ H', Same H H' → Q (.bl (g v)) H'
theorem walk_rangeL (n : Nat) : Walk (Itr 0 n) ((List.range n).map fun i : Nat => V.int (i : Int)).length (fun _ => True) (YAt ((List.range n).map fun i : Nat => V.int (i : Int))) := by
  have w := walk_range (lo := 0) (n := n)
  have e : ((List.range n).map fun i : Nat => V.int (i : Int)).length = n := by rw [List.length_map, List.length_range]
  rw [e]
  refine ⟨w.goes, w.stops, fun i H x H' hi g y => ?_⟩
  obtain ⟨h1, h2⟩ := w.yields i H x H' hi g y
  refine ⟨h1, ?_⟩
  rw [List.getElem?_map, List.getElem?_range hi, h2]
  show some (V.int (i : Int)) = some (V.int (0 + (i : Int)))
  rw [Int.zero_add]
theorem range_at {n i : Nat} {v : V} (e : ((List.range n).map fun i : Nat => V.int (i : Int))[i]? = some v) : i < n ∧ v = .int (i : Int) := by
  have h := (List.getElem?_eq_some_iff.mp e).1
  rw [List.length_map, List.length_range] at h
  rw [List.getElem?_map, List.getElem?_range h] at e
  exact ⟨h, (Option.some.inj e).symm⟩
theorem mE_lst {ta : TA} (ha : MonoA ta) : MonoE (tLst ta) := fun _ _ _ _ h q => ha _ _ _ _ (fun _ _ ⟨l, q⟩ => ⟨l, fun p np => h _ _ (q p np)⟩) q
theorem in_strs (x : Str) : ∀ l : List Str, inV (.str x) (sV l) = decide (x ∈ l)
  | [] => rfl
  | y :: l => by
    show (eqV (.str y) (.str x) || inV (.str x) (sV l)) = _
    rw [in_strs x l]
    have e : eqV (.str y) (.str x) = decide (y = x) := by
      show (y == x) = _
      by_cases h : y = x
      · rw [h, decide_eq_true rfl]; exact beq_self_eq_true x
      · rw [decide_eq_false h]; exact beq_false_of_ne h
    rw [e]
    by_cases h : y = x
    · subst h
      rw [decide_eq_true rfl, Bool.true_or]
      exact (decide_eq_true List.mem_cons_self).symm
    · rw [decide_eq_false h, Bool.false_or]
      exact decide_eq_decide.mpr ⟨fun z => List.mem_cons_of_mem _ z, fun z => (List.mem_cons.mp z).elim (fun e => absurd e.symm h) id⟩
theorem src_same (x : Str) : inV (.str x) (sV lsrc) = srcV (.str x) := by
  have e : srcV (.str x) = inV (.str x) (sV srcs) := rfl
  rw [e, in_strs, in_strs]
  have h1 : (lsrc.all fun y => decide (y ∈ srcs)) = true := by decide +kernel
  have h2 : (srcs.all fun y => decide (y ∈ lsrc)) = true := by decide +kernel
  exact decide_eq_decide.mpr ⟨fun z => of_decide_eq_true (List.all_eq_true.mp h1 x z), fun z => of_decide_eq_true (List.all_eq_true.mp h2 x z)⟩
theorem way_same (x : Str) : inV (.str x) (sV (foundN 4)) = wayV (.str x) 1 3 := by
  rw [in_strs]
  have e : wayV (.str x) 1 3 = ((decide ((1 : Int) ≤ x.length) && decide ((x.length : Int) ≤ 3)) && x.cps.toList.all fmC) := rfl
  rw [e, Bool.eq_iff_iff, decide_eq_true_iff, Bool.and_eq_true_iff, Bool.and_eq_true_iff, decide_eq_true_iff, decide_eq_true_iff]
  constructor
  · intro h
    have z : ((foundN 4).all fun y => (decide ((1 : Int) ≤ y.length) && decide ((y.length : Int) ≤ 3)) && y.cps.toList.all fmC) = true := by decide +kernel
    have y := List.all_eq_true.mp z x h
    rw [Bool.and_eq_true_iff, Bool.and_eq_true_iff, decide_eq_true_iff, decide_eq_true_iff] at y
    exact y
  · rintro ⟨⟨h1, h2⟩, h3⟩
    obtain ⟨⟨l⟩⟩ := x
    have h1 : (1 : Int) ≤ (l.length : Nat) := h1
    have h2 : ((l.length : Nat) : Int) ≤ 3 := h2
    have h3 : l.all fmC = true := h3
    have two : ∀ c, fmC c = true → c = 102 ∨ c = 109 := fun c hc => of_decide_eq_true hc
    match l, h1, h2, h3 with
    | [a], _, _, h3 =>
      rcases two a (List.all_eq_true.mp h3 a List.mem_cons_self) with rfl | rfl <;> decide +kernel
    | [a, b], _, _, h3 =>
      rcases two a (List.all_eq_true.mp h3 a List.mem_cons_self) with rfl | rfl <;> rcases two b (List.all_eq_true.mp h3 b (by simp)) with rfl | rfl <;> decide +kernel
    | [a, b, c], _, _, h3 =>
      rcases two a (List.all_eq_true.mp h3 a List.mem_cons_self) with rfl | rfl <;> rcases two b (List.all_eq_true.mp h3 b (by simp)) with rfl | rfl <;> rcases two c (List.all_eq_true.mp h3 c (by simp)) with rfl | rfl <;> decide +kernel
    | [], h1, _, _ => exact absurd h1 (by decide)
    | _ :: _ :: _ :: _ :: _, _, h2, _ => 
      simp only [List.length_cons] at h2
      omega
section
variable {P : Program} {w : World} {K : PySem.W.Frag} {mg : Str → Option Value} {base : Heap}
theorem ok_isWay {f fW : Addr} {fd fdW : FuncData} (F : FnP K "_law_is_way" sIsWay f fd) (z_str : mg "str" = none) (z_isinstance : mg "isinstance" = none) (dW : Df P w K mg base "_law_ways" 1 ["_law_least", "_law_most"] spWays fW fdW) : FnOk P w K mg base CX0 2 f fd ["_law_thing_here"] (spAsk fun v => wayV v 1 3) := by
  have sc : FnScope ["_law_thing_here"] ["_law_thing_here"] (defScope sIsWay) := ⟨rfl, rfl, rfl, by decide +kernel, rfl, by decide +kernel, by decide +kernel⟩
  refine F.ok sc (fun vs H Q E h => ?_) (fun cdv A outer s H vs Q E hr1 h => ?_)
  · obtain ⟨v, t, rfl, _⟩ := h
    rfl
  · obtain ⟨v, t, rfl, o, q⟩ := h
    refine ⟨_, PSs.nox (pss_one (ps_ret (pe_and (pe_callB call_isi (by rfl) z_isinstance (by decide +kernel) (pa_cons (pv 0) (pa_cons (pe_bltn (by rfl) z_str (by decide +kernel) (v := .ty "str") rfl) pa_nil))) (pe_one (pe_cmpR op_in_seq (pv 0) (pe_call dW.ok hr1 (by rfl) dW.gl dW.kp dW.bi .nil pass0 (pa_cons pe_int (pa_cons pe_int pa_nil))) (by rfl)))))), ?_⟩
    have ty := o.ty (K := K)
    cases o with
    | str x hx hs =>
      refine ⟨_, rfl, _, _, _, _, true, rfl, .ty _, ty, kit_ty (by decide +kernel), _, rfl, iteT ⟨_, rfl, rfl, fun H1 z s1 _ ez => ⟨z, _, rfl, .inl (SqL.of ez), rfl, flat_strs _, ?_⟩⟩⟩
      show Q (.bl (inV (.str x) (sV (foundN 4)))) H1
      rw [way_same]
      exact q H1 s1
    | _ => exact ⟨_, rfl, _, _, _, _, false, rfl, .ty _, ty, kit_ty (by decide +kernel), _, rfl, iteF (q H (Same.refl _))⟩
theorem ok_isSrc {f fS : Addr} {fd fdS : FuncData} (F : FnP K "_law_is_source" sIsSource f fd) (z_str : mg "str" = none) (z_isinstance : mg "isinstance" = none) (dS : Df P w K mg base "_law_sources" 2 ["_law_width"] spLsr fS fdS) : FnOk P w K mg base CX0 3 f fd ["_law_thing_here"] (spAsk srcV) := by
  have sc : FnScope ["_law_thing_here"] ["_law_thing_here"] (defScope sIsSource) := ⟨rfl, rfl, rfl, by decide +kernel, rfl, by decide +kernel, by decide +kernel⟩
  refine F.ok sc (fun vs H Q E h => ?_) (fun cdv A outer s H vs Q E hr2 h => ?_)
  · obtain ⟨v, t, rfl, _⟩ := h
    rfl
  · obtain ⟨v, t, rfl, o, q⟩ := h
    refine ⟨_, PSs.nox (pss_one (ps_ret (pe_and (pe_callB call_isi (by rfl) z_isinstance (by decide +kernel) (pa_cons (pv 0) (pa_cons (pe_bltn (by rfl) z_str (by decide +kernel) (v := .ty "str") rfl) pa_nil))) (pe_one (pe_cmpR op_in_seq (pv 0) (pe_call dS.ok hr2 (by rfl) dS.gl dS.kp dS.bi .nil pass0 (pa_cons pe_int pa_nil)) (by rfl)))))), ?_⟩
    have ty := o.ty (K := K)
    cases o with
    | str x hx hs =>
      refine ⟨_, rfl, _, _, _, _, true, rfl, .ty _, ty, kit_ty (by decide +kernel), _, rfl, iteT ⟨_, rfl, rfl, fun H1 z s1 _ ez => ⟨z, _, rfl, .inl (SqL.of ez), rfl, flat_strs _, ?_⟩⟩⟩
      show Q (.bl (inV (.str x) (sV lsrc))) H1
      rw [src_same]
      exact q H1 s1
    | _ => exact ⟨_, rfl, _, _, _, _, false, rfl, .ty _, ty, kit_ty (by decide +kernel), _, rfl, iteF (q H (Same.refl _))⟩
theorem ok_lsr {f fW fH : Addr} {fd fdW fdH : FuncData} (F : FnP K "_law_sources" sSources f fd) (dW : Df P w K mg base "_law_ways" 1 ["_law_least", "_law_most"] spWays fW fdW) (dH : Df P w K mg base "_law_houses" 1 ["_law_width"] spHou fH fdH) : FnOk P w K mg base CX0 2 f fd ["_law_width"] spLsr := by
  have sc : FnScope ["_law_width"] ["_law_width"] (defScope sSources) := ⟨rfl, rfl, rfl, by decide +kernel, rfl, by decide +kernel, by decide +kernel⟩
  refine F.ok sc (fun vs H Q E h => ?_) (fun cdv A outer s H vs Q E hr1 h => ?_)
  · obtain ⟨rfl, _⟩ := h
    rfl
  · obtain ⟨rfl, q⟩ := h
    refine ⟨_, PSs.nox (pss_one (ps_ret (pe_op op_cat (pe_call dW.ok hr1 (by rfl) dW.gl dW.kp dW.bi .nil pass0 (pa_cons pe_int (pa_cons pe_int pa_nil))) (pe_call dH.ok hr1 (by rfl) dH.gl dH.kp dH.bi .nil pass0 (pa_cons (pv 0) pa_nil))))), ?_⟩
    refine ⟨rfl, fun H1 a s1 _ ea => ⟨_, rfl, rfl, fun H2 b s2 _ eb => ⟨a, b, _, _, rfl, rfl, s2 _ _ ea, eb, (by decide +kernel), fun z nz => ?_⟩⟩⟩
    exact q _ z ((s1.trans s2).trans (same_upd nz)) (none_of (s1.trans s2) nz) upd_same
theorem ok_hou {f : Addr} {fd : FuncData} (F : FnP K "_law_houses" sHouses f fd) (z_range : mg "range" = none) : FnOk P w K mg base CX0 1 f fd ["_law_width"] spHou := by
  have sc : FnScope ["_law_width", "_law_k"] ["_law_width"] (defScope sHouses) := ⟨rfl, rfl, rfl, by decide +kernel, rfl, by decide +kernel, by decide +kernel⟩
  refine F.ok sc (fun vs H Q E h => ?_) (fun cdv A outer s H vs Q E hr h => ?_)
  · obtain ⟨rfl, _⟩ := h
    rfl
  · obtain ⟨rfl, q⟩ := h
    refine ⟨_, PSs.nox (pss_one (ps_ret (pe_lc (own := [("_law_k", 1)]) (g := gName 1) (tt := tYes) (te := tOp (rIxL K) (tLst (tCons (tC (.str "f.0")) (tCons (tC (.str "m.0")) (tCons (tC (.str "f.1")) (tCons (tC (.str "m.1")) tNil))))) (tVar 1)) rfl sc.nd (pi_range1 (by rfl) z_range (pa_cons (pe_op op_mul pe_int (pv 0)) pa_nil)) (blkOk_by (N := ["_law_width", "_law_k"]) (sc := defScope sHouses) (by decide +kernel)) (fun _ _ _ _ _ => pg_name (i := 1) sc.nd rfl (Or.inl rfl)) (fun _ _ _ _ _ => pts_nil) (fun _ _ _ _ _ => (pe_ix ix_list (pe_lst (pa_cons pe_str (pa_cons pe_str (pa_cons pe_str (pa_cons pe_str pa_nil))))) (pv 1) (fun _ _ => rfl)))))), ?_⟩
    refine ⟨_, rfl, _, _, rfl, rfl, .inl (by decide), 4, rfl, by decide, by decide, fun D nD => lc_N (walk_rangeL 4) (fun i acc _ => acc = sV (hous.take i)) (⟨fun _ _ _ _ _ r _ _ => r, fun i acc _ r => by rw [r, List.length_map]; exact List.length_take_le _ _⟩) nD (by rw [List.length_map, List.length_range]; decide) rfl (fun _ _ => trivial) (fun _ => rfl) ?_ mT_yes (mE_op mR_ixL (mE_lst (mA_cons mE_c (mA_cons mE_c (mA_cons mE_c (mA_cons mE_c mA_nil))))) mE_var) ?_⟩
    · rintro i v acc H' ev s' eD rfl
      obtain ⟨hi, rfl⟩ := range_at ev
      have eh : hous[i]? = some (hous[i]'hi) := List.getElem?_eq_getElem hi
      refine ⟨Same.refl _, iteT ⟨(by show 4 ≤ sizeLine; decide), fun t nt => ⟨_, rfl, t, _, _, _, rfl, rfl, SqL.of upd_same, atI_nat (v := .str (hous[i]'hi)) ?_, same_upd nt, ?_⟩⟩⟩
      · show (sV hous)[i]? = _
        rw [List.getElem?_map, eh]
        rfl
      · rw [take_snoc' eh, sV_app]
        rfl
    rintro H1 acc s1 eD rfl
    exact q H1 D s1 nD eD
end
end K08

/-! odd things are drawn -/
namespace K08
open PySem PySem.Spec PyProof.Rows L2
def Kept (p : Addr) (H H' : Hp) : Prop := ∀ b o, b ≠ p → H b = some o → H' b = some o
theorem Kept.upd {p : Addr} {H : Hp} {o : HO} : Kept p H (upd H p o) := fun b u n e => by
  rw [upd_ne n]
  exact e
theorem Kept.refl {p : Addr} {H : Hp} : Kept p H H := fun b u n e => e
theorem Kept.trans {p : Addr} {H H1 H2 : Hp} (a : Kept p H H1) (b : Kept p H1 H2) : Kept p H H2 := fun c o n e => b c o n (a c o n e)
theorem Kept.same {p : Addr} {H H1 : Hp} (a : Same H H1) : Kept p H H1 := fun c o _ e => a c o e
theorem Kept.seq {p : Addr} {H H1 : Hp} {K : PySem.W.Frag} {a : Addr} {xs : List V} (k : Kept p H H1) (n : a ≠ p) (h : SqL K H a xs) : SqL K H1 a xs := by
  rcases h with (h | ⟨o, h⟩) | h
  · exact .inl (.inl (k _ _ n h))
  · exact .inl (.inr ⟨o, k _ _ n h⟩)
  · exact .inr h
theorem hand_apart {H : Hp} {p l : Addr} {cells : List Int} {i r t : Int} (h : HandAt H p l cells i r t) : l ≠ p := fun z => by
  have h1 := h.1
  have h2 := h.2.1
  rw [z, h1] at h2
  have h3 := Option.some.inj h2
  injection h3 with h4
  have h5 := congrArg List.head? h4
  cases cells with
  | nil => cases h5
  | cons c cs => cases h5
theorem hand_upd {H : Hp} {p l : Addr} {cells : List Int} {i r t i' r' t' : Int} (h : HandAt H p l cells i r t) (o : HandOk cells i' r' t') : HandAt (upd H p (handO l i' r' t')) p l cells i' r' t' := by
  refine ⟨upd_same, ?_, o⟩
  rw [upd_ne (hand_apart h)]
  exact h.2.1
theorem hand_same {H H' : Hp} {p l : Addr} {cells : List Int} {i r t : Int} (h : HandAt H p l cells i r t) (s : Same H H') : HandAt H' p l cells i r t := ⟨s _ _ h.1, s _ _ h.2.1, h.2.2⟩
theorem callR_or {X : Cx} {f : Value} {r1 r2 : List V → Hp → VK → Prop} (h1 : CallR X f r1) (h2 : CallR X f r2) : CallR X f (fun xs H Q => r1 xs H Q ∨ r2 xs H Q) := fun pins s σ H xs us Q I rv h => h.elim (h1 pins s σ H xs us Q I rv) (h2 pins s σ H xs us Q I rv)
/-- a list's item, or a text's sign -/
def spPick (K : PySem.W.Frag) : Sp := fun vs H Q _ => ∃ (p l : Addr) (cells : List Int) (i r t : Int), HandAt H p l cells i r t ∧
  ((∃ (a : Addr) (xs : List V), vs = [.ref p, .ref a] ∧ SqL K H a xs ∧ a ≠ p ∧ 0 < xs.length ∧ xs.length ≤ 1000 ∧ ∀ (v : V) (i' r' t' : Int), v ∈ xs → HandOk cells i' r' t' → Q v (upd H p (handO l i' r' t'))) ∨
   (∃ z : Str, vs = [.ref p, .str z] ∧ 0 < z.length ∧ z.length ≤ 1000 ∧ ∀ (c : Nat) (i' r' t' : Int), c ∈ z.cps.toList → HandOk cells i' r' t' → Q (.str ⟨#[c]⟩) (upd H p (handO l i' r' t'))))
section
variable {P : Program} {w : World} {K : PySem.W.Frag} {mg : Str → Option Value} {base : Heap}
theorem scPick : FnScope ["_law_hand_here", "_law_things"] ["_law_hand_here", "_law_things"] (defScope sPick) := ⟨rfl, rfl, rfl, by decide +kernel, rfl, by decide +kernel, by decide +kernel⟩
theorem ok_pick {f fD : Addr} {fd fdD : FuncData} (F : FnP K "_law_pick" sPick f fd) (zl : mg "len" = none) (dD : Df P w K mg base "_law_draw" 2 ["_law_hand_here", "_law_many"] spDraw fD fdD) : FnOk P w K mg base CX0 3 f fd ["_law_hand_here", "_law_things"] (spPick K) := by
  refine F.ok scPick (fun vs H Q E h => ?_) (fun cdv A outer s H vs Q E hr h => ?_)
  · obtain ⟨p, l, cells, i, r, t, hh, (⟨a, xs, rfl, _⟩ | ⟨z, rfl, _⟩)⟩ := h <;> rfl
  · obtain ⟨p, l, cells, i, r, t, hh, h⟩ := h
    refine ⟨_, PSs.nox (pss_one (ps_ret (pe_ix ix_seq (pv 1) (pe_call dD.ok hr (by rfl) dD.gl dD.kp dD.bi .nil pass0 (pa_cons (pv 0) (pa_cons (pe_callB (callR_or call_len_seq call_len_str) (by rfl) zl boot_len (pa_cons (pv 1) pa_nil)) pa_nil))) (fun _ _ => rfl)))), ?_⟩
    rcases h with ⟨a, xs, rfl, hS, nap, h0, h1, q⟩ | ⟨z, rfl, h0, h1, q⟩
    · refine ⟨_, rfl, _, rfl, _, rfl, .inl ⟨_, _, rfl, .inl hS, p, l, cells, i, r, t, _, rfl, hh, by omega, ?_, fun d i' r' t' d0 d1 ok' => ?_⟩⟩
      · have e : ((xs.length : Int)).natAbs = xs.length := by omega
        rw [e]
        exact Nat.lt_of_le_of_lt h1 (Nat.lt_of_lt_of_le (m := 2 ^ 20) (by decide) (Nat.pow_le_pow_right (by decide) (by decide)))
      · have hd : d.toNat < xs.length := by omega
        have hget : atI xs d = some xs[d.toNat] := by
          have z := atI_nat (xs := xs) (j := d.toNat) (v := xs[d.toNat]) (List.getElem?_eq_getElem hd)
          rw [Int.toNat_of_nonneg d0] at z
          exact z
        exact .inl ⟨_, _, _, _, rfl, rfl, Kept.upd.seq nap hS, hget, q _ i' r' t' (List.getElem_mem hd) ok'⟩
    · refine ⟨_, rfl, _, rfl, _, rfl, .inr ⟨z, rfl, Nat.le_trans h1 (by decide), p, l, cells, i, r, t, _, rfl, hh, by omega, ?_, fun d i' r' t' d0 d1 ok' => ?_⟩⟩
      · have e : ((z.length : Int)).natAbs = z.length := by omega
        rw [e]
        exact Nat.lt_of_le_of_lt h1 (Nat.lt_of_lt_of_le (m := 2 ^ 20) (by decide) (Nat.pow_le_pow_right (by decide) (by decide)))
      · have hl : z.cps.toList.length = z.length := Array.length_toList
        have hd : d.toNat < z.cps.toList.length := by omega
        have hget : atI z.cps.toList d = some (z.cps.toList[d.toNat]) := by
          have y := atI_nat (xs := z.cps.toList) (j := d.toNat) (v := z.cps.toList[d.toNat]) (List.getElem?_eq_getElem hd)
          rw [Int.toNat_of_nonneg d0] at y
          exact y
        exact .inr (.inr ⟨z, d, _, rfl, rfl, Nat.le_trans h1 (by decide), hget, q _ i' r' t' (List.getElem_mem hd) ok'⟩)
def layS (x : Str) : Prop := (PyData.str x).canLay0 = true
theorem lay_app {x : Str} {c : Nat} (h : layS x) (hc : c < 0x110000) : layS (x ++ ⟨#[c]⟩) := by
  have h1 : x.cps.all (fun c => decide (c < 0x110000)) = true := h
  show (x.cps ++ #[c]).all (fun c => decide (c < 0x110000)) = true
  rw [← Array.all_toList] at h1 ⊢
  rw [Array.toList_append, List.all_append, h1, Bool.true_and]
  show (List.all [c] _) = true
  rw [List.all_cons, decide_eq_true hc]
  rfl
theorem len_app {x : Str} {c : Nat} : (x ++ (⟨#[c]⟩ : Str)).length = x.length + 1 := by
  show (x.cps ++ #[c]).size = x.cps.size + 1
  rw [Array.size_append]
  rfl
theorem small2 {m : Int} (h : m.natAbs < 2 ^ 200) : m.natAbs < 2 ^ 8000 := Nat.lt_of_lt_of_le h (Nat.pow_le_pow_right (by decide) (by decide))
end
end K08

/-! things as data; the hand; written things -/
namespace K08
open PySem PySem.Spec PyProof.Rows L2
mutual
/-- d stands at v, all its objects are in S -/
inductive Dt (S : Addr → Prop) (H : Hp) : V → PyData → Prop
  | non : Dt S H .non .none
  | bl (b : Bool) : Dt S H (.bl b) (.bool b)
  | int (i : Int) : Dt S H (.int i) (.int i)
  | str (x : Str) (hx : x.length ≤ 1000) (hs : (PyData.str x).canLay0 = true) : Dt S H (.str x) (.str x)
  | lst {a : Addr} {xs : List V} {ds : List PyData} : S a → H a = some (.lst xs) → DtAll S H xs ds → Dt S H (.ref a) (.list ds)
  | tup {a : Addr} {xs : List V} {ds : List PyData} : S a → H a = some (.tup xs) → DtAll S H xs ds → Dt S H (.ref a) (.tuple ds)
inductive DtAll (S : Addr → Prop) (H : Hp) : List V → List PyData → Prop
  | nil : DtAll S H [] []
  | cons {v : V} {vs : List V} {d : PyData} {ds : List PyData} : Dt S H v d → DtAll S H vs ds → DtAll S H (v :: vs) (d :: ds)
end
section
variable {S S' : Addr → Prop} {H H' : Hp} {K : PySem.W.Frag}
mutual
theorem Dt.dp {v : V} {d : PyData} (h : Dt S H v d) : Dp K H v d := by
  cases h with
  | non => exact .non
  | bl b => exact .bl b
  | int i => exact .int i
  | str x _ _ => exact .str x
  | lst _ e r => exact .lst (SqL.of e) r.dp
  | tup _ e r => exact .tup (SqT.of e) r.dp
theorem DtAll.dp {vs : List V} {ds : List PyData} (h : DtAll S H vs ds) : DpAll K H vs ds := by
  cases h with
  | nil => exact .nil
  | cons a b => exact .cons a.dp b.dp
end
mutual
/-- carried to another heap -/
theorem Dt.to {v : V} {d : PyData} (h : Dt S H v d) (hS : ∀ a, S a → S' a) (k : ∀ a o, S a → H a = some o → H' a = some o) : Dt S' H' v d := by
  cases h with
  | non => exact .non
  | bl b => exact .bl b
  | int i => exact .int i
  | str x h1 h2 => exact .str x h1 h2
  | lst s e r => exact .lst (hS _ s) (k _ _ s e) (r.to hS k)
  | tup s e r => exact .tup (hS _ s) (k _ _ s e) (r.to hS k)
theorem DtAll.to {vs : List V} {ds : List PyData} (h : DtAll S H vs ds) (hS : ∀ a, S a → S' a) (k : ∀ a o, S a → H a = some o → H' a = some o) : DtAll S' H' vs ds := by
  cases h with
  | nil => exact .nil
  | cons a b => exact .cons (a.to hS k) (b.to hS k)
end
theorem Dt.same {v : V} {d : PyData} (h : Dt S H v d) (s : Same H H') : Dt S H' v d := h.to (fun _ z => z) fun a o _ e => s _ _ e
theorem DtAll.same {vs : List V} {ds : List PyData} (h : DtAll S H vs ds) (s : Same H H') : DtAll S H' vs ds := h.to (fun _ z => z) fun a o _ e => s _ _ e
abbrev Any : Addr → Prop := fun _ => True
theorem Dt.any {v : V} {d : PyData} (h : Dt S H v d) : Dt Any H v d := h.to (fun _ _ => trivial) fun _ _ _ e => e
theorem DtAll.any {vs : List V} {ds : List PyData} (h : DtAll S H vs ds) : DtAll Any H vs ds := h.to (fun _ _ => trivial) fun _ _ _ e => e
/-- another place than p, changed -/
theorem Dt.kept {v : V} {d : PyData} {p : Addr} (h : Dt S H v d) (np : ¬ S p) (k : Kept p H H') : Dt S H' v d := h.to (fun _ z => z) fun a o s e => k _ _ (fun z => np (z ▸ s)) e
theorem DtAll.kept {vs : List V} {ds : List PyData} {p : Addr} (h : DtAll S H vs ds) (np : ¬ S p) (k : Kept p H H') : DtAll S H' vs ds := h.to (fun _ z => z) fun a o s e => k _ _ (fun z => np (z ▸ s)) e
theorem DtAll.len {vs : List V} {ds : List PyData} (h : DtAll S H vs ds) : vs.length = ds.length := by
  induction ds generalizing vs with
  | nil => cases h; rfl
  | cons d ds ih => cases h with | cons a b => exact congrArg Nat.succ (ih b)
theorem DtAll.get {vs : List V} {ds : List PyData} (h : DtAll S H vs ds) {i : Nat} {v : V} (e : vs[i]? = some v) : ∃ d, ds[i]? = some d ∧ Dt S H v d := by
  induction ds generalizing vs i with
  | nil => cases h; cases e
  | cons d ds ih =>
    cases h with
    | cons a b =>
      cases i with
      | zero => cases e; exact ⟨d, rfl, a⟩
      | succ i => exact ih b e
theorem DtAll.app {vs us : List V} {ds es : List PyData} (h : DtAll S H vs ds) (g : DtAll S H us es) : DtAll S H (vs ++ us) (ds ++ es) := by
  induction ds generalizing vs with
  | nil => cases h; exact g
  | cons d ds ih => cases h with | cons a b => exact .cons a (ih b)
theorem DtAll.take {vs : List V} {ds : List PyData} (h : DtAll S H vs ds) (n : Nat) : DtAll S H (vs.take n) (ds.take n) := by
  induction ds generalizing vs n with
  | nil => cases h; cases n <;> exact .nil
  | cons d ds ih =>
    cases h with
    | cons a b =>
      cases n with
      | zero => exact .nil
      | succ n => exact .cons a (ih b n)
theorem DtAll.drop {vs : List V} {ds : List PyData} (h : DtAll S H vs ds) (n : Nat) : DtAll S H (vs.drop n) (ds.drop n) := by
  induction ds generalizing vs n with
  | nil => cases h; cases n <;> exact .nil
  | cons d ds ih =>
    cases h with
    | cons a b =>
      cases n with
      | zero => exact .cons a b
      | succ n => exact ih b n
def tyD : PyData → String
  | .none => "NoneType"
  | .bool _ => "bool"
  | .int _ => "int"
  | .str _ => "str"
  | .list _ => "list"
  | .tuple _ => "tuple"
  | .dict _ => "dict"
theorem Dt.odd {v : V} {d : PyData} (h : Dt S H v d) : Odd H v (tyD d) := by
  cases h with
  | non => exact .non
  | bl b => exact .bl b
  | int i => exact .int i
  | str x h1 h2 => exact .str x h1 h2
  | lst _ e r => exact .lst e
  | tup _ e r => exact .tup e
end
section
variable {S : Addr → Prop} {H : Hp}
mutual
theorem Dt.lay {v : V} {d : PyData} (h : Dt S H v d) : d.canLay0 = true := by
  cases h with
  | non => rfl
  | bl b => rfl
  | int i => rfl
  | str x h1 h2 => exact h2
  | lst s e r => exact r.lay
  | tup s e r => exact r.lay
theorem DtAll.lay {vs : List V} {ds : List PyData} (h : DtAll S H vs ds) : PyData.canLayAll0 ds = true := by
  cases h with
  | nil => rfl
  | cons a b => exact Bool.and_eq_true_iff.mpr ⟨a.lay, b.lay⟩
end
end
theorem shaped_of {d : PyData} (h : d.canLay0 = true) (k : d.depth ≤ 64) : SeqAt.shaped d = true := Bool.and_eq_true_iff.mpr ⟨h, decide_eq_true k⟩
/-- the hand stands at p -/
def Hand (p l : Addr) (H : Hp) : Prop := ∃ (cells : List Int) (i r t : Int), HandAt H p l cells i r t
theorem Hand.same {p l : Addr} {H H' : Hp} (h : Hand p l H) (s : Same H H') : Hand p l H' := by
  obtain ⟨cells, i, r, t, h⟩ := h
  exact ⟨cells, i, r, t, hand_same h s⟩
theorem Hand.at_ {p l : Addr} {H : Hp} (h : Hand p l H) : ∃ xs, H p = some (.lst xs) := by
  obtain ⟨cells, i, r, t, h⟩ := h
  exact ⟨_, h.1⟩
theorem Hand.nn {p l : Addr} {H : Hp} (h : Hand p l H) {a : Addr} (n : H a = none) : a ≠ p := fun z => by
  obtain ⟨xs, e⟩ := h.at_
  rw [z, e] at n
  cases n
theorem Hand.app {p l a : Addr} {H : Hp} {o : HO} (h : Hand p l H) (n1 : a ≠ p) (n2 : a ≠ l) : Hand p l (upd H a o) := by
  obtain ⟨cells, i, r, t, h⟩ := h
  exact ⟨cells, i, r, t, (upd_ne (Ne.symm n1)).trans h.1, (upd_ne (Ne.symm n2)).trans h.2.1, h.2.2⟩
theorem Hand.nl {p l : Addr} {H : Hp} (h : Hand p l H) {a : Addr} (n : H a = none) : a ≠ l := fun z => by
  obtain ⟨cells, i, r, t, h⟩ := h
  rw [z, h.2.1] at n
  cases n
theorem Hand.back {p l : Addr} {H H' : Hp} (h : Hand p l H') (k : Kept p H H') {a : Addr} (n : H' a = none) : H a = none := by
  cases e : H a with
  | none => rfl
  | some o =>
    have z := k _ _ (h.nn n) e
    rw [n] at z
    cases z
abbrev New (H : Hp) : Addr → Prop := fun a => H a = none
theorem Dt.newer {H H1 H' : Hp} {v : V} {d : PyData} {p l : Addr} (h : Dt (New H1) H' v d) (hp : Hand p l H1) (k : Kept p H H1) : Dt (New H) H' v d := h.to (fun a n => hp.back k n) fun _ _ _ e => e
theorem Dt.new_kept {H H1 H' : Hp} {v : V} {d : PyData} {p l : Addr} (h : Dt (New H) H1 v d) (hp : Hand p l H) (k : Kept p H1 H') : Dt (New H) H' v d := h.kept (fun n => (hp.nn n) rfl) k
theorem DtAll.newer {H H1 H' : Hp} {v : List V} {d : List PyData} {p l : Addr} (h : DtAll (New H1) H' v d) (hp : Hand p l H1) (k : Kept p H H1) : DtAll (New H) H' v d := h.to (fun a n => hp.back k n) fun _ _ _ e => e
theorem DtAll.new_kept {H H1 H' : Hp} {v : List V} {d : List PyData} {p l : Addr} (h : DtAll (New H) H1 v d) (hp : Hand p l H) (k : Kept p H1 H') : DtAll (New H) H' v d := h.kept (fun n => (hp.nn n) rfl) k
def spDr : Sp := fun vs H Q _ => ∃ (p l : Addr) (m : Int), vs = [.ref p, .int m] ∧ Hand p l H ∧ 0 < m ∧ m.natAbs < 2 ^ 200 ∧ ∀ (d : Int) (H' : Hp), 0 ≤ d → d < m → Kept p H H' → Hand p l H' → Q (.int d) H'
def spPk : Sp := fun vs H Q _ => ∃ (p l a : Addr) (xs : List V), vs = [.ref p, .ref a] ∧ Hand p l H ∧ H a = some (.lst xs) ∧ a ≠ p ∧ 0 < xs.length ∧ xs.length ≤ 1000 ∧ ∀ (v : V) (H' : Hp), v ∈ xs → Kept p H H' → Hand p l H' → Q v H'
section
variable {P : Program} {w : World} {K : PySem.W.Frag} {mg : Str → Option Value} {base : Heap}
theorem Df.draw {f : Addr} {fd : FuncData} (d : Df P w K mg base "_law_draw" 2 ["_law_hand_here", "_law_many"] spDraw f fd) : Df P w K mg base "_law_draw" 2 ["_law_hand_here", "_law_many"] spDr f fd :=
  ⟨d.gl, d.ok.imp fun vs H Q E ⟨p, l, m, e, ⟨cells, i, r, t, h⟩, h0, h1, q⟩ => ⟨p, l, cells, i, r, t, m, e, h, h0, small2 h1, fun d i' r' t' d0 d1 ok => q _ _ d0 d1 Kept.upd ⟨cells, i', r', t', hand_upd h ok⟩⟩, d.bi, d.kp⟩
theorem Df.pick {f : Addr} {fd : FuncData} (d : Df P w K mg base "_law_pick" 3 ["_law_hand_here", "_law_things"] (spPick K) f fd) : Df P w K mg base "_law_pick" 3 ["_law_hand_here", "_law_things"] spPk f fd :=
  ⟨d.gl, d.ok.imp fun vs H Q E ⟨p, l, a, xs, e, ⟨cells, i, r, t, h⟩, ha, nap, h0, h1, q⟩ => ⟨p, l, cells, i, r, t, h, .inl ⟨a, xs, e, SqL.of ha, nap, h0, h1, fun v i' r' t' hv ok => q _ _ hv Kept.upd ⟨cells, i', r', t', hand_upd h ok⟩⟩⟩, d.bi, d.kp⟩
end
/-! ### written things -/
def DtE (t : TE) (d : PyData) : Prop := ∀ (σ : L2.St) (H : Hp) (Q : VK), (∀ v H', Same H H' → Dt (New H) H' v d → Q v H') → t σ H Q
def DtA (t : TA) (ds : List PyData) : Prop := ∀ (σ : L2.St) (H : Hp) (Q : List V → Hp → Prop), (∀ vs H', Same H H' → DtAll (New H) H' vs ds → Q vs H') → t σ H Q
theorem deN : DtE (tC .non) .none := fun σ H Q q => q _ _ (Same.refl _) .non
theorem deB {b : Bool} : DtE (tC (.bl b)) (.bool b) := fun σ H Q q => q _ _ (Same.refl _) (.bl b)
theorem deI {i : Int} : DtE (tC (.int i)) (.int i) := fun σ H Q q => q _ _ (Same.refl _) (.int i)
def okS (x : Str) : Bool := decide (x.length ≤ 1000) && (PyData.str x).canLay0
theorem okS_dt {S : Addr → Prop} {H : Hp} {x : Str} (h : okS x = true) : Dt S H (.str x) (.str x) := by
  obtain ⟨a, b⟩ := Bool.and_eq_true_iff.mp h
  exact .str x (of_decide_eq_true a) b
theorem deS {x : Str} (h : okS x = true) : DtE (tC (.str x)) (.str x) := fun σ H Q q => q _ _ (Same.refl _) (okS_dt h)
theorem deU {i : Int} : DtE (tUn (rU fun i => .int (-i)) (tC (.int i))) (.int (-i)) := fun σ H Q q => ⟨i, rfl, q _ _ (Same.refl _) (.int _)⟩
theorem deP {i j : Int} (h : 0 ≤ j ∧ j ≤ 1000000 ∧ i.natAbs < 2 ^ 64) : DtE (tOp (rI CPow fun i j => .int (i ^ j.toNat)) (tC (.int i)) (tC (.int j))) (.int (i ^ j.toNat)) := fun σ H Q q => ⟨_, _, rfl, rfl, h, q _ _ (Same.refl _) (.int _)⟩
theorem dePA {i j k : Int} (h : 0 ≤ j ∧ j ≤ 1000000 ∧ i.natAbs < 2 ^ 64) : DtE (tOp (rI0 fun i j => .int (i + j)) (tOp (rI CPow fun i j => .int (i ^ j.toNat)) (tC (.int i)) (tC (.int j))) (tC (.int k))) (.int (i ^ j.toNat + k)) := fun σ H Q q => ⟨_, _, rfl, rfl, h, _, _, rfl, rfl, q _ _ (Same.refl _) (.int _)⟩
theorem daN : DtA tNil [] := fun σ H Q q => q [] H (Same.refl _) .nil
theorem Dt.from {H H1 H2 : Hp} {v : V} {d : PyData} (h : Dt (New H1) H2 v d) (s : Same H H1) : Dt (New H) H2 v d := h.to (fun a n => none_of s n) fun _ _ _ e => e
theorem DtAll.from {H H1 H2 : Hp} {v : List V} {d : List PyData} (h : DtAll (New H1) H2 v d) (s : Same H H1) : DtAll (New H) H2 v d := h.to (fun a n => none_of s n) fun _ _ _ e => e
theorem daK {t : TE} {d : PyData} {ta : TA} {ds : List PyData} (h : DtE t d) (r : DtA ta ds) : DtA (tCons t ta) (d :: ds) := fun σ H Q q => h σ H _ fun v H1 s1 h1 => r σ H1 _ fun vs H2 s2 h2 => q _ _ (s1.trans s2) (.cons (h1.same s2) (h2.from s1))
theorem deL {t : TA} {ds : List PyData} (h : DtA t ds) (hl : ds.length ≤ 1000) : DtE (tLst t) (.list ds) := fun σ H Q q => h σ H _ fun vs H1 s1 h1 => ⟨by rw [h1.len]; exact Nat.le_trans hl (by decide), fun p np => q _ _ (s1.trans (same_upd np)) (.lst (none_of s1 np) upd_same (h1.same (same_upd np)))⟩
theorem deT {t : TA} {ds : List PyData} (h : DtA t ds) (hl : ds.length ≤ 1000) : DtE (tTup t) (.tuple ds) := fun σ H Q q => h σ H _ fun vs H1 s1 h1 => ⟨by rw [h1.len]; exact Nat.le_trans hl (by decide), fun p np => q _ _ (s1.trans (same_upd np)) (.tup (none_of s1 np) upd_same (h1.same (same_upd np)))⟩
theorem DtAll.mem {S : Addr → Prop} {H : Hp} {vs : List V} {ds : List PyData} (h : DtAll S H vs ds) {v : V} (hv : v ∈ vs) : ∃ d ∈ ds, Dt S H v d := by
  obtain ⟨i, hi, e⟩ := List.mem_iff_getElem.mp hv
  obtain ⟨d, ed, hd⟩ := h.get (i := i) (v := v) (by rw [List.getElem?_eq_getElem hi, e])
  exact ⟨d, List.mem_of_getElem? ed, hd⟩
/-- one of a written list is picked -/
theorem pick_menu {j : Nat} {p l : Addr} {tl : TE} {ds : List PyData} {σ : L2.St} {H : Hp} {Q : VK} (e : σ[j]? = some (some (.ref p))) (hp : Hand p l H) (hl : DtE tl (.list ds)) (h0 : 0 < ds.length) (h1 : ds.length ≤ 1000)
    (q : ∀ v d H', d ∈ ds → Dt (New H) H' v d → Kept p H H' → Hand p l H' → Q v H') : tCall spPk [] E0 (tCons (tVar j) (tCons tl tNil)) σ H Q := by
  refine ⟨_, e, hl σ H _ fun v H1 s1 hd => ?_⟩
  cases hd with
  | @lst a xs _ na ea hx =>
    have el := hx.len
    refine ⟨p, l, a, xs, rfl, hp.same s1, ea, hp.nn na, by omega, by omega, fun v H2 hv k h2 => ?_⟩
    obtain ⟨d, hd, hvd⟩ := hx.mem hv
    exact q v d H2 hd (hvd.new_kept hp k) ((Kept.same s1).trans k) h2
end K08

/-! things, right and wrong ones -/
namespace K08
open PySem PySem.Spec PyProof.Rows L2
def thgD : List PyData := [.str "", .str "ffff", .str "fx", .str "f.2", .str "f.", .str "m.00", .str "s", .str "F", .none, .bool true, .int 7, .str "living", .list [.str "f"], .str "mmmm", .str "f.0"]
def spThg : Sp := fun vs H Q _ => ∃ (p l a : Addr) (l0 : List Str), vs = [.ref p, .ref a] ∧ Hand p l H ∧ H a = some (.lst (sV l0)) ∧ a ≠ p ∧ 0 < l0.length ∧ l0.length ≤ 1000 ∧ (∀ y ∈ l0, okS y = true) ∧
  ∀ (H' : Hp) (v : V) (d : PyData), Kept p H H' → Hand p l H' → Dt (New H) H' v d → d ∈ l0.map PyData.str ++ thgD → Q v H'
section
variable {P : Program} {w : World} {K : PySem.W.Frag} {mg : Str → Option Value} {base : Heap}
theorem ok_thg {f fD fP : Addr} {fd fdD fdP : FuncData} (F : FnP K "_law_thing" sThing f fd) (dD : Df P w K mg base "_law_draw" 2 ["_law_hand_here", "_law_many"] spDr fD fdD) (dP : Df P w K mg base "_law_pick" 3 ["_law_hand_here", "_law_things"] spPk fP fdP) : FnOk P w K mg base CX0 4 f fd ["_law_hand_here", "_law_good"] spThg := by
  have sc : FnScope ["_law_hand_here", "_law_good"] ["_law_hand_here", "_law_good"] (defScope sThing) := ⟨rfl, rfl, rfl, by decide +kernel, rfl, by decide +kernel, by decide +kernel⟩
  refine F.ok sc (fun vs H Q E h => ?_) (fun cdv A outer s H vs Q E hr3 h => ?_)
  · obtain ⟨p, l, a, l0, rfl, _⟩ := h
    rfl
  · obtain ⟨p, l, a, l0, rfl, hp, ha, na, h0, h1, hs, q⟩ := h
    have hr2 := hr3.mono (show 2 ≤ 3 by decide)
    refine ⟨_, PSs.nox (pss_cons (ps_if (pt_cmpR op_gt (pe_call dD.ok hr2 (by rfl) dD.gl dD.kp dD.bi .nil pass0 (pa_cons (pv 0) (pa_cons pe_int pa_nil))) pe_int (nomark _))
      (pss_one (ps_ret (pe_call dP.ok hr3 (by rfl) dP.gl dP.kp dP.bi .nil pass0 (pa_cons (pv 0) (pa_cons (pv 1) pa_nil)))))
      pss_nil)
    (pss_one (ps_ret (pe_call dP.ok hr3 (by rfl) dP.gl dP.kp dP.bi .nil pass0 (pa_cons (pv 0) (pa_cons (pe_lst (pa_cons pe_str (pa_cons pe_str (pa_cons pe_str (pa_cons pe_str (pa_cons pe_str (pa_cons pe_str (pa_cons pe_str (pa_cons pe_str (pa_cons pe_non (pa_cons pe_bl (pa_cons pe_int (pa_cons pe_str (pa_cons (pe_lst (pa_cons pe_str pa_nil)) (pa_cons pe_str (pa_cons pe_str pa_nil)))))))))))))))) pa_nil)))))), ?_⟩
    refine ⟨_, rfl, p, l, 4, rfl, hp, by decide, by decide +kernel, fun d H1 d0 d1 k1 hp1 => ⟨_, _, rfl, rfl, _, rfl, ite2 (fun g => ?_) (fun g => tNext_of ?_)⟩⟩
    · refine ⟨_, rfl, _, rfl, p, l, a, _, rfl, hp1, k1 _ _ na ha, na, by rw [List.length_map]; exact h0, by rw [List.length_map]; exact h1, fun v H2 hv k2 hp2 => ?_⟩
      obtain ⟨y, hy, rfl⟩ := List.mem_map.mp hv
      exact q H2 _ (.str y) (k1.trans k2) hp2 (okS_dt (hs y hy)) (List.mem_append_left _ (List.mem_map.mpr ⟨y, hy, rfl⟩))
    · refine pick_menu rfl hp1 (deL (ds := thgD) (daK (deS (by decide +kernel)) (daK (deS (by decide +kernel)) (daK (deS (by decide +kernel)) (daK (deS (by decide +kernel)) (daK (deS (by decide +kernel)) (daK (deS (by decide +kernel)) (daK (deS (by decide +kernel)) (daK (deS (by decide +kernel)) (daK deN (daK deB (daK deI (daK (deS (by decide +kernel)) (daK (deL (daK (deS (by decide +kernel)) daN) (by decide)) (daK (deS (by decide +kernel)) (daK (deS (by decide +kernel)) daN))))))))))))))) (by decide)) (by decide) (by decide) fun v d H2 hd hv k2 hp2 => ?_
      exact q H2 v d (k1.trans k2) hp2 (hv.newer hp1 k1) (List.mem_append_right _ hd)
end
end K08

set_option maxHeartbeats 100000
/-! rows of conditions -/
namespace K08
open PySem PySem.Spec PyProof.Rows L2
inductive R8 where
  | num (d : PyData)
  | alive (d : PyData)
  | dead (d : PyData)
  | unl (d e : PyData)
  | unborne
  | never
def r8D : R8 → PyData
  | .num d => .tuple [.str "number", d]
  | .alive d => .tuple [.str "alive", d]
  | .dead d => .tuple [.str "dead", d]
  | .unl d e => .tuple [.str "unlike", d, e]
  | .unborne => .tuple [.str "unborne"]
  | .never => .tuple [.str "never"]
def numD : List PyData := [.int 1, .int 2, .int 3, .int 4, .int 0, .int 5, .bool true, .none, .str "1", .int (-1), .int (10 ^ (20 : Int).toNat)]
theorem num_menu : DtE (tLst (tCons (tC (V.int 1)) (tCons (tC (V.int 2)) (tCons (tC (V.int 3)) (tCons (tC (V.int 4)) (tCons (tC (V.int 0)) (tCons (tC (V.int 5)) (tCons (tC (V.bl true)) (tCons (tC V.non) (tCons (tC (V.str "1")) (tCons (tUn (rU fun i => V.int (-i)) (tC (V.int 1))) (tCons (tOp (rI CPow fun i j => V.int (i ^ j.toNat)) (tC (V.int 10)) (tC (V.int 20))) tNil)))))))))))) (.list numD) :=
  deL (ds := numD) (daK deI (daK deI (daK deI (daK deI (daK deI (daK deI (daK deB (daK deN (daK (deS (by decide +kernel)) (daK deU (daK (deP (i := 10) (j := 20) ⟨by decide, by decide, by decide⟩) daN))))))))))) (by show 11 ≤ 1000; decide)
def wayD : List PyData := (foundN 4).map PyData.str ++ thgD
def srcD : List PyData := lsrc.map PyData.str ++ thgD
def R8ok : R8 → Prop
  | .num d => d ∈ numD
  | .alive d => d ∈ wayD
  | .dead d => d ∈ wayD
  | .unl d e => d ∈ srcD ∧ e ∈ srcD
  | _ => True
def spRow : Sp := fun vs H Q _ => ∃ (p l : Addr), vs = [.ref p] ∧ Hand p l H ∧ ∀ (H' : Hp) (v : V) (r : R8), Kept p H H' → Hand p l H' → Dt (New H) H' v (r8D r) → R8ok r → Q v H'
theorem tup_of {t : TA} {σ : L2.St} {H : Hp} {Q : VK} (h : t σ H fun xs H1 => xs.length ≤ sizeLine ∧ ∀ p, H1 p = none → Q (.ref p) (upd H1 p (.tup xs))) : tTup t σ H Q := h
theorem cons_of {t : TE} {ta : TA} {σ : L2.St} {H : Hp} {Q : List V → Hp → Prop} (h : t σ H fun x H1 => ta σ H1 fun xs H2 => Q (x :: xs) H2) : tCons t ta σ H Q := h
theorem c_of {v : V} {σ : L2.St} {H : Hp} {Q : VK} (h : Q v H) : tC v σ H Q := h
theorem ret_of {e : TE} {D : Ends} {σ : L2.St} {H : Hp} (h : e σ H fun v H1 => D.rt v H1) : tRet e D σ H := h
theorem w_all : ∀ y ∈ foundN 4, okS y = true := fun y hy => by
  have z : ((foundN 4).all okS) = true := by decide +kernel
  exact List.all_eq_true.mp z y hy
theorem s_all : ∀ y ∈ lsrc, okS y = true := fun y hy => by
  have z : (lsrc.all okS) = true := by decide +kernel
  exact List.all_eq_true.mp z y hy
theorem thing_ways {p l : Addr} {σ : L2.St} {H : Hp} {Q : VK} (e0 : σ[0]? = some (some (.ref p))) (hp : Hand p l H) (q : ∀ v d H', d ∈ wayD → Dt (New H) H' v d → Kept p H H' → Hand p l H' → Q v H') :
    tCall spThg [] E0 (tCons (tVar 0) (tCons (tCall spWays [] E0 (tCons (tC (.int 1)) (tCons (tC (.int 3)) tNil))) tNil)) σ H Q :=
  ⟨_, e0, rfl, fun H1 z s1 nz ez => ⟨p, l, z, _, rfl, hp.same s1, ez, hp.nn nz, by decide +kernel, by decide +kernel, w_all, fun H2 v d k hp2 hd hm => q v d H2 hm (hd.from s1) ((Kept.same s1).trans k) hp2⟩⟩
theorem thing_srcs {p l : Addr} {σ : L2.St} {H : Hp} {Q : VK} (e0 : σ[0]? = some (some (.ref p))) (hp : Hand p l H) (q : ∀ v d H', d ∈ srcD → Dt (New H) H' v d → Kept p H H' → Hand p l H' → Q v H') :
    tCall spThg [] E0 (tCons (tVar 0) (tCons (tCall spLsr [] E0 (tCons (tC (.int 2)) tNil)) tNil)) σ H Q :=
  ⟨_, e0, rfl, fun H1 z s1 nz ez => ⟨p, l, z, _, rfl, hp.same s1, ez, hp.nn nz, by decide +kernel, by decide +kernel, s_all, fun H2 v d k hp2 hd hm => q v d H2 hm (hd.from s1) ((Kept.same s1).trans k) hp2⟩⟩
theorem okS_str (x : Str) (h : okS x = true) {S : Addr → Prop} {H : Hp} : Dt S H (.str x) (.str x) := okS_dt h
section
variable {P : Program} {w : World} {K : PySem.W.Frag} {mg : Str → Option Value} {base : Heap}
theorem ok_row {f fD fP fT fW fS : Addr} {fd fdD fdP fdT fdW fdS : FuncData} (F : FnP K "_law_row" sRow f fd) (dD : Df P w K mg base "_law_draw" 2 ["_law_hand_here", "_law_many"] spDr fD fdD) (dP : Df P w K mg base "_law_pick" 3 ["_law_hand_here", "_law_things"] spPk fP fdP)
    (dT : Df P w K mg base "_law_thing" 4 ["_law_hand_here", "_law_good"] spThg fT fdT) (dW : Df P w K mg base "_law_ways" 1 ["_law_least", "_law_most"] spWays fW fdW) (dS : Df P w K mg base "_law_sources" 2 ["_law_width"] spLsr fS fdS) : FnOk P w K mg base CX0 5 f fd ["_law_hand_here"] spRow := by
  have sc : FnScope ["_law_hand_here", "_law_sort"] ["_law_hand_here"] (defScope sRow) := ⟨rfl, rfl, rfl, by decide +kernel, rfl, by decide +kernel, by decide +kernel⟩
  refine F.ok sc (fun vs H Q E h => ?_) (fun cdv A outer s H vs Q E hr4 h => ?_)
  · obtain ⟨p, l, rfl, _⟩ := h
    rfl
  · obtain ⟨p, l, rfl, hp, q⟩ := h
    have hr3 := hr4.mono (show 3 ≤ 4 by decide)
    have hr2 := hr4.mono (show 2 ≤ 4 by decide)
    have hr1 := hr4.mono (show 1 ≤ 4 by decide)
    refine ⟨_, PSs.nox (pss_cons (ps_set (i := 1) sc.nd rfl (.inl rfl) (pe_call dD.ok hr2 (by rfl) dD.gl dD.kp dD.bi .nil pass0 (pa_cons (pv 0) (pa_cons pe_int pa_nil))))
    (pss_cons (ps_if (pt_cmpR op_eq (pv 1) pe_int (nomark _))
      (pss_one (ps_ret (pe_tup (pa_cons pe_str (pa_cons (pe_call dP.ok hr3 (by rfl) dP.gl dP.kp dP.bi .nil pass0 (pa_cons (pv 0) (pa_cons (pe_lst (pa_cons pe_int (pa_cons pe_int (pa_cons pe_int (pa_cons pe_int (pa_cons pe_int (pa_cons pe_int (pa_cons pe_bl (pa_cons pe_non (pa_cons pe_str (pa_cons (pe_un un_neg pe_int) (pa_cons (pe_op op_pow pe_int pe_int) pa_nil)))))))))))) pa_nil))) pa_nil)))))
      pss_nil)
    (pss_cons (ps_if (pt_cmpR op_lt (pv 1) pe_int (nomark _))
      (pss_one (ps_ret (pe_tup (pa_cons (pe_ifExp (pt_cmpR op_eq (pv 1) pe_int (nomark _)) pe_str pe_str) (pa_cons (pe_call dT.ok hr4 (by rfl) dT.gl dT.kp dT.bi .nil pass0 (pa_cons (pv 0) (pa_cons (pe_call dW.ok hr1 (by rfl) dW.gl dW.kp dW.bi .nil pass0 (pa_cons pe_int (pa_cons pe_int pa_nil))) pa_nil))) pa_nil)))))
      pss_nil)
    (pss_cons (ps_if (pt_cmpR op_eq (pv 1) pe_int (nomark _))
      (pss_one (ps_ret (pe_tup (pa_cons pe_str (pa_cons (pe_call dT.ok hr4 (by rfl) dT.gl dT.kp dT.bi .nil pass0 (pa_cons (pv 0) (pa_cons (pe_call dS.ok hr2 (by rfl) dS.gl dS.kp dS.bi .nil pass0 (pa_cons pe_int pa_nil)) pa_nil))) (pa_cons (pe_call dT.ok hr4 (by rfl) dT.gl dT.kp dT.bi .nil pass0 (pa_cons (pv 0) (pa_cons (pe_call dS.ok hr2 (by rfl) dS.gl dS.kp dS.bi .nil pass0 (pa_cons pe_int pa_nil)) pa_nil))) pa_nil))))))
      pss_nil)
    (pss_one (ps_ret (pe_ifExp (pt_cmpR op_eq (pv 1) pe_int (nomark _)) (pe_tup (pa_cons pe_str pa_nil)) (pe_tup (pa_cons pe_str pa_nil))))))))), ?_⟩
    refine ⟨_, rfl, p, l, 6, rfl, hp, by decide, by decide +kernel, fun d H1 d0 d1 k1 hp1 => ?_⟩
    refine ⟨_, rfl, rfl, _, rfl, ite2 (fun g => ?_) (fun g => tNext_of ?_)⟩
    · refine ret_of (tup_of (cons_of (c_of ?_)))
      refine cons_of (pick_menu (j := 0) (ds := numD) rfl hp1 num_menu (by show 0 < 11; decide) (by show 11 ≤ 1000; decide) fun v d H2 hd hv k2 hp2 => ?_)
      refine ⟨(by show 2 ≤ sizeLine; decide), fun T nT => ?_⟩
      have k02 := k1.trans k2
      have sT := same_upd (o := .tup [.str "number", v]) nT
      exact q _ (.ref T) (.num d) (k02.trans (Kept.same sT)) (hp2.same sT) (.tup (hp2.back k02 nT) upd_same (.cons (okS_dt (by decide +kernel)) (.cons ((hv.newer hp1 k1).same sT) .nil))) hd
    refine ⟨_, rfl, _, _, rfl, rfl, _, rfl, ite2 (fun g => ?_) (fun g => tNext_of ?_)⟩
    · have fin : ∀ (z : Str) (c : List PyData → PyData) (r : PyData → R8), okS z = true → (∀ d, r8D (r d) = .tuple [.str z, d]) → (∀ d, d ∈ wayD → R8ok (r d)) → ∀ Qx : VK, (∀ v H', Q v H' → Qx v H') → tCons (tCall spThg [] E0 (tCons (tVar 0) (tCons (tCall spWays [] E0 (tCons (tC (.int 1)) (tCons (tC (.int 3)) tNil))) tNil))) tNil [some (.ref p), some (.int d)] H1 fun xs H2 => (V.str z :: xs).length ≤ sizeLine ∧ ∀ T, H2 T = none → Qx (.ref T) (upd H2 T (.tup (.str z :: xs))) := fun z c r hz hr hk Qx hQ => by
        refine cons_of (thing_ways rfl hp1 fun v d2 H2 hd hv k2 hp2 => ?_)
        refine ⟨(by show 2 ≤ sizeLine; decide), fun T nT => hQ _ _ ?_⟩
        have k02 := k1.trans k2
        have sT := same_upd (o := .tup [.str z, v]) nT
        refine q _ (.ref T) (r d2) (k02.trans (Kept.same sT)) (hp2.same sT) ?_ (hk d2 hd)
        rw [hr]
        exact .tup (hp2.back k02 nT) upd_same (.cons (okS_dt hz) (.cons ((hv.newer hp1 k1).same sT) .nil))
      refine ret_of (tup_of (cons_of ?_))
      refine ⟨_, rfl, rfl, _, rfl, ite2 (fun g => ?_) (fun g => ?_)⟩
      · exact fin "alive" (fun _ => .none) .alive (by decide +kernel) (fun _ => rfl) (fun _ h => h) _ fun _ _ h => h
      · exact fin "dead" (fun _ => .none) .dead (by decide +kernel) (fun _ => rfl) (fun _ h => h) _ fun _ _ h => h
    refine ⟨_, rfl, rfl, _, rfl, ite2 (fun g => ?_) (fun g => tNext_of ?_)⟩
    · refine ret_of (tup_of (cons_of (c_of ?_)))
      refine cons_of (thing_srcs rfl hp1 fun v d2 H2 hd hv k2 hp2 => ?_)
      refine cons_of ?_
      refine thing_srcs (p := p) (l := l) rfl hp2 fun v3 d3 H3 hd3 hv3 k3 hp3 => ?_
      refine ⟨(by show 3 ≤ sizeLine; decide), fun T nT => ?_⟩
      have k03 := (k1.trans k2).trans k3
      have sT := same_upd (o := .tup [.str "unlike", v, v3]) nT
      exact q _ (.ref T) (.unl d2 d3) (k03.trans (Kept.same sT)) (hp3.same sT) (.tup (hp3.back k03 nT) upd_same (.cons (okS_dt (by decide +kernel)) (.cons (((hv.newer hp1 k1).kept (fun n => (hp.nn n) rfl) k3).same sT) (.cons ((hv3.newer hp2 (k1.trans k2)).same sT) .nil)))) ⟨hd, hd3⟩
    · refine ⟨_, rfl, rfl, _, rfl, ite2 (fun g => ?_) (fun g => ?_)⟩
      · refine ⟨(by show 1 ≤ sizeLine; decide), fun T nT => ?_⟩
        have sT := same_upd (o := .tup [.str "unborne"]) nT
        exact q _ (.ref T) .unborne (k1.trans (Kept.same sT)) (hp1.same sT) (.tup (hp1.back k1 nT) upd_same (.cons (okS_dt (by decide +kernel)) .nil)) trivial
      · refine ⟨(by show 1 ≤ sizeLine; decide), fun T nT => ?_⟩
        have sT := same_upd (o := .tup [.str "never"]) nT
        exact q _ (.ref T) .never (k1.trans (Kept.same sT)) (hp1.same sT) (.tup (hp1.back k1 nT) upd_same (.cons (okS_dt (by decide +kernel)) .nil)) trivial
end
end K08

set_option maxHeartbeats 200000
/-! what is wrong with a row -/
namespace K08
open PySem PySem.Spec PyProof.Rows L2
def wholeD (d : PyData) (lo hi : Int) : Bool := match d with
  | .int i => decide (lo ≤ i) && decide (i ≤ hi)
  | _ => false
def strD (g : V → Bool) (d : PyData) : Bool := match d with
  | .str x => g (.str x)
  | _ => false
def fltR : R8 → Option Str
  | .num d => if wholeD d 1 4 = true then none else some "number"
  | .alive d => if strD (fun v => wayV v 1 3) d = true then none else some "way"
  | .dead d => if strD (fun v => wayV v 1 3) d = true then none else some "way"
  | .unl d e => if strD srcV d = true ∧ strD srcV e = true then none else some "source"
  | _ => none
def optS : Option Str → V
  | none => .non
  | some x => .str x
theorem Dt.odd2 {S : Addr → Prop} {H : Hp} {v : V} {d : PyData} (h : Dt S H v d) : ∃ t, Odd H v t := ⟨_, h.odd⟩
theorem dt_whole {S : Addr → Prop} {H : Hp} {v : V} {d : PyData} (h : Dt S H v d) (lo hi : Int) : wholeV v lo hi = wholeD d lo hi := by cases h <;> rfl
theorem dt_strD {S : Addr → Prop} {H : Hp} {v : V} {d : PyData} (h : Dt S H v d) (g : V → Bool) (hg : ∀ v, (∀ x, v ≠ .str x) → g v = false) : g v = strD g d := by
  cases h with
  | str x _ _ => rfl
  | _ => exact hg _ fun x z => by cases z
theorem way_no (v : V) (h : ∀ x, v ≠ .str x) : wayV v 1 3 = false := by
  cases v with
  | str x => exact absurd rfl (h x)
  | _ => rfl
theorem src_no (v : V) (h : ∀ x, v ≠ .str x) : srcV v = false := by
  cases v with
  | str x => exact absurd rfl (h x)
  | _ => rfl
theorem ix0 {K : PySem.W.Frag} {σ : L2.St} {H : Hp} {a : Addr} {us : List V} {j : Nat} {u : V} {Q : VK} (e0 : σ[0]? = some (some (.ref a))) (ha : H a = some (.tup us)) (hu : us[j]? = some u) (q : Q u H) : tOp (rIxT K) (tVar 0) (tC (.int (j : Int))) σ H Q :=
  ⟨_, e0, a, _, _, _, rfl, rfl, SqT.of ha, atI_nat hu, q⟩
def spFlt : Sp := fun vs H Q _ => ∃ (v : V) (r : R8), vs = [v] ∧ Dt Any H v (r8D r) ∧ ∀ H', Same H H' → Q (optS (fltR r)) H'
section
variable {P : Program} {w : World} {K : PySem.W.Frag} {mg : Str → Option Value} {base : Heap}
theorem ok_flt {f fW fS : Addr} {fd fdW fdS : FuncData} (F : FnP K "_law_fault" sFault f fd) (z_int : mg "int" = none) (z_bool : mg "bool" = none) (z_isinstance : mg "isinstance" = none) (dIW : Df P w K mg base "_law_is_way" 2 ["_law_thing_here"] (spAsk fun v => wayV v 1 3) fW fdW) (dIS : Df P w K mg base "_law_is_source" 3 ["_law_thing_here"] (spAsk srcV) fS fdS) : FnOk P w K mg base CX0 4 f fd ["_law_row_here"] spFlt := by
  have sc : FnScope ["_law_row_here", "_law_fine"] ["_law_row_here"] (defScope sFault) := ⟨rfl, rfl, rfl, by decide +kernel, rfl, by decide +kernel, by decide +kernel⟩
  refine F.ok sc (fun vs H Q E h => ?_) (fun cdv A outer s H vs Q E hr3 h => ?_)
  · obtain ⟨v, r, rfl, _⟩ := h
    rfl
  · obtain ⟨v, r, rfl, hv, q⟩ := h
    have hr2 := hr3.mono (show 2 ≤ 3 by decide)
    refine ⟨_, PSs.nox (pss_cons (ps_if (pt_cmpR op_eq (pe_ix ix_tup (pv 0) pe_int (fun _ _ => rfl)) pe_str (nomark _))
      (pss_cons (ps_set (i := 1) sc.nd rfl (.inl rfl) (pe_and (pe_callB call_isi (by rfl) z_isinstance (by decide +kernel) (pa_cons (pe_ix ix_tup (pv 0) pe_int (fun _ _ => rfl)) (pa_cons (pe_bltn (by rfl) z_int (by decide +kernel) (v := .ty "int") rfl) pa_nil))) (pe_and (pe_not (pe_callB call_isi (by rfl) z_isinstance (by decide +kernel) (pa_cons (pe_ix ix_tup (pv 0) pe_int (fun _ _ => rfl)) (pa_cons (pe_bltn (by rfl) z_bool (by decide +kernel) (v := .ty "bool") rfl) pa_nil)))) (pe_one (pe_chain op_le op_le pe_int (pe_ix ix_tup (pv 0) pe_int (fun _ _ => rfl)) pe_int)))))
      (pss_one (ps_ret (pe_ifExp (pt_val (pv 1)) pe_non pe_str))))
      pss_nil)
    (pss_cons (ps_if (pt_cmpR op_in_seq (pe_ix ix_tup (pv 0) pe_int (fun _ _ => rfl)) (pe_tup (pa_cons pe_str (pa_cons pe_str pa_nil))) (by rfl))
      (pss_one (ps_ret (pe_ifExp (pt_val (pe_call dIW.ok hr2 (by rfl) dIW.gl dIW.kp dIW.bi .nil pass0 (pa_cons (pe_ix ix_tup (pv 0) pe_int (fun _ _ => rfl)) pa_nil))) pe_non pe_str)))
      pss_nil)
    (pss_cons (ps_if (pt_cmpR op_eq (pe_ix ix_tup (pv 0) pe_int (fun _ _ => rfl)) pe_str (nomark _))
      (pss_one (ps_ret (pe_ifExp (PW.pt (pw_and (pt_val (pe_call dIS.ok hr3 (by rfl) dIS.gl dIS.kp dIS.bi .nil pass0 (pa_cons (pe_ix ix_tup (pv 0) pe_int (fun _ _ => rfl)) pa_nil))) (pw_and1 (pt_val (pe_call dIS.ok hr3 (by rfl) dIS.gl dIS.kp dIS.bi .nil pass0 (pa_cons (pe_ix ix_tup (pv 0) pe_int (fun _ _ => rfl)) pa_nil)))))) pe_non pe_str)))
      pss_nil)
    (pss_one (ps_ret pe_non))))), ?_⟩
    have word : ∀ (z y : Str) (a : Addr) (us : List V) (σ : L2.St) (Q2 : VK), σ[0]? = some (some (.ref a)) → H a = some (.tup (.str z :: us)) → Q2 (.bl (decide (V.str z = V.str y))) H → tOp rEq (tOp (rIxT K) (tVar 0) (tC (.int 0))) (tC (.str y)) σ H Q2 := fun z y a us σ Q2 e0 ha q2 => ix0 (j := 0) e0 ha rfl ⟨rfl, q2⟩
    have kind : ∀ (z : Str) (a : Addr) (us : List V) (σ : L2.St) (Q2 : VK), σ[0]? = some (some (.ref a)) → H a = some (.tup (.str z :: us)) → (∀ H', Same H H' → Q2 (.bl (inV (.str z) [.str "alive", .str "dead"])) H') → tOp (rIn K false) (tOp (rIxT K) (tVar 0) (tC (.int 0))) (tTup (tCons (tC (.str "alive")) (tCons (tC (.str "dead")) tNil))) σ H Q2 := fun z a us σ Q2 e0 ha q2 =>
      ix0 (j := 0) e0 ha rfl ⟨(by show 2 ≤ sizeLine; decide), fun t nt => ⟨t, _, rfl, .inr (SqT.of upd_same), rfl, rfl, q2 _ (same_upd nt)⟩⟩
    cases r with
    | num d =>
      cases hv with
      | @tup a xs ds _ ha hx =>
        cases hx with
        | cons h1 h2 =>
        cases h1
        cases h2 with
        | @cons u us _ _ hu h3 =>
        cases h3
        have q : ∀ H', Same H H' → Q (optS (if wholeD d 1 4 = true then none else some "number")) H' := q
        rw [← dt_whole hu] at q
        refine word "number" "number" a _ _ _ rfl ha ⟨_, rfl, ite2 (fun _ => ?_) (fun g => absurd (by decide +kernel) g)⟩
        obtain ⟨t, o⟩ := hu.odd2
        have ty := o.ty (K := K)
        have fin : ∀ b, wholeV u 1 4 = b → ∃ x, [some (V.ref a), some (V.bl b)][1]? = some (some x) ∧ ∃ c, x = .bl c ∧ if c = true then Q .non H else Q (.str "number") H := fun b hb => by
          have q1 := q H (Same.refl _)
          rw [hb] at q1
          refine ⟨_, rfl, b, rfl, ?_⟩
          cases b with
          | true => exact iteT q1
          | false => exact iteF q1
        cases o with
        | int i =>
          refine ix0 (j := 1) rfl ha rfl ⟨_, _, _, _, true, rfl, .ty _, ty, kit_ty (by decide +kernel), _, rfl, iteT ?_⟩
          refine ix0 (j := 1) rfl ha rfl ⟨_, _, _, _, false, rfl, .ty _, ty, kit_ty (by decide +kernel), _, rfl, _, rfl, iteT ?_⟩
          refine ix0 (j := 1) rfl ha rfl ⟨_, _, rfl, rfl, _, rfl, ite2 (fun h => ?_) (fun h => ?_)⟩
          · refine ⟨_, _, rfl, rfl, fin _ ?_⟩
            show (decide ((1 : Int) ≤ i) && decide (i ≤ 4)) = _
            rw [h, Bool.true_and]
          · refine fin false ?_
            show (decide ((1 : Int) ≤ i) && decide (i ≤ 4)) = _
            rw [Bool.eq_false_iff.mpr h, Bool.false_and]
        | bl b => exact ix0 (j := 1) rfl ha rfl ⟨_, _, _, _, true, rfl, .ty _, ty, kit_ty (by decide +kernel), _, rfl, iteT (ix0 (j := 1) rfl ha rfl ⟨_, _, _, _, true, rfl, .ty _, ty, kit_ty (by decide +kernel), _, rfl, _, rfl, iteF (fin false rfl)⟩)⟩
        | _ => exact ix0 (j := 1) rfl ha rfl ⟨_, _, _, _, false, rfl, .ty _, ty, kit_ty (by decide +kernel), _, rfl, iteF (fin false rfl)⟩
    | alive d =>
      cases hv with
      | @tup a xs ds _ ha hx =>
        cases hx with
        | cons h1 h2 =>
        cases h1
        cases h2 with
        | @cons u us _ _ hu h3 =>
        cases h3
        obtain ⟨t, o⟩ := hu.odd2
        have q : ∀ H', Same H H' → Q (optS (if strD (fun v => wayV v 1 3) d = true then none else some "way")) H' := q
        rw [← dt_strD hu (fun v => wayV v 1 3) way_no] at q
        refine word "alive" "number" a _ _ _ rfl ha ⟨_, rfl, ite2 (fun g => absurd g (by decide +kernel)) (fun _ => tNext_of ?_)⟩
        refine kind "alive" a _ _ _ rfl ha fun H1 s1 => ⟨_, rfl, ite2 (fun _ => ?_) (fun g => absurd (by decide +kernel) g)⟩
        refine ix0 (j := 1) rfl (s1 _ _ ha) rfl ⟨u, t, rfl, o.same s1, fun H2 s2 => ⟨_, rfl, ?_⟩⟩
        have q2 := q H2 (s1.trans s2)
        exact ite2 (fun h => by
          have h : wayV u 1 3 = true := h
          rw [if_pos h] at q2
          exact q2) (fun h => by
          have h : ¬ wayV u 1 3 = true := h
          rw [if_neg h] at q2
          exact q2)
    | dead d =>
      cases hv with
      | @tup a xs ds _ ha hx =>
        cases hx with
        | cons h1 h2 =>
        cases h1
        cases h2 with
        | @cons u us _ _ hu h3 =>
        cases h3
        obtain ⟨t, o⟩ := hu.odd2
        have q : ∀ H', Same H H' → Q (optS (if strD (fun v => wayV v 1 3) d = true then none else some "way")) H' := q
        rw [← dt_strD hu (fun v => wayV v 1 3) way_no] at q
        refine word "dead" "number" a _ _ _ rfl ha ⟨_, rfl, ite2 (fun g => absurd g (by decide +kernel)) (fun _ => tNext_of ?_)⟩
        refine kind "dead" a _ _ _ rfl ha fun H1 s1 => ⟨_, rfl, ite2 (fun _ => ?_) (fun g => absurd (by decide +kernel) g)⟩
        refine ix0 (j := 1) rfl (s1 _ _ ha) rfl ⟨u, t, rfl, o.same s1, fun H2 s2 => ⟨_, rfl, ?_⟩⟩
        have q2 := q H2 (s1.trans s2)
        exact ite2 (fun h => by
          have h : wayV u 1 3 = true := h
          rw [if_pos h] at q2
          exact q2) (fun h => by
          have h : ¬ wayV u 1 3 = true := h
          rw [if_neg h] at q2
          exact q2)
    | unl d e =>
      cases hv with
      | @tup a xs ds _ ha hx =>
        cases hx with
        | cons h1 h2 =>
        cases h1
        cases h2 with
        | @cons u us _ _ hu h3 =>
        cases h3 with
        | @cons u2 us2 _ _ hu2 h4 =>
        cases h4
        obtain ⟨t, o⟩ := hu.odd2
        obtain ⟨t2, o2⟩ := hu2.odd2
        have q : ∀ H', Same H H' → Q (optS (if strD srcV d = true ∧ strD srcV e = true then none else some "source")) H' := q
        rw [← dt_strD hu srcV src_no, ← dt_strD hu2 srcV src_no] at q
        refine word "unlike" "number" a _ _ _ rfl ha ⟨_, rfl, ite2 (fun g => absurd g (by decide +kernel)) (fun _ => tNext_of ?_)⟩
        refine kind "unlike" a _ _ _ rfl ha fun H1 s1 => ⟨_, rfl, ite2 (fun g => absurd g (by decide +kernel)) (fun _ => tNext_of ?_)⟩
        refine ix0 (j := 0) rfl (s1 _ _ ha) rfl ⟨rfl, _, rfl, ite2 (fun _ => ?_) (fun g => absurd (by decide +kernel) g)⟩
        refine ix0 (j := 1) rfl (s1 _ _ ha) rfl ⟨u, t, rfl, o.same s1, fun H2 s2 => ⟨_, rfl, ?_⟩⟩
        have s12 := s1.trans s2
        cases hb : srcV u with
        | false =>
          have q2 := q H2 s12
          rw [if_neg (fun z => by rw [hb] at z; cases z.1)] at q2
          exact iteF (iteF q2)
        | true =>
          refine iteT (ix0 (j := 2) rfl (s12 _ _ ha) rfl ⟨u2, t2, rfl, o2.same s12, fun H3 s3 => ⟨_, rfl, ?_⟩⟩)
          have q2 := q H3 (s12.trans s3)
          cases hb2 : srcV u2 with
          | true =>
            rw [if_pos ⟨hb, hb2⟩] at q2
            exact iteT q2
          | false =>
            rw [if_neg (fun z => by rw [hb2] at z; cases z.2)] at q2
            exact iteF q2
    | unborne =>
      cases hv with
      | @tup a xs ds _ ha hx =>
        cases hx with
        | cons h1 h2 =>
        cases h1
        cases h2
        refine word "unborne" "number" a _ _ _ rfl ha ⟨_, rfl, ite2 (fun g => absurd g (by decide +kernel)) (fun _ => tNext_of ?_)⟩
        refine kind "unborne" a _ _ _ rfl ha fun H1 s1 => ⟨_, rfl, ite2 (fun g => absurd g (by decide +kernel)) (fun _ => tNext_of ?_)⟩
        exact ix0 (j := 0) rfl (s1 _ _ ha) rfl ⟨rfl, _, rfl, ite2 (fun g => absurd g (by decide +kernel)) (fun _ => q H1 s1)⟩
    | never =>
      cases hv with
      | @tup a xs ds _ ha hx =>
        cases hx with
        | cons h1 h2 =>
        cases h1
        cases h2
        refine word "never" "number" a _ _ _ rfl ha ⟨_, rfl, ite2 (fun g => absurd g (by decide +kernel)) (fun _ => tNext_of ?_)⟩
        refine kind "never" a _ _ _ rfl ha fun H1 s1 => ⟨_, rfl, ite2 (fun g => absurd g (by decide +kernel)) (fun _ => tNext_of ?_)⟩
        exact ix0 (j := 0) rfl (s1 _ _ ha) rfl ⟨rfl, _, rfl, ite2 (fun g => absurd g (by decide +kernel)) (fun _ => q H1 s1)⟩
end
end K08

set_option maxHeartbeats 400000
/-! C() of a class with no __init__ of its own -/
namespace K08
open PySem PySem.Spec PyProof.Rows L2
structure MkB (K : PySem.W.Frag) (C : Addr) : Prop where
  makes : PySem.W.makesIn K C = true
  init : PySem.W.findIn K (.ref C) "__init__" = some (some (.builtin "object.__init__"))
  self : PySem.W.mroIn K C (.ref C) = some true
  top : PySem.W.mroIn K C (.type "object") = some true
  kp : PySem.W.keepIn K (.ref C) = true
def tBare (C : Addr) : TE := fun σ H Q => ∀ x dx, H x = none → H dx = none → dx ≠ x → Q (.ref x) (upd (upd H dx (.own x)) x (.ins C dx []))
section
variable {X : Cx} {C : Addr} {x : Str} {p pos : Pos}
theorem pe_bare (M : MkB X.K C) (hg : Gl X x) (hm : X.mg x = some (.ref C)) (hdb : (x == ("__debug__" : Str)) = false := by decide) : PE X (.Call (.Name x p) [] [] pos) (tBare C) := by
  refine ⟨fun pins s σ H Q I h => ?_⟩
  refine wpAny_Call_Name_kw (ld_glob I hg hm ?_ hdb)
  refine PySem.W.callWith_K0 I.kIn M.kp ?_
  have hq := h (s.heap.objs.size + 1) s.heap.objs.size (I.hok.fresh (Nat.le_succ _)) (I.hok.fresh (Nat.le_refl _)) (Nat.ne_of_lt (Nat.lt_succ_self _))
  have I2 := Inv.made (C := C) I
  refine wpAny_call (make_map0 I.kIn M.makes M.init (fun self => PySem.W.Looks.of_pure (PySem.W.oi_bind _)) ?_)
  have X2 := I2.kIn
  have ho : ((s.heap.push PySem.W.emptyDict).push (PySem.W.instObj C s.heap.objs.size)).get? (s.heap.objs.size + 1) = some (PySem.W.instObj C s.heap.objs.size) := by
    have := Heap.get?_push_size (s.heap.push PySem.W.emptyDict) (o := PySem.W.instObj C s.heap.objs.size) rfl
    rwa [Heap.size_push] at this
  have t1 : PySem.W.Looks (model X.prog X.w) ((s.heap.push PySem.W.emptyDict).push (PySem.W.instObj C s.heap.objs.size)) (typeOf (.ref (s.heap.objs.size + 1))) (.ref C) := NwA.type_at ho rfl
  have t2 : PySem.W.Looks (model X.prog X.w) ((s.heap.push PySem.W.emptyDict).push (PySem.W.instObj C s.heap.objs.size)) (isInstance (.ref (s.heap.objs.size + 1)) (.type "object")) true := t1.andThen (PySem.W.looks_mroIn X2 M.top)
  refine PySem.codeAny_call_builtin PySem.W.oi_plain PySem.W.entry_oi (@PySem.W.check_slot (model X.prog X.w) _ _ _ "object.__init__" "object" "__init__" (.ref (s.heap.objs.size + 1)) [] [] _ PySem.W.oi_kind PySem.W.oi_split t2 (NwA.oi_args_any (.ref (s.heap.objs.size + 1)) [] []) ?_)
  rw [PySem.W.oi_run]
  exact wpAny_pure (And.intro rfl ⟨V.ref (s.heap.objs.size + 1), _, I2, rfl, hq⟩)
end
end K08

/-! C(..) where its __init__ may raise -/
namespace K08
open PySem PySem.Spec PyProof.Rows L2
/-- C(..) in a try: its __init__ may raise -/
def tMakeS (C : Addr) (sp : Sp) (E : L2.St → XK) (t : TA) : TE := fun σ H Q => t σ H fun vs H1 => ∀ x dx, H1 x = none → H1 dx = none → dx ≠ x →
  sp (.ref x :: vs) (upd (upd H1 dx (.own x)) x (.ins C dx [])) (fun v H2 => v = .non ∧ Q (.ref x) H2) (E σ)
section
variable {X : Cx} {CX : CXT} {k : Nat} {f C : Addr} {fd : FuncData} {ps : List Str} {sp : Sp} {E : L2.St → XK} {x : Str} {p pos : Pos} {e : Expr} {es : List Expr} {t : TA}
theorem run_makeS {pins : List (Addr × Obj)} {σ : L2.St} {H : Hp} {s : Shared} {Q : VK} {us : List Value} {vs : List V} (M : Mk X.K C f) (F : FnOk X.prog X.w X.K X.mg X.base CX k f fd ps sp) (hr : Room (k + 1) X.A) (hb : Binds X.K fd ps [])
    (hx : PassesAt CX X σ (E σ)) (I : Inv X pins σ H s) (r : Vals vs us)
    (h : ∀ x dx, H x = none → H dx = none → dx ≠ x → sp (.ref x :: vs) (upd (upd H dx (.own x)) x (.ins C dx [])) (fun v H2 => v = .non ∧ Q (.ref x) H2) (E σ)) :
    wpAny (model X.prog X.w) X.A (call (.ref C) us) (EP X pins σ Q) X.xe s := by
  have hq := h (s.heap.objs.size + 1) s.heap.objs.size (I.hok.fresh (Nat.le_succ _)) (I.hok.fresh (Nat.le_refl _)) (Nat.ne_of_lt (Nat.lt_succ_self _))
  have I2 := Inv.made (C := C) I
  have r2 : Vals (V.ref (s.heap.objs.size + 1) :: vs) (Value.ref (s.heap.objs.size + 1) :: us) := .cons rfl r
  have hl : (Value.ref (s.heap.objs.size + 1) :: us ++ []).length = ps.length := by
    have e := r2.length
    rw [F.len _ _ _ _ hq] at e
    rw [List.append_nil]
    exact e.symm
  have hbb := hb _ (Value.ref (s.heap.objs.size + 1) :: us) I2.kIn hl
  rw [List.append_nil] at hbb
  refine wpAny_call (make_map (f := f) I.kIn M.makes M.init (beq_iff_eq.mp M.fn) (codeAny_mono (F.run _ X.stack _ _ ⟨Value.ref (s.heap.objs.size + 1) :: us, []⟩ (Value.ref (s.heap.objs.size + 1) :: us) _ _ (E σ) (hr.make C us [])
    (I2.env0.make C us []) hbb r2 hq) fun r s' hq' => ?_))
  cases r with
  | error e => exact hx pins _ _ e s' I2 hq'
  | ok fl =>
    cases fl with
    | ret u =>
      obtain ⟨v, H', I3, rv, ev, q3⟩ := I2.after hq'
      subst ev
      exact ⟨rv, ⟨V.ref (s.heap.objs.size + 1), H', I3, rfl, q3⟩⟩
    | next => exact False.elim hq'
    | brk => exact False.elim hq'
    | cont => exact False.elim hq'
theorem pe_makeS (M : Mk X.K C f) (F : FnOk X.prog X.w X.K X.mg X.base CX k f fd ps sp) (hr : Room (k + 1) X.A) (hg : Gl X x) (hm : X.mg x = some (.ref C)) (hb : Binds X.K fd ps []) (hx : ∀ σ, PassesAt CX X σ (E σ))
    (ha : PA X (e :: es) t) (hdb : (x == ("__debug__" : Str)) = false := by decide) (he : starEach (e :: es) X.env = (false, eval e X.env) :: starEach es X.env := by rfl) (hpl : (backTo pos (starEach es X.env)).any (·.1) = false := by rfl) :
    PE X (.Call (.Name x p) (e :: es) [] pos) (tMakeS C sp E t) := by
  refine ⟨fun pins s σ H Q I h => ?_⟩
  refine wpAny_Call_Name_kw (ld_glob I hg hm ?_ hdb)
  refine PySem.W.callWith_K (h₀ := X.base) I.ok.mod.kin M.kp (thn (ha.run pos pins s σ H _ I h) fun us s1 ⟨vs, H1, I1, r, q⟩ => ⟨I1.kIn, ?_⟩) he hpl
  exact run_makeS M F hr hb (hx σ) I1 r q
end
end K08

/-! a condition, made of its row -/
namespace K08
open PySem PySem.Spec PyProof.Rows L2
structure C6 where
  n : Addr
  a : Addr
  d : Addr
  u : Addr
  b : Addr
  v : Addr
structure MkI (P : Program) (w : World) (K : PySem.W.Frag) (mg : Str → Option Value) (base : Heap) (x : Str) (k : Nat) (ps : List Str) (sp : Sp) (C fI : Addr) (fd : FuncData) : Prop where
  mks : Mk K C fI
  gl : mg x = some (.ref C)
  ok : FnOk P w K mg base (L2.CX P w) k fI fd ps sp
  bi : Binds K fd ps []
structure MkO (K : PySem.W.Frag) (mg : Str → Option Value) (x : Str) (C : Addr) : Prop where
  bare : MkB K C
  gl : mg x = some (.ref C)
/-- a condition of a row, in the heap -/
inductive Cnd (Cs : C6) (H : Hp) : V → R8 → Prop
  | num {x dx : Addr} {u : V} {d : PyData} : H x = some (.ins Cs.n dx [("n", u)]) → Dt Any H u d → Cnd Cs H (.ref x) (.num d)
  | alive {x dx : Addr} {u : V} {d : PyData} : H x = some (.ins Cs.a dx [("way", u)]) → Dt Any H u d → Cnd Cs H (.ref x) (.alive d)
  | dead {x dx : Addr} {u : V} {d : PyData} : H x = some (.ins Cs.d dx [("way", u)]) → Dt Any H u d → Cnd Cs H (.ref x) (.dead d)
  | unl {x dx : Addr} {u v : V} {d e : PyData} : H x = some (.ins Cs.u dx [("one", u), ("other", v)]) → Dt Any H u d → Dt Any H v e → Cnd Cs H (.ref x) (.unl d e)
  | unborne {x dx : Addr} : H x = some (.ins Cs.b dx []) → Cnd Cs H (.ref x) .unborne
  | never {x dx : Addr} : H x = some (.ins Cs.v dx []) → Cnd Cs H (.ref x) .never
def spMkc (Cs : C6) (CE : Addr) : Sp := fun vs H Q E => ∃ (v : V) (r : R8), vs = [v] ∧ Dt Any H v (r8D r) ∧
  (fltR r = none → ∀ (H' : Hp) (x : V), Same H H' → Cnd Cs H' x r → Q x H') ∧
  (∀ z, fltR r = some z → ∀ (H' : Hp) (d : Addr), H d = none → H' d = some (.xd (stF z)) → Same H H' → E (.ref CE) (some d) H')
theorem same_ins {H : Hp} {x dx C : Addr} {fs : List (Str × V)} (nx : H x = none) (nd : H dx = none) (ne : dx ≠ x) : Same H (upd (upd H dx (.own x)) x (.ins C dx fs)) := fun b o e => by
  rw [upd_ne (ne_of_none e nx), upd_ne (ne_of_none e nd)]
  exact e
theorem same_mk {H H' : Hp} {x dx C : Addr} (nx : H x = none) (nd : H dx = none) (k : ∀ y o, upd (upd H dx (.own x)) x (.ins C dx []) y = some o → y ≠ x → H' y = some o) : Same H H' := fun y o e =>
  k y o (by rw [upd_ne (ne_of_none e nx), upd_ne (ne_of_none e nd)]; exact e) (ne_of_none e nx)
theorem same_xc {H H' : Hp} {x dx C : Addr} (nx : H x = none) (nd : H dx = none) (s : Same (upd (upd H dx (.own x)) x (.ins C dx [])) H') : Same H H' := fun y o e =>
  s y o (by rw [upd_ne (ne_of_none e nx), upd_ne (ne_of_none e nd)]; exact e)
theorem none_mk {H : Hp} {x dx C d : Addr} (n : upd (upd H dx (.own x)) x (.ins C dx []) d = none) : H d = none := by
  have n1 : d ≠ x := fun z => by
    rw [z, upd_same] at n
    cases n
  rw [upd_ne n1] at n
  have n2 : d ≠ dx := fun z => by
    rw [z, upd_same] at n
    cases n
  rw [upd_ne n2] at n
  exact n
section
variable {P : Program} {w : World} {K : PySem.W.Frag} {mg : Str → Option Value} {base : Heap}
/-- one made by spIni of one word -/
theorem make1 {C CE : Addr} {ok : List V → Bool} {fs : List V → List (Str × V)} {z : Str} {a : Addr} {y : V} {u : V} {d : PyData} {σ : L2.St} {H : Hp} {Q : VK} {E : L2.St → XK} (e0 : σ[0]? = some (some (.ref a))) (ha : H a = some (.tup [y, u])) (hu : Dt Any H u d)
    (q1 : ok [u] = true → ∀ (H' : Hp) (x dx : Addr), Same H H' → H' x = some (.ins C dx (fs [u])) → Q (.ref x) H')
    (q0 : ok [u] = false → ∀ (H' : Hp) (d : Addr), H d = none → H' d = some (.xd (stF z)) → Same H H' → E σ (.ref CE) (some d) H') :
    tMakeS C (spIni C CE 1 fs ok z) E (tCons (tOp (rIxT K) (tVar 0) (tC (.int 1))) tNil) σ H Q := by
  refine cons_of (ix0 (j := 1) e0 ha rfl ?_)
  intro x dx nx nd ne
  refine ⟨x, dx, [u], rfl, rfl, upd_same, fun u' h => ?_, fun h H' hx k => ⟨rfl, ?_⟩, fun h H' d' nd' hd s => q0 h H' d' (none_mk nd') hd (same_xc nx nd s)⟩
  · obtain rfl := List.mem_singleton.mp h
    obtain ⟨t, o⟩ := hu.odd2
    exact ⟨t, o.same (same_ins nx nd ne)⟩
  · exact q1 h H' x dx (same_mk nx nd k) hx
theorem make2 {C CE : Addr} {ok : List V → Bool} {fs : List V → List (Str × V)} {z : Str} {a : Addr} {y : V} {u u2 : V} {d d2 : PyData} {σ : L2.St} {H : Hp} {Q : VK} {E : L2.St → XK} (e0 : σ[0]? = some (some (.ref a))) (ha : H a = some (.tup [y, u, u2])) (hu : Dt Any H u d) (hu2 : Dt Any H u2 d2)
    (q1 : ok [u, u2] = true → ∀ (H' : Hp) (x dx : Addr), Same H H' → H' x = some (.ins C dx (fs [u, u2])) → Q (.ref x) H')
    (q0 : ok [u, u2] = false → ∀ (H' : Hp) (d : Addr), H d = none → H' d = some (.xd (stF z)) → Same H H' → E σ (.ref CE) (some d) H') :
    tMakeS C (spIni C CE 2 fs ok z) E (tCons (tOp (rIxT K) (tVar 0) (tC (.int 1))) (tCons (tOp (rIxT K) (tVar 0) (tC (.int 2))) tNil)) σ H Q := by
  refine cons_of (ix0 (j := 1) e0 ha rfl (cons_of (ix0 (j := 2) e0 ha rfl ?_)))
  intro x dx nx nd ne
  refine ⟨x, dx, [u, u2], rfl, rfl, upd_same, fun u' h => ?_, fun h H' hx k => ⟨rfl, ?_⟩, fun h H' d' nd' hd s => q0 h H' d' (none_mk nd') hd (same_xc nx nd s)⟩
  · rcases List.mem_cons.mp h with rfl | h
    · obtain ⟨t, o⟩ := hu.odd2
      exact ⟨t, o.same (same_ins nx nd ne)⟩
    · obtain rfl := List.mem_singleton.mp h
      obtain ⟨t, o⟩ := hu2.odd2
      exact ⟨t, o.same (same_ins nx nd ne)⟩
  · exact q1 h H' x dx (same_mk nx nd k) hx
theorem ok_mkc {Cs : C6} {f CE f1 f2 f3 f4 : Addr} {fd fd1 fd2 fd3 fd4 : FuncData} (F : FnP K "_law_make_condition" sMakeCondition f fd)
    (MN : MkI P w K mg base "Number" 3 ["self", "n"] (spIni Cs.n CE 1 (fun us => [("n", us.getD 0 .non)]) (fun us => wholeV (us.getD 0 .non) 1 4) "number") Cs.n f1 fd1)
    (MA : MkI P w K mg base "Alive" 3 ["self", "way"] (spIni Cs.a CE 1 (fun us => [("way", us.getD 0 .non)]) (fun us => wayV (us.getD 0 .non) 1 3) "way") Cs.a f2 fd2)
    (MD : MkI P w K mg base "Dead" 3 ["self", "way"] (spIni Cs.d CE 1 (fun us => [("way", us.getD 0 .non)]) (fun us => wayV (us.getD 0 .non) 1 3) "way") Cs.d f3 fd3)
    (MU : MkI P w K mg base "Unlike" 3 ["self", "one", "other"] (spIni Cs.u CE 2 (fun us => [("one", us.getD 0 .non), ("other", us.getD 1 .non)]) (fun us => srcV (us.getD 0 .non) && srcV (us.getD 1 .non)) "source") Cs.u f4 fd4)
    (MB : MkO K mg "Unborne" Cs.b) (MV : MkO K mg "Never" Cs.v) : FnOk P w K mg base (L2.CX P w) 5 f fd ["_law_row_here"] (spMkc Cs CE) := by
  have sc : FnScope ["_law_row_here"] ["_law_row_here"] (defScope sMakeCondition) := ⟨rfl, rfl, rfl, by decide +kernel, rfl, by decide +kernel, by decide +kernel⟩
  refine F.ok sc (fun vs H Q E h => ?_) (fun cdv A outer s H vs Q E hr h => ?_)
  · obtain ⟨v, r, rfl, _⟩ := h
    rfl
  · obtain ⟨v, r, rfl, hv, q1, q0⟩ := h
    refine ⟨_, (pss_cons (ps_if (pt_cmpR op_eq (pe_ix ix_tup (pv 0) pe_int (fun _ _ => rfl)) pe_str (nomark _))
      (pss_one (ps_ret (pe_makeS MN.mks MN.ok hr (by rfl) MN.gl MN.bi (fun σ => passAt (takes_of rfl rfl rfl rfl) σ) (pa_cons (pe_ix ix_tup (pv 0) pe_int (fun _ _ => rfl)) pa_nil))))
      pss_nil)
    (pss_cons (ps_if (pt_cmpR op_eq (pe_ix ix_tup (pv 0) pe_int (fun _ _ => rfl)) pe_str (nomark _))
      (pss_one (ps_ret (pe_makeS MA.mks MA.ok hr (by rfl) MA.gl MA.bi (fun σ => passAt (takes_of rfl rfl rfl rfl) σ) (pa_cons (pe_ix ix_tup (pv 0) pe_int (fun _ _ => rfl)) pa_nil))))
      pss_nil)
    (pss_cons (ps_if (pt_cmpR op_eq (pe_ix ix_tup (pv 0) pe_int (fun _ _ => rfl)) pe_str (nomark _))
      (pss_one (ps_ret (pe_makeS MD.mks MD.ok hr (by rfl) MD.gl MD.bi (fun σ => passAt (takes_of rfl rfl rfl rfl) σ) (pa_cons (pe_ix ix_tup (pv 0) pe_int (fun _ _ => rfl)) pa_nil))))
      pss_nil)
    (pss_cons (ps_if (pt_cmpR op_eq (pe_ix ix_tup (pv 0) pe_int (fun _ _ => rfl)) pe_str (nomark _))
      (pss_one (ps_ret (pe_makeS MU.mks MU.ok hr (by rfl) MU.gl MU.bi (fun σ => passAt (takes_of rfl rfl rfl rfl) σ) (pa_cons (pe_ix ix_tup (pv 0) pe_int (fun _ _ => rfl)) (pa_cons (pe_ix ix_tup (pv 0) pe_int (fun _ _ => rfl)) pa_nil)))))
      pss_nil)
    (pss_one (ps_ret (pe_ifExp (pt_cmpR op_eq (pe_ix ix_tup (pv 0) pe_int (fun _ _ => rfl)) pe_str (nomark _)) (pe_bare MV.bare (by rfl) MV.gl) (pe_bare MB.bare (by rfl) MB.gl)))))))), ?_⟩
    have word : ∀ (z y : Str) (a : Addr) (us : List V) (σ : L2.St) (Q2 : VK), σ[0]? = some (some (.ref a)) → H a = some (.tup (.str z :: us)) → Q2 (.bl (decide (V.str z = V.str y))) H → tOp rEq (tOp (rIxT K) (tVar 0) (tC (.int 0))) (tC (.str y)) σ H Q2 := fun z y a us σ Q2 e0 ha q2 => ix0 (j := 0) e0 ha rfl ⟨rfl, q2⟩
    cases r with
    | num d =>
      cases hv with
      | @tup a xs ds _ ha hx =>
        cases hx with
        | cons h1 h2 =>
        cases h1
        cases h2 with
        | @cons u us _ _ hu h3 =>
        cases h3
        have q1 : (if wholeD d 1 4 = true then none else some "number" : Option Str) = none → _ := q1
        have q0 : ∀ z, (if wholeD d 1 4 = true then none else some "number" : Option Str) = some z → _ := q0
        rw [← dt_whole hu] at q1 q0
        refine word "number" "number" a _ _ _ rfl ha ⟨_, rfl, ite2 (fun _ => ?_) (fun g => absurd (by decide +kernel) g)⟩
        refine make1 rfl ha hu (fun g H' x dx s hx => q1 (if_pos g) H' _ s (.num hx (hu.same s))) (fun g H' d nd hd s => ?_)
        have g : wholeV u 1 4 = false := g
        exact q0 _ (if_neg (by rw [g]; exact Bool.noConfusion)) H' d nd hd s
    | alive d =>
      cases hv with
      | @tup a xs ds _ ha hx =>
        cases hx with
        | cons h1 h2 =>
        cases h1
        cases h2 with
        | @cons u us _ _ hu h3 =>
        cases h3
        have q1 : (if strD (fun v => wayV v 1 3) d = true then none else some "way" : Option Str) = none → _ := q1
        have q0 : ∀ z, (if strD (fun v => wayV v 1 3) d = true then none else some "way" : Option Str) = some z → _ := q0
        rw [← dt_strD hu (fun v => wayV v 1 3) way_no] at q1 q0
        refine word "alive" "number" a _ _ _ rfl ha ⟨_, rfl, ite2 (fun g => absurd g (by decide +kernel)) (fun _ => tNext_of ?_)⟩
        refine word "alive" "alive" a _ _ _ rfl ha ⟨_, rfl, ite2 (fun _ => ?_) (fun g => absurd (by decide +kernel) g)⟩
        refine make1 rfl ha hu (fun g H' x dx s hx => q1 (if_pos g) H' _ s (.alive hx (hu.same s))) (fun g H' d nd hd s => ?_)
        have g : wayV u 1 3 = false := g
        exact q0 _ (if_neg (by show ¬ wayV u 1 3 = true; rw [g]; exact Bool.noConfusion)) H' d nd hd s
    | dead d =>
      cases hv with
      | @tup a xs ds _ ha hx =>
        cases hx with
        | cons h1 h2 =>
        cases h1
        cases h2 with
        | @cons u us _ _ hu h3 =>
        cases h3
        have q1 : (if strD (fun v => wayV v 1 3) d = true then none else some "way" : Option Str) = none → _ := q1
        have q0 : ∀ z, (if strD (fun v => wayV v 1 3) d = true then none else some "way" : Option Str) = some z → _ := q0
        rw [← dt_strD hu (fun v => wayV v 1 3) way_no] at q1 q0
        refine word "dead" "number" a _ _ _ rfl ha ⟨_, rfl, ite2 (fun g => absurd g (by decide +kernel)) (fun _ => tNext_of ?_)⟩
        refine word "dead" "alive" a _ _ _ rfl ha ⟨_, rfl, ite2 (fun g => absurd g (by decide +kernel)) (fun _ => tNext_of ?_)⟩
        refine word "dead" "dead" a _ _ _ rfl ha ⟨_, rfl, ite2 (fun _ => ?_) (fun g => absurd (by decide +kernel) g)⟩
        refine make1 rfl ha hu (fun g H' x dx s hx => q1 (if_pos g) H' _ s (.dead hx (hu.same s))) (fun g H' d nd hd s => ?_)
        have g : wayV u 1 3 = false := g
        exact q0 _ (if_neg (by show ¬ wayV u 1 3 = true; rw [g]; exact Bool.noConfusion)) H' d nd hd s
    | unl d e =>
      cases hv with
      | @tup a xs ds _ ha hx =>
        cases hx with
        | cons h1 h2 =>
        cases h1
        cases h2 with
        | @cons u us _ _ hu h3 =>
        cases h3 with
        | @cons u2 us2 _ _ hu2 h4 =>
        cases h4
        have q1 : (if strD srcV d = true ∧ strD srcV e = true then none else some "source" : Option Str) = none → _ := q1
        have q0 : ∀ z, (if strD srcV d = true ∧ strD srcV e = true then none else some "source" : Option Str) = some z → _ := q0
        rw [← dt_strD hu srcV src_no, ← dt_strD hu2 srcV src_no] at q1 q0
        refine word "unlike" "number" a _ _ _ rfl ha ⟨_, rfl, ite2 (fun g => absurd g (by decide +kernel)) (fun _ => tNext_of ?_)⟩
        refine word "unlike" "alive" a _ _ _ rfl ha ⟨_, rfl, ite2 (fun g => absurd g (by decide +kernel)) (fun _ => tNext_of ?_)⟩
        refine word "unlike" "dead" a _ _ _ rfl ha ⟨_, rfl, ite2 (fun g => absurd g (by decide +kernel)) (fun _ => tNext_of ?_)⟩
        refine word "unlike" "unlike" a _ _ _ rfl ha ⟨_, rfl, ite2 (fun _ => ?_) (fun g => absurd (by decide +kernel) g)⟩
        refine make2 rfl ha hu hu2 (fun g H' x dx s hx => q1 (if_pos (Bool.and_eq_true_iff.mp g)) H' _ s (.unl hx (hu.same s) (hu2.same s))) (fun g H' d nd hd s => ?_)
        have g : (srcV u && srcV u2) = false := g
        exact q0 _ (if_neg fun z => by rw [Bool.and_eq_true_iff.mpr z] at g; exact Bool.noConfusion g) H' d nd hd s
    | unborne =>
      cases hv with
      | @tup a xs ds _ ha hx =>
        cases hx with
        | cons h1 h2 =>
        cases h1
        cases h2
        refine word "unborne" "number" a _ _ _ rfl ha ⟨_, rfl, ite2 (fun g => absurd g (by decide +kernel)) (fun _ => tNext_of ?_)⟩
        refine word "unborne" "alive" a _ _ _ rfl ha ⟨_, rfl, ite2 (fun g => absurd g (by decide +kernel)) (fun _ => tNext_of ?_)⟩
        refine word "unborne" "dead" a _ _ _ rfl ha ⟨_, rfl, ite2 (fun g => absurd g (by decide +kernel)) (fun _ => tNext_of ?_)⟩
        refine word "unborne" "unlike" a _ _ _ rfl ha ⟨_, rfl, ite2 (fun g => absurd g (by decide +kernel)) (fun _ => tNext_of ?_)⟩
        exact ix0 (j := 0) rfl ha rfl ⟨rfl, _, rfl, ite2 (fun g => absurd g (by decide +kernel)) (fun _ => fun x dx nx nd ne => q1 rfl _ _ (same_ins nx nd ne) (.unborne upd_same))⟩
    | never =>
      cases hv with
      | @tup a xs ds _ ha hx =>
        cases hx with
        | cons h1 h2 =>
        cases h1
        cases h2
        refine word "never" "number" a _ _ _ rfl ha ⟨_, rfl, ite2 (fun g => absurd g (by decide +kernel)) (fun _ => tNext_of ?_)⟩
        refine word "never" "alive" a _ _ _ rfl ha ⟨_, rfl, ite2 (fun g => absurd g (by decide +kernel)) (fun _ => tNext_of ?_)⟩
        refine word "never" "dead" a _ _ _ rfl ha ⟨_, rfl, ite2 (fun g => absurd g (by decide +kernel)) (fun _ => tNext_of ?_)⟩
        refine word "never" "unlike" a _ _ _ rfl ha ⟨_, rfl, ite2 (fun g => absurd g (by decide +kernel)) (fun _ => tNext_of ?_)⟩
        exact ix0 (j := 0) rfl ha rfl ⟨rfl, _, rfl, ite2 (fun _ => fun x dx nx nd ne => q1 rfl _ _ (same_ins nx nd ne) (.never upd_same)) (fun g => absurd (by decide +kernel) g)⟩
end
end K08

/-! the text of a row that is right -/
namespace K08
open PySem PySem.Spec PyProof.Rows L2
def txtR : R8 → Str
  | .num (.int i) => ("number" : Str) ++ (" " : Str) ++ (toString i : Str)
  | .alive (.str x) => ("alive" : Str) ++ (" " : Str) ++ x
  | .dead (.str x) => ("dead" : Str) ++ (" " : Str) ++ x
  | .unl (.str x) (.str y) => ("unlike " : Str) ++ x ++ (" " : Str) ++ y
  | .unborne => "unborne"
  | .never => "never"
  | _ => Str.empty
def spCtx : Sp := fun vs H Q _ => ∃ (v : V) (r : R8), vs = [v] ∧ Dt Any H v (r8D r) ∧ fltR r = none ∧ Q (.str (txtR r)) H
section
variable {P : Program} {w : World} {K : PySem.W.Frag} {mg : Str → Option Value} {base : Heap}
theorem ok_ctx {f : Addr} {fd : FuncData} (F : FnP K "_law_condition_text" sConditionText f fd) (z_len : mg "len" = none) (z_str : mg "str" = none) : FnOk P w K mg base CX0 1 f fd ["_law_row_here"] spCtx := by
  have sc : FnScope ["_law_row_here"] ["_law_row_here"] (defScope sConditionText) := ⟨rfl, rfl, rfl, by decide +kernel, rfl, by decide +kernel, by decide +kernel⟩
  refine F.ok sc (fun vs H Q E h => ?_) (fun cdv A outer s H vs Q E hr h => ?_)
  · obtain ⟨v, r, rfl, _⟩ := h
    rfl
  · obtain ⟨v, r, rfl, hv, hf, q⟩ := h
    refine ⟨_, PSs.nox (pss_cons (ps_if (pt_cmpR op_eq (pe_ix ix_tup (pv 0) pe_int (fun _ _ => rfl)) pe_str (nomark _))
      (pss_one (ps_ret (pe_op op_add_str (pe_op op_add_str (pe_op op_add_str pe_str (pe_ix ix_tup (pv 0) pe_int (fun _ _ => rfl))) pe_str) (pe_ix ix_tup (pv 0) pe_int (fun _ _ => rfl)))))
      pss_nil)
    (pss_one (ps_ret (pe_ifExp (pt_cmpR op_eq (pe_callB call_len_seq (by rfl) z_len boot_len (pa_cons (pv 0) pa_nil)) pe_int (nomark _)) (pe_ix ix_tup (pv 0) pe_int (fun _ _ => rfl)) (pe_op op_add_str (pe_op op_add_str (pe_ix ix_tup (pv 0) pe_int (fun _ _ => rfl)) pe_str) (pe_callTy (callR_or call_str_int SkE.call_str_str) (by rfl) z_str (by decide +kernel) (pa_cons (pe_ix ix_tup (pv 0) pe_int (fun _ _ => rfl)) pa_nil))))))), ?_⟩
    have word : ∀ (z y : Str) (a : Addr) (us : List V) (σ : L2.St) (Q2 : VK), σ[0]? = some (some (.ref a)) → H a = some (.tup (.str z :: us)) → Q2 (.bl (decide (V.str z = V.str y))) H → tOp rEq (tOp (rIxT K) (tVar 0) (tC (.int 0))) (tC (.str y)) σ H Q2 := fun z y a us σ Q2 e0 ha q2 => ix0 (j := 0) e0 ha rfl ⟨rfl, q2⟩
    cases r with
    | num d =>
      cases hv with
      | @tup a xs ds _ ha hx =>
        cases hx with
        | cons h1 h2 =>
        cases h1
        cases h2 with
        | @cons u us _ _ hu h3 =>
        cases h3
        refine word "number" "unlike" a _ _ _ rfl ha ⟨_, rfl, ite2 (fun g => absurd g (by decide +kernel)) (fun _ => tNext_of ?_)⟩
        refine ⟨_, rfl, a, _, rfl, .inr (SqT.of ha), rfl, _, rfl, ite2 (fun g => absurd g (by show ¬ decide (V.int 2 = V.int 1) = true; decide +kernel)) (fun _ => ?_)⟩
        cases hu with
        | int i =>
          have hb : wholeD (.int i) 1 4 = true := by
            cases e : wholeD (.int i) 1 4 with
            | true => rfl
            | false =>
              have hf : (if wholeD (.int i) 1 4 = true then none else some "number" : Option Str) = none := hf
              rw [if_neg (by rw [e]; exact Bool.noConfusion)] at hf
              cases hf
          have hb : (decide ((1 : Int) ≤ i) && decide (i ≤ 4)) = true := hb
          obtain ⟨g1, g4⟩ := Bool.and_eq_true_iff.mp hb
          have g1 := of_decide_eq_true g1
          have g4 := of_decide_eq_true g4
          refine ix0 (j := 0) rfl ha rfl ⟨_, _, rfl, rfl, (by decide +kernel), ?_⟩
          refine ix0 (j := 1) rfl ha rfl (.inl ⟨i, rfl, ?_, _, _, rfl, rfl, ?_, q⟩)
          · obtain rfl | rfl | rfl | rfl : i = 1 ∨ i = 2 ∨ i = 3 ∨ i = 4 := by omega
            all_goals decide
          · obtain rfl | rfl | rfl | rfl : i = 1 ∨ i = 2 ∨ i = 3 ∨ i = 4 := by omega
            all_goals decide +kernel
        | _ => exact (by cases (show some ("number" : Str) = none from hf))
    | alive d =>
      cases hv with
      | @tup a xs ds _ ha hx =>
        cases hx with
        | cons h1 h2 =>
        cases h1
        cases h2 with
        | @cons u us _ _ hu h3 =>
        cases h3
        refine word "alive" "unlike" a _ _ _ rfl ha ⟨_, rfl, ite2 (fun g => absurd g (by decide +kernel)) (fun _ => tNext_of ?_)⟩
        refine ⟨_, rfl, a, _, rfl, .inr (SqT.of ha), rfl, _, rfl, ite2 (fun g => absurd g (by show ¬ decide (V.int 2 = V.int 1) = true; decide +kernel)) (fun _ => ?_)⟩
        cases hu with
        | str x hl hs =>
          refine ix0 (j := 0) rfl ha rfl ⟨_, _, rfl, rfl, (by decide +kernel), ?_⟩
          refine ix0 (j := 1) rfl ha rfl (.inr ⟨x, rfl, _, _, rfl, rfl, ?_, q⟩)
          exact Nat.le_trans (Nat.add_le_add_left hl _) (by decide +kernel)
        | _ => exact (by cases (show some ("way" : Str) = none from hf))
    | dead d =>
      cases hv with
      | @tup a xs ds _ ha hx =>
        cases hx with
        | cons h1 h2 =>
        cases h1
        cases h2 with
        | @cons u us _ _ hu h3 =>
        cases h3
        refine word "dead" "unlike" a _ _ _ rfl ha ⟨_, rfl, ite2 (fun g => absurd g (by decide +kernel)) (fun _ => tNext_of ?_)⟩
        refine ⟨_, rfl, a, _, rfl, .inr (SqT.of ha), rfl, _, rfl, ite2 (fun g => absurd g (by show ¬ decide (V.int 2 = V.int 1) = true; decide +kernel)) (fun _ => ?_)⟩
        cases hu with
        | str x hl hs =>
          refine ix0 (j := 0) rfl ha rfl ⟨_, _, rfl, rfl, (by decide +kernel), ?_⟩
          refine ix0 (j := 1) rfl ha rfl (.inr ⟨x, rfl, _, _, rfl, rfl, ?_, q⟩)
          exact Nat.le_trans (Nat.add_le_add_left hl _) (by decide +kernel)
        | _ => exact (by cases (show some ("way" : Str) = none from hf))
    | unl d e =>
      cases hv with
      | @tup a xs ds _ ha hx =>
        cases hx with
        | cons h1 h2 =>
        cases h1
        cases h2 with
        | @cons u us _ _ hu h3 =>
        cases h3 with
        | @cons u2 us2 _ _ hu2 h4 =>
        cases h4
        refine word "unlike" "unlike" a _ _ _ rfl ha ⟨_, rfl, ite2 (fun _ => ?_) (fun g => absurd (by decide +kernel) g)⟩
        have hb : strD srcV d = true ∧ strD srcV e = true := Classical.byContradiction fun z => by
          have hf : (if strD srcV d = true ∧ strD srcV e = true then none else some "source" : Option Str) = none := hf
          rw [if_neg z] at hf
          cases hf
        cases hu with
        | str x hl hs =>
          cases hu2 with
          | str y hl2 hs2 =>
            refine ix0 (j := 1) rfl ha rfl ⟨_, _, rfl, rfl, ?_, ⟨_, _, rfl, rfl, ?_, ?_⟩⟩
            · exact Nat.le_trans (Nat.add_le_add_left hl _) (by decide +kernel)
            · rw [len_cat]
              exact Nat.le_trans (Nat.add_le_add_right (Nat.add_le_add_left hl _) _) (by decide +kernel)
            · refine ix0 (j := 2) rfl ha rfl ⟨_, _, rfl, rfl, ?_, q⟩
              rw [len_cat, len_cat]
              exact Nat.le_trans (Nat.add_le_add (Nat.add_le_add_right (Nat.add_le_add_left hl _) _) hl2) (by decide +kernel)
          | _ => exact (by cases (show false = true from hb.2))
        | _ => exact (by cases (show false = true from hb.1))
    | unborne =>
      cases hv with
      | @tup a xs ds _ ha hx =>
        cases hx with
        | cons h1 h2 =>
        cases h1
        cases h2
        refine word "unborne" "unlike" a _ _ _ rfl ha ⟨_, rfl, ite2 (fun g => absurd g (by decide +kernel)) (fun _ => tNext_of ?_)⟩
        exact ⟨_, rfl, a, _, rfl, .inr (SqT.of ha), rfl, _, rfl, ite2 (fun _ => ix0 (j := 0) rfl ha rfl q) (fun g => absurd (by decide +kernel) g)⟩
    | never =>
      cases hv with
      | @tup a xs ds _ ha hx =>
        cases hx with
        | cons h1 h2 =>
        cases h1
        cases h2
        refine word "never" "unlike" a _ _ _ rfl ha ⟨_, rfl, ite2 (fun g => absurd g (by decide +kernel)) (fun _ => tNext_of ?_)⟩
        exact ⟨_, rfl, a, _, rfl, .inr (SqT.of ha), rfl, _, rfl, ite2 (fun _ => ix0 (j := 0) rfl ha rfl q) (fun g => absurd (by decide +kernel) g)⟩
end
end K08

/-! what a condition keeps is what its row says -/
namespace K08
open PySem PySem.Spec PyProof.Rows L2
def spPar (Cs : C6) : Sp := fun vs H Q _ => ∃ (x v : V) (r : R8), vs = [x, v] ∧ Cnd Cs H x r ∧ Dt Any H v (r8D r) ∧ fltR r = none ∧ ∀ H', Same H H' → Q (.bl true) H'
theorem ixi {K : PySem.W.Frag} {σ : L2.St} {H : Hp} {a : Addr} {us : List V} {i j : Nat} {u : V} {Q : VK} (e0 : σ[i]? = some (some (.ref a))) (ha : H a = some (.tup us)) (hu : us[j]? = some u) (q : Q u H) : tOp (rIxT K) (tVar i) (tC (.int (j : Int))) σ H Q :=
  ⟨_, e0, a, _, _, _, rfl, rfl, SqT.of ha, atI_nat hu, q⟩
section
variable {P : Program} {w : World} {K : PySem.W.Frag} {mg : Str → Option Value} {base : Heap}
theorem ok_par {Cs : C6} {f : Addr} {fd : FuncData} (F : FnP K "_law_parts" sParts f fd) (TN : ConC K Cs.n ["n"]) (TA : ConC K Cs.a ["way"]) (TD : ConC K Cs.d ["way"]) (TU : ConC K Cs.u ["one", "other"]) : FnOk P w K mg base CX0 1 f fd ["_law_made", "_law_row_here"] (spPar Cs) := by
  have sc : FnScope ["_law_made", "_law_row_here"] ["_law_made", "_law_row_here"] (defScope sParts) := ⟨rfl, rfl, rfl, by decide +kernel, rfl, by decide +kernel, by decide +kernel⟩
  refine F.ok sc (fun vs H Q E h => ?_) (fun cdv A outer s H vs Q E hr h => ?_)
  · obtain ⟨x, v, r, rfl, _⟩ := h
    rfl
  · obtain ⟨x, v, r, rfl, hc, hv, hf, q⟩ := h
    refine ⟨_, PSs.nox (pss_cons (ps_if (pt_cmpR op_eq (pe_ix ix_tup (pv 1) pe_int (fun _ _ => rfl)) pe_str (nomark _))
      (pss_one (ps_ret (pe_cmpR op_eq (pe_fld (pv 0) rfl) (pe_ix ix_tup (pv 1) pe_int (fun _ _ => rfl)) (nomark _))))
      pss_nil)
    (pss_cons (ps_if (pt_cmpR op_in_seq (pe_ix ix_tup (pv 1) pe_int (fun _ _ => rfl)) (pe_tup (pa_cons pe_str (pa_cons pe_str pa_nil))) (by rfl))
      (pss_one (ps_ret (pe_cmpR op_eq (pe_fld (pv 0) rfl) (pe_ix ix_tup (pv 1) pe_int (fun _ _ => rfl)) (nomark _))))
      pss_nil)
    (pss_one (ps_ret (pe_or (pe_cmpR op_ne (pe_ix ix_tup (pv 1) pe_int (fun _ _ => rfl)) pe_str (nomark _)) (pe_one (pe_and (pe_cmpR op_eq (pe_fld (pv 0) rfl) (pe_ix ix_tup (pv 1) pe_int (fun _ _ => rfl)) (nomark _)) (pe_one (pe_cmpR op_eq (pe_fld (pv 0) rfl) (pe_ix ix_tup (pv 1) pe_int (fun _ _ => rfl)) (nomark _)))))))))), ?_⟩
    have word : ∀ (z y : Str) (a : Addr) (us : List V) (σ : L2.St) (Q2 : VK), σ[1]? = some (some (.ref a)) → H a = some (.tup (.str z :: us)) → Q2 (.bl (decide (V.str z = V.str y))) H → tOp rEq (tOp (rIxT K) (tVar 1) (tC (.int 0))) (tC (.str y)) σ H Q2 := fun z y a us σ Q2 e0 ha q2 => ixi (j := 0) e0 ha rfl ⟨rfl, q2⟩
    have kind : ∀ (z : Str) (a : Addr) (us : List V) (σ : L2.St) (Q2 : VK), σ[1]? = some (some (.ref a)) → H a = some (.tup (.str z :: us)) → (∀ H', Same H H' → Q2 (.bl (inV (.str z) [.str "alive", .str "dead"])) H') → tOp (rIn K false) (tOp (rIxT K) (tVar 1) (tC (.int 0))) (tTup (tCons (tC (.str "alive")) (tCons (tC (.str "dead")) tNil))) σ H Q2 := fun z a us σ Q2 e0 ha q2 =>
      ixi (j := 0) e0 ha rfl ⟨(by show 2 ≤ sizeLine; decide), fun t nt => ⟨t, _, rfl, .inr (SqT.of upd_same), rfl, rfl, q2 _ (same_upd nt)⟩⟩
    cases r with
    | num d =>
      cases hc with
      | num ex hd =>
      cases hv with
      | @tup a xs ds _ ha hx =>
        cases hx with
        | cons h1 h2 =>
        cases h1
        cases h2 with
        | @cons u us _ _ hu h3 =>
        cases h3
        refine word "number" "number" a _ _ _ rfl ha ⟨_, rfl, ite2 (fun _ => ?_) (fun g => absurd (by decide +kernel) g)⟩
        cases hu with
        | int i =>
          cases hd
          refine ⟨_, rfl, _, _, _, _, _, rfl, ex, TN.cl, TN.no _ List.mem_cons_self, rfl, ?_⟩
          refine ixi (j := 1) rfl ha rfl ⟨rfl, ?_⟩
          rw [decide_eq_true (rfl : V.int i = V.int i)]
          exact q H (Same.refl _)
        | _ => exact (by cases (show some ("number" : Str) = none from hf))
    | alive d =>
      cases hc with
      | alive ex hd =>
      cases hv with
      | @tup a xs ds _ ha hx =>
        cases hx with
        | cons h1 h2 =>
        cases h1
        cases h2 with
        | @cons u us _ _ hu h3 =>
        cases h3
        refine word "alive" "number" a _ _ _ rfl ha ⟨_, rfl, ite2 (fun g => absurd g (by decide +kernel)) (fun _ => tNext_of ?_)⟩
        refine kind "alive" a _ _ _ rfl ha fun H1 s1 => ⟨_, rfl, ite2 (fun _ => ?_) (fun g => absurd (by decide +kernel) g)⟩
        cases hu with
        | str i _ _ =>
          cases hd
          refine ⟨_, rfl, _, _, _, _, _, rfl, s1 _ _ ex, TA.cl, TA.no _ List.mem_cons_self, rfl, ?_⟩
          refine ixi (j := 1) rfl (s1 _ _ ha) rfl ⟨rfl, ?_⟩
          rw [decide_eq_true (rfl : V.str i = V.str i)]
          exact q H1 s1
        | _ => exact (by cases (show some ("way" : Str) = none from hf))
    | dead d =>
      cases hc with
      | dead ex hd =>
      cases hv with
      | @tup a xs ds _ ha hx =>
        cases hx with
        | cons h1 h2 =>
        cases h1
        cases h2 with
        | @cons u us _ _ hu h3 =>
        cases h3
        refine word "dead" "number" a _ _ _ rfl ha ⟨_, rfl, ite2 (fun g => absurd g (by decide +kernel)) (fun _ => tNext_of ?_)⟩
        refine kind "dead" a _ _ _ rfl ha fun H1 s1 => ⟨_, rfl, ite2 (fun _ => ?_) (fun g => absurd (by decide +kernel) g)⟩
        cases hu with
        | str i _ _ =>
          cases hd
          refine ⟨_, rfl, _, _, _, _, _, rfl, s1 _ _ ex, TD.cl, TD.no _ List.mem_cons_self, rfl, ?_⟩
          refine ixi (j := 1) rfl (s1 _ _ ha) rfl ⟨rfl, ?_⟩
          rw [decide_eq_true (rfl : V.str i = V.str i)]
          exact q H1 s1
        | _ => exact (by cases (show some ("way" : Str) = none from hf))
    | unborne =>
      cases hc with
      | unborne ex =>
      cases hv with
      | @tup a xs ds _ ha hx =>
        cases hx with
        | cons h1 h2 =>
        cases h1
        cases h2
        refine word "unborne" "number" a _ _ _ rfl ha ⟨_, rfl, ite2 (fun g => absurd g (by decide +kernel)) (fun _ => tNext_of ?_)⟩
        refine kind "unborne" a _ _ _ rfl ha fun H1 s1 => ⟨_, rfl, ite2 (fun g => absurd g (by decide +kernel)) (fun _ => tNext_of ?_)⟩
        refine ixi (j := 0) rfl (s1 _ _ ha) rfl ⟨rfl, ?_⟩
        exact ⟨_, rfl, ite2 (fun _ => q H1 s1) (fun g => absurd (by decide +kernel) g)⟩
    | never =>
      cases hc with
      | never ex =>
      cases hv with
      | @tup a xs ds _ ha hx =>
        cases hx with
        | cons h1 h2 =>
        cases h1
        cases h2
        refine word "never" "number" a _ _ _ rfl ha ⟨_, rfl, ite2 (fun g => absurd g (by decide +kernel)) (fun _ => tNext_of ?_)⟩
        refine kind "never" a _ _ _ rfl ha fun H1 s1 => ⟨_, rfl, ite2 (fun g => absurd g (by decide +kernel)) (fun _ => tNext_of ?_)⟩
        refine ixi (j := 0) rfl (s1 _ _ ha) rfl ⟨rfl, ?_⟩
        exact ⟨_, rfl, ite2 (fun _ => q H1 s1) (fun g => absurd (by decide +kernel) g)⟩
    | unl d e =>
      cases hc with
      | unl ex hd hd2 =>
      cases hv with
      | @tup a xs ds _ ha hx =>
        cases hx with
        | cons h1 h2 =>
        cases h1
        cases h2 with
        | @cons u us _ _ hu h3 =>
        cases h3 with
        | @cons u2 us2 _ _ hu2 h4 =>
        cases h4
        refine word "unlike" "number" a _ _ _ rfl ha ⟨_, rfl, ite2 (fun g => absurd g (by decide +kernel)) (fun _ => tNext_of ?_)⟩
        refine kind "unlike" a _ _ _ rfl ha fun H1 s1 => ⟨_, rfl, ite2 (fun g => absurd g (by decide +kernel)) (fun _ => tNext_of ?_)⟩
        refine ixi (j := 0) rfl (s1 _ _ ha) rfl ⟨rfl, ?_⟩
        refine ⟨_, rfl, ite2 (fun g => absurd g (by decide +kernel)) (fun _ => ?_)⟩
        have hb : strD srcV d = true ∧ strD srcV e = true := Classical.byContradiction fun z => by
          have hf : (if strD srcV d = true ∧ strD srcV e = true then none else some "source" : Option Str) = none := hf
          rw [if_neg z] at hf
          cases hf
        cases hu with
        | str i _ _ =>
          cases hu2 with
          | str j _ _ =>
            cases hd
            cases hd2
            refine ⟨_, rfl, _, _, _, _, _, rfl, s1 _ _ ex, TU.cl, TU.no _ List.mem_cons_self, rfl, ?_⟩
            refine ixi (j := 1) rfl (s1 _ _ ha) rfl ⟨rfl, ?_⟩
            refine ⟨_, rfl, ite2 (fun _ => ?_) (fun g => absurd (decide_eq_true (rfl : V.str i = V.str i)) g)⟩
            refine ⟨_, rfl, _, _, _, _, _, rfl, s1 _ _ ex, TU.cl, TU.no _ (List.mem_cons_of_mem _ List.mem_cons_self), rfl, ?_⟩
            refine ixi (j := 2) rfl (s1 _ _ ha) rfl ⟨rfl, ?_⟩
            rw [decide_eq_true (rfl : V.str j = V.str j)]
            exact q H1 s1
          | _ => exact (by cases (show false = true from hb.2))
        | _ => exact (by cases (show false = true from hb.1))
end
end K08

/-! a condition asked for: made, or refused by which word -/
namespace K08
open PySem PySem.Spec PyProof.Rows L2
/-- isinstance of the error that a suite holds, with fields of its own -/
def rIsD (K : PySem.W.Frag) (D a : Addr) (cls : Value) (d : Option Addr) : List V → Hp → VK → Prop := fun xs H Q => ∃ (c : V) (cv : Value) (b : Bool) (dd : Addr) (fs : List (Str × V)), xs = [.ref a, c] ∧ cls = .ref D ∧ d = some dd ∧ H dd = some (.xd fs) ∧ (∀ u, RelV c u → u = cv) ∧ PySem.W.kitOne K (.ref D) cv = some b ∧ Q (.bl b) H
theorem clsIn_some {K : PySem.W.Frag} {D : Addr} (h : PySem.W.hasDictIn K D = true) : (PySem.W.clsIn K D).isSome = true := by
  obtain ⟨cd, hc, _⟩ := PySem.W.any_some h
  rw [hc]
  rfl
theorem call_isD {X : Cx} {a D : Addr} {oe : Obj} {cls : Value} {d : Option Addr} {pn : List (Addr × Obj)} (C : ExcC X.K D) (hz : Zc cls d oe) (hf : ∃ vs, oe.data = .fields vs) : CallR (X.suite a ((a, oe) :: pn)) (.builtin "isinstance") (rIsD X.K D a cls d) := by
  intro pins s σ H xs us Q I r h
  obtain ⟨c, cv, b, dd, fs, rfl, rfl, rfl, ed, hcv, e, q⟩ := h
  obtain ⟨u1, u2, rfl, r1, r2⟩ := vals2 r
  cases (show u1 = Value.ref a from r1)
  have ec := hcv _ r2
  subst ec
  obtain ⟨hget, _⟩ := I.pin (a, oe) (List.mem_append.mpr (.inl List.mem_cons_self))
  obtain ⟨vs, hv⟩ := hf
  have hx : ObjOk X.prog X.w H s.heap dd (.xd fs) := I.hok dd _ ed
  obtain ⟨mA, hns, hr⟩ := hx
  obtain ⟨od, ho, hl⟩ := lookIn_ns hns
  have J : PySem.W.InstAt s.heap a oe D (some od) := ⟨hget, hz.1, by unfold PySem.W.notCls; rw [hv] <;> rfl, by rw [hz.2]; exact ho⟩
  exact PySem.W.kia_one (PySem.W.kitx_exc (clsIn_some C.hd) C.hg C.hk C.hs C.ha C.hn C.ht C.hm) I.kIn J e (fun z => nomatch z) fun tk => ⟨.bl b, H, I.tok tk, rfl, q⟩
/-- an own error as a suite sees it: below CustomError, not the other -/
structure CauX (K : PySem.W.Frag) (mg : Str → Option Value) (x y : Str) (ns : List Str) (CE CU CB : Addr) : Prop where
  gE : mg x = some (.ref CE)
  xf : XfC K CE
  exC : ExcC K CE
  nF : ∀ n ∈ ns, PySem.W.findIn K (.ref CE) n = some none
  ex : PySem.W.exmOne K (.ref CE) (.ref CE) = some true
  gC : mg "CustomError" = some (.ref CU)
  kC : PySem.W.kitOne K (.ref CE) (.ref CU) = some true
  kV : PySem.W.kitOne K (.ref CE) (.type "ValueError") = some true
  gB : mg y = some (.ref CB)
  kB : PySem.W.kitOne K (.ref CE) (.ref CB) = some false
def spTold (Cs : C6) : Sp := fun vs H Q _ => ∃ (v : V) (r : R8), vs = [v] ∧ Dt Any H v (r8D r) ∧
  (fltR r = none → ∀ (H' : Hp) (x : V), Same H H' → Cnd Cs H' x r → Q x H') ∧ ∀ z, fltR r = some z → ∀ H', Same H H' → Q (.str z) H'
section
variable {P : Program} {w : World} {K : PySem.W.Frag} {mg : Str → Option Value} {base : Heap}
theorem ok_told {Cs : C6} {f CE CU CB fM : Addr} {fd fdM : FuncData} (F : FnP K "_law_told" sTold f fd) (z_isinstance : mg "isinstance" = none) (z_VE : mg "ValueError" = none) (X : CauX K mg "BadCondition" "BadClause" ["what"] CE CU CB)
    (gM : mg "_law_make_condition" = some (.ref fM)) (okM : FnOk P w K mg base (L2.CX P w) 5 fM fdM ["_law_row_here"] (spMkc Cs CE)) (bM : Binds K fdM ["_law_row_here"] []) (kM : PySem.W.keepIn K (.ref fM) = true) : FnOk P w K mg base CX0 6 f fd ["_law_row_here"] (spTold Cs) := by
  have sc : FnScope ["_law_row_here", "e"] ["_law_row_here"] (defScope sTold) := ⟨rfl, rfl, rfl, by decide +kernel, rfl, by decide +kernel, by decide +kernel⟩
  refine F.ok sc (fun vs H Q E h => ?_) (fun cdv A outer s H vs Q E hr h => ?_)
  · obtain ⟨v, r, rfl, _⟩ := h
    rfl
  · obtain ⟨v, r, rfl, hv, q1, q2⟩ := h
    refine ⟨_, pss_one (ps_try_as (i := 1)
        (tb := fun W => tRet (tCallS (spMkc Cs CE) (WE W) (tCons (tVar 0) tNil)))
        (ts := fun a cls d => tSeq (tIfS (tOr (tNot (tB (tCB (rIsD K CE a cls d) (tCons (tVar 1) (tCons (tC (.ref CU)) tNil))))) (tOr (tNot (tB (tCB (rIsD K CE a cls d) (tCons (tVar 1) (tCons (tC (.ty "ValueError")) tNil))))) (tB (tCB (rIsD K CE a cls d) (tCons (tVar 1) (tCons (tC (.ref CB)) tNil))))))
          (tRet (tC (.str "class"))) tNext) (tRet (tXf a cls d CE "what" (tVar 1))))
        (Wout := fun _ _ _ _ => False) rfl rfl sc.nd rfl rfl ⟨rfl, by decide, .inl X.gE⟩ takes0
        (fun W pn xe tk _ => pss_one (ps_ret (pe_callS okM hr (by rfl) gM kM bM (fun σ => passAt tk σ) (pa_cons (pv 0) pa_nil))))
        (fun a oe cls d pn hz hf => pss_cons (ps_if (PW.pt (pw_or (pt_not (pt_val (pe_callB (call_isD X.exC hz hf) (by rfl) z_isinstance (by decide +kernel) (pa_cons (pv 1) (pa_cons (pe_glob (by rfl) X.gC (v := .ref CU) rfl (by decide +kernel)) pa_nil)))))
          (pw_or (pt_not (pt_val (pe_callB (call_isD X.exC hz hf) (by rfl) z_isinstance (by decide +kernel) (pa_cons (pv 1) (pa_cons (pe_bltn (by rfl) z_VE (by decide +kernel) (v := .ty "ValueError") rfl) pa_nil)))))
            (pw_or1 (pt_val (pe_callB (call_isD X.exC hz hf) (by rfl) z_isinstance (by decide +kernel) (pa_cons (pv 1) (pa_cons (pe_glob (by rfl) X.gB (v := .ref CB) rfl (by decide +kernel)) pa_nil))))))))
          (pss_one (ps_ret pe_str)) pss_nil)
          (pss_one (ps_ret (pe_xf X.xf (X.nF _ List.mem_cons_self) hz hf (pv 1)))))), ?_⟩
    refine ⟨_, rfl, v, r, rfl, hv, fun e H1 x s1 hc => q1 e H1 x s1 hc, fun z ez H1 d nd hd s1 => ?_⟩
    refine ⟨true, X.ex, fun _ a0 na0 => ?_, fun z => by cases z⟩
    refine ⟨_, rfl, _, _, true, d, _, rfl, rfl, rfl, hd, fun u z => z, X.kC, _, rfl, iteF ?_⟩
    refine ⟨_, rfl, _, _, true, d, _, rfl, rfl, rfl, hd, fun u z => z, X.kV, _, rfl, iteF ?_⟩
    refine ⟨_, rfl, _, _, false, d, _, rfl, rfl, rfl, hd, fun u z => z, X.kB, _, rfl, iteF (tNext_of ?_)⟩
    exact ⟨_, rfl, rfl, rfl, d, _, _, rfl, hd, rfl, q2 z ez _ s1⟩
end
end K08

/-! a condition is as its row says, or refused as it must be -/
namespace K08
open PySem PySem.Spec PyProof.Rows L2
/-- an own class as isinstance sees it: below CC or not -/
structure ClsI (K : PySem.W.Frag) (CC : Addr) (b : Bool) (C : Addr) : Prop where
  cl : Cls K C
  ha : PySem.W.findIn K (.ref C) "__class__" = some (some (.builtin "object.__class__"))
  hn : PySem.W.specialIn K (.builtin "object.__class__") "__get__" = some (some (.builtin "getset_descriptor.__get__"))
  htk : PySem.W.takesIn K (.builtin "object.__class__") = some true
  hm : PySem.W.mroIn K C (.type "object") = some true
  kS : PySem.W.kitOne K (.ref C) (.type "str") = some false
  kT : PySem.W.kitOne K (.ref C) (.type "tuple") = some false
  kC : PySem.W.kitOne K (.ref C) (.ref CC) = some b
theorem ClsI.ty {K : PySem.W.Frag} {CC C a dx : Addr} {b : Bool} {H : Hp} {fs : List (Str × V)} (h : ClsI K CC b C) (e : H a = some (.ins C dx fs)) : TyX K H (.ref a) (.ref C) := .base (.ins e h.cl h.ha h.hn h.htk h.hm)
def C6.all (Cs : C6) : List Addr := [Cs.n, Cs.a, Cs.d, Cs.u, Cs.b, Cs.v]
def csOf (Cs : C6) : List ShoR := [(Cs.n, RNum), (Cs.a, RWay "alive "), (Cs.d, RWay "dead "), (Cs.u, RUnl), (Cs.b, RSay "unborne"), (Cs.v, RSay "never")]
theorem Cnd.ins {Cs : C6} {H : Hp} {x : V} {r : R8} (h : Cnd Cs H x r) : ∃ (a C dx : Addr) (fs : List (Str × V)), x = .ref a ∧ H a = some (.ins C dx fs) ∧ C ∈ Cs.all := by
  cases h with
  | num e _ => exact ⟨_, _, _, _, rfl, e, by simp [C6.all]⟩
  | alive e _ => exact ⟨_, _, _, _, rfl, e, by simp [C6.all]⟩
  | dead e _ => exact ⟨_, _, _, _, rfl, e, by simp [C6.all]⟩
  | unl e _ _ => exact ⟨_, _, _, _, rfl, e, by simp [C6.all]⟩
  | unborne e => exact ⟨_, _, _, _, rfl, e, by simp [C6.all]⟩
  | never e => exact ⟨_, _, _, _, rfl, e, by simp [C6.all]⟩
theorem Cnd.same {Cs : C6} {H H' : Hp} {x : V} {r : R8} (h : Cnd Cs H x r) (s : Same H H') : Cnd Cs H' x r := by
  cases h with
  | num e d => exact .num (s _ _ e) (d.same s)
  | alive e d => exact .alive (s _ _ e) (d.same s)
  | dead e d => exact .dead (s _ _ e) (d.same s)
  | unl e d d2 => exact .unl (s _ _ e) (d.same s) (d2.same s)
  | unborne e => exact .unborne (s _ _ e)
  | never e => exact .never (s _ _ e)
theorem whole_int {S : Addr → Prop} {H : Hp} {u : V} {d : PyData} (h : Dt S H u d) (hb : wholeD d 1 4 = true) : ∃ i : Int, u = .int i ∧ d = .int i ∧ 1 ≤ i ∧ i ≤ 4 := by
  cases h with
  | int i =>
    have hb : (decide ((1 : Int) ≤ i) && decide (i ≤ 4)) = true := hb
    obtain ⟨g1, g4⟩ := Bool.and_eq_true_iff.mp hb
    exact ⟨i, rfl, rfl, of_decide_eq_true g1, of_decide_eq_true g4⟩
  | _ => cases (show false = true from hb)
theorem str_str {S : Addr → Prop} {H : Hp} {u : V} {d : PyData} {g : V → Bool} (h : Dt S H u d) (hb : strD g d = true) : ∃ x : Str, u = .str x ∧ d = .str x ∧ x.length ≤ 1000 := by
  cases h with
  | str x hx _ => exact ⟨x, rfl, rfl, hx⟩
  | _ => cases (show false = true from hb)
theorem if_none {c : Prop} [Decidable c] {z : Str} (h : (if c then none else some z : Option Str) = none) : c := Classical.byContradiction fun n => by
  rw [if_neg n] at h
  cases h
theorem cnd_sho {Cs : C6} {H : Hp} {x : V} {r : R8} (hc : Cnd Cs H x r) (hf : fltR r = none) : Sho (csOf Cs) H x (txtR r) ∧ (txtR r).length ≤ 4000 := by
  cases hc with
  | num e hd =>
    obtain ⟨i, rfl, rfl, h1, h4⟩ := whole_int hd (if_none hf)
    have e1 : txtR (.num (.int i)) = Str.empty ++ ("number " : Str) ++ (toString i : Str) := by
      show ("number" : Str) ++ (" " : Str) ++ (toString i : Str) = _
      rw [show ("number" : Str) ++ (" " : Str) = Str.empty ++ ("number " : Str) by decide +kernel]
    refine ⟨.ins (R := RNum) e (by simp [csOf]) ⟨i, rfl, h1, h4, e1⟩, ?_⟩
    obtain rfl | rfl | rfl | rfl : i = 1 ∨ i = 2 ∨ i = 3 ∨ i = 4 := by omega
    all_goals decide +kernel
  | alive e hd =>
    obtain ⟨y, rfl, rfl, hy⟩ := str_str hd (if_none hf)
    have e1 : txtR (.alive (.str y)) = Str.empty ++ ("alive " : Str) ++ y := by
      show ("alive" : Str) ++ (" " : Str) ++ y = _
      rw [show ("alive" : Str) ++ (" " : Str) = Str.empty ++ ("alive " : Str) by decide +kernel]
    refine ⟨.ins (R := RWay "alive ") e (by simp [csOf]) ⟨y, rfl, hy, e1⟩, ?_⟩
    rw [e1, len_cat, show (Str.empty ++ ("alive " : Str)).length = 6 by decide +kernel]
    omega
  | dead e hd =>
    obtain ⟨y, rfl, rfl, hy⟩ := str_str hd (if_none hf)
    have e1 : txtR (.dead (.str y)) = Str.empty ++ ("dead " : Str) ++ y := by
      show ("dead" : Str) ++ (" " : Str) ++ y = _
      rw [show ("dead" : Str) ++ (" " : Str) = Str.empty ++ ("dead " : Str) by decide +kernel]
    refine ⟨.ins (R := RWay "dead ") e (by simp [csOf]) ⟨y, rfl, hy, e1⟩, ?_⟩
    rw [e1, len_cat, show (Str.empty ++ ("dead " : Str)).length = 5 by decide +kernel]
    omega
  | unl e hd hd2 =>
    obtain ⟨h1, h2⟩ := if_none hf
    obtain ⟨y, rfl, rfl, hy⟩ := str_str hd h1
    obtain ⟨y2, rfl, rfl, hy2⟩ := str_str hd2 h2
    have e1 : txtR (.unl (.str y) (.str y2)) = Str.empty ++ ("unlike " : Str) ++ y ++ (" " : Str) ++ y2 := by
      show ("unlike " : Str) ++ y ++ (" " : Str) ++ y2 = _
      rw [show Str.empty ++ ("unlike " : Str) = ("unlike " : Str) by decide +kernel]
    refine ⟨.ins (R := RUnl) e (by simp [csOf]) ⟨y, y2, rfl, hy, hy2, e1⟩, ?_⟩
    rw [e1, len_cat, len_cat, len_cat, show (Str.empty ++ ("unlike " : Str)).length = 7 by decide +kernel, show (" " : Str).length = 1 by decide +kernel]
    omega
  | unborne e => exact ⟨.ins (R := RSay "unborne") e (by simp [csOf]) ⟨rfl, rfl⟩, by show ("unborne" : Str).length ≤ 4000; decide +kernel⟩
  | never e => exact ⟨.ins (R := RSay "never") e (by simp [csOf]) ⟨rfl, rfl⟩, by show ("never" : Str).length ≤ 4000; decide +kernel⟩
theorem bl_true {Q : VK} {H : Hp} {p : Prop} [Decidable p] (h : p) (q : Q (.bl true) H) : Q (.bl (decide p)) H := by
  rw [decide_eq_true h]
  exact q
def spCnr : Sp := fun vs H Q _ => ∃ (v : V) (r : R8), vs = [v] ∧ Dt Any H v (r8D r) ∧ ∀ H', Same H H' → Q (.bl true) H'
section
variable {P : Program} {w : World} {K : PySem.W.Frag} {mg : Str → Option Value} {base : Heap}
theorem ok_cnr {Cs : C6} {f CC fF fT fP fX : Addr} {fd fdF fdT fdP fdX : FuncData} (F : FnP K "_law_condition_right" sConditionRight f fd) (z_isinstance : mg "isinstance" = none) (z_str : mg "str" = none) (gC : mg "Condition" = some (.ref CC)) (hI : ∀ C ∈ Cs.all, ClsI K CC true C) (hS : ∀ p ∈ csOf Cs, StrOk P w K mg base p)
    (dF : Df P w K mg base "_law_fault" 4 ["_law_row_here"] spFlt fF fdF) (dT : Df P w K mg base "_law_told" 6 ["_law_row_here"] (spTold Cs) fT fdT) (dP : Df P w K mg base "_law_parts" 1 ["_law_made", "_law_row_here"] (spPar Cs) fP fdP) (dX : Df P w K mg base "_law_condition_text" 1 ["_law_row_here"] spCtx fX fdX) : FnOk P w K mg base CX0 7 f fd ["_law_row_here"] spCnr := by
  have sc : FnScope ["_law_row_here", "_law_due", "_law_told_here", "_law_text"] ["_law_row_here"] (defScope sConditionRight) := ⟨rfl, rfl, rfl, by decide +kernel, rfl, by decide +kernel, by decide +kernel⟩
  refine F.ok sc (fun vs H Q E h => ?_) (fun cdv A outer s H vs Q E hr6 h => ?_)
  · obtain ⟨v, r, rfl, _⟩ := h
    rfl
  · obtain ⟨v, r, rfl, hv, q⟩ := h
    have hr4 := hr6.mono (show 4 ≤ 6 by decide)
    have hr3 := hr6.mono (show 3 ≤ 6 by decide)
    have hr1 := hr6.mono (show 1 ≤ 6 by decide)
    refine ⟨_, PSs.nox (pss_cons (ps_par (i := 1) (j := 2) rfl sc.nd rfl rfl (by decide) rfl rfl (pa_cons (pe_call dF.ok hr4 (by rfl) dF.gl dF.kp dF.bi .nil pass0 (pa_cons (pv 0) pa_nil)) (pa_cons (pe_call dT.ok hr6 (by rfl) dT.gl dT.kp dT.bi .nil pass0 (pa_cons (pv 0) pa_nil)) pa_nil)) rfl)
    (pss_cons (ps_if (pt_cmpR op_notN (pv 1) pe_non (nomark _))
      (pss_one (ps_ret (pe_and (pe_callB call_isi (by rfl) z_isinstance (by decide +kernel) (pa_cons (pv 2) (pa_cons (pe_bltn (by rfl) z_str (by decide +kernel) (v := .ty "str") rfl) pa_nil))) (pe_one (pe_cmpR op_eq (pv 2) (pv 1) (nomark _))))))
      pss_nil)
    (pss_cons (ps_if (PW.pt (pw_or (pt_val (pe_callB call_isi (by rfl) z_isinstance (by decide +kernel) (pa_cons (pv 2) (pa_cons (pe_bltn (by rfl) z_str (by decide +kernel) (v := .ty "str") rfl) pa_nil)))) (pw_or (pt_not (pt_val (pe_callB call_isi (by rfl) z_isinstance (by decide +kernel) (pa_cons (pv 2) (pa_cons (pe_glob (by rfl) gC (v := .ref CC) rfl (by decide +kernel)) pa_nil))))) (pw_or1 (pt_not (pt_val (pe_call dP.ok hr1 (by rfl) dP.gl dP.kp dP.bi .nil pass0 (pa_cons (pv 2) (pa_cons (pv 0) pa_nil)))))))))
      (pss_one (ps_ret pe_bl))
      pss_nil)
    (pss_cons (ps_set (i := 3) sc.nd rfl (.inl rfl) (pe_callTy (call_strAny hS hr3) (by rfl) z_str (by decide +kernel) (pa_cons (pv 2) pa_nil)))
    (pss_one (ps_ret (pe_and (pe_callB call_isi (by rfl) z_isinstance (by decide +kernel) (pa_cons (pv 3) (pa_cons (pe_bltn (by rfl) z_str (by decide +kernel) (v := .ty "str") rfl) pa_nil))) (pe_one (pe_cmpR op_eq (pv 3) (pe_call dX.ok hr1 (by rfl) dX.gl dX.kp dX.bi .nil pass0 (pa_cons (pv 0) pa_nil)) (nomark _)))))))))), ?_⟩
    refine ⟨_, rfl, v, r, rfl, hv, fun H1 s1 => ?_⟩
    refine ⟨_, rfl, v, r, rfl, hv.same s1, fun e H2 x s2 hc => ?_, fun z e H2 s2 => ?_⟩
    · have s12 := s1.trans s2
      have hv2 := hv.same s12
      rw [e]
      obtain ⟨a, C, dx, fs, rfl, ea, hm⟩ := hc.ins
      have CI := hI C hm
      have ty := CI.ty ea
      obtain ⟨hsho, hlen⟩ := cnd_sho hc e
      refine ⟨_, _, rfl, _, rfl, rfl, _, rfl, iteF (tNext_of ?_)⟩
      refine ⟨_, rfl, _, _, _, _, false, rfl, .ty _, ty, CI.kS, _, rfl, iteF ?_⟩
      refine ⟨_, rfl, _, _, _, _, true, rfl, .own _, ty, CI.kC, _, rfl, iteF ?_⟩
      refine ⟨_, rfl, _, rfl, _, v, r, rfl, hc, hv2, e, fun H3 s3 => ⟨_, rfl, iteF (tNext_of ?_)⟩⟩
      refine ⟨_, rfl, _, _, rfl, hsho.same s3, ?_⟩
      refine ⟨_, rfl, _, _, _, _, true, rfl, .ty _, .base (.str _), kit_ty (by decide +kernel), _, rfl, iteT ?_⟩
      refine ⟨_, rfl, _, rfl, v, r, rfl, hv2.same s3, e, rfl, ?_⟩
      exact bl_true (Q := Q) rfl (q _ (s12.trans s3))
    · rw [e]
      refine ⟨_, _, rfl, _, rfl, rfl, _, rfl, iteT ?_⟩
      refine ⟨_, rfl, _, _, _, _, true, rfl, .ty _, .base (.str _), kit_ty (by decide +kernel), _, rfl, iteT ?_⟩
      refine ⟨_, rfl, _, rfl, rfl, ?_⟩
      exact bl_true (Q := Q) rfl (q _ (s1.trans s2))
end
end K08

/-! C(..) of a class whose __init__ takes what comes and may raise -/
namespace K08
open PySem PySem.Spec PyProof.Rows L2
def tMakeRS (C : Addr) (sp : Sp) (E : L2.St → XK) (t : TA) : TE := fun σ H Q => t σ H fun vs H1 => ∀ x dx, H1 x = none → H1 dx = none → dx ≠ x →
  sp (.ref x :: vs) (upd (upd H1 dx (.own x)) x (.ins C dx [])) (fun v H2 => v = .non ∧ Q (.ref x) H2) (E σ)
section
variable {X : Cx} {CX : CXT} {k : Nat} {f C : Addr} {sp : Sp} {E : L2.St → XK} {x : Str} {p pos : Pos} {e : Expr} {es : List Expr} {t : TA}
theorem run_makeRS {pins : List (Addr × Obj)} {σ : L2.St} {H : Hp} {s : Shared} {Q : VK} {us : List Value} {vs : List V} (M : Mk X.K C f) (F : FnR X.prog X.w X.K X.mg X.base CX k f sp) (hr : Room (k + 1) X.A)
    (hx : PassesAt CX X σ (E σ)) (I : Inv X pins σ H s) (r : Vals vs us)
    (h : ∀ x dx, H x = none → H dx = none → dx ≠ x → sp (.ref x :: vs) (upd (upd H dx (.own x)) x (.ins C dx [])) (fun v H2 => v = .non ∧ Q (.ref x) H2) (E σ)) :
    wpAny (model X.prog X.w) X.A (call (.ref C) us) (EP X pins σ Q) X.xe s := by
  have hq := h (s.heap.objs.size + 1) s.heap.objs.size (I.hok.fresh (Nat.le_succ _)) (I.hok.fresh (Nat.le_refl _)) (Nat.ne_of_lt (Nat.lt_succ_self _))
  have I2 := Inv.made (C := C) I
  have r2 : Vals (V.ref (s.heap.objs.size + 1) :: vs) (Value.ref (s.heap.objs.size + 1) :: us) := .cons rfl r
  refine wpAny_call (make_map (f := f) I.kIn M.makes M.init (beq_iff_eq.mp M.fn) (codeAny_mono (F _ X.stack _ _ (Value.ref (s.heap.objs.size + 1) :: us) _ _ (E σ) (hr.make C us []) (I2.env0.make C us []) r2 hq) fun r s' hq' => ?_))
  cases r with
  | error e => exact hx pins _ _ e s' I2 hq'
  | ok fl =>
    cases fl with
    | ret u =>
      obtain ⟨v, H', I3, rv, ev, q3⟩ := I2.after hq'
      subst ev
      exact ⟨rv, ⟨V.ref (s.heap.objs.size + 1), H', I3, rfl, q3⟩⟩
    | next => exact False.elim hq'
    | brk => exact False.elim hq'
    | cont => exact False.elim hq'
theorem pe_makeRS (M : Mk X.K C f) (F : FnR X.prog X.w X.K X.mg X.base CX k f sp) (hr : Room (k + 1) X.A) (hg : Gl X x) (hm : X.mg x = some (.ref C)) (hx : ∀ σ, PassesAt CX X σ (E σ))
    (ha : PA X (e :: es) t) (hdb : (x == ("__debug__" : Str)) = false := by decide) (he : starEach (e :: es) X.env = (false, eval e X.env) :: starEach es X.env := by rfl) (hpl : (backTo pos (starEach es X.env)).any (·.1) = false := by rfl) :
    PE X (.Call (.Name x p) (e :: es) [] pos) (tMakeRS C sp E t) := by
  refine ⟨fun pins s σ H Q I h => ?_⟩
  refine wpAny_Call_Name_kw (ld_glob I hg hm ?_ hdb)
  refine PySem.W.callWith_K (h₀ := X.base) I.ok.mod.kin M.kp (thn (ha.run pos pins s σ H _ I h) fun us s1 ⟨vs, H1, I1, r, q⟩ => ⟨I1.kIn, ?_⟩) he hpl
  exact run_makeRS M F hr (hx σ) I1 r q
theorem pe_makeRS0 (M : Mk X.K C f) (F : FnR X.prog X.w X.K X.mg X.base CX k f sp) (hr : Room (k + 1) X.A) (hg : Gl X x) (hm : X.mg x = some (.ref C)) (hx : ∀ σ, PassesAt CX X σ (E σ)) (hdb : (x == ("__debug__" : Str)) = false := by decide) :
    PE X (.Call (.Name x p) [] [] pos) (tMakeRS C sp E tNil) := by
  refine ⟨fun pins s σ H Q I h => ?_⟩
  refine wpAny_Call_Name_kw (ld_glob I hg hm ?_ hdb)
  refine PySem.W.callWith_K0 I.kIn M.kp ?_
  exact run_makeRS M F hr (hx σ) I .nil h
end
end K08

/-! clauses of up to four parts -/
namespace K08
open PySem PySem.Spec PyProof.Rows L2
/-- a class with an __init__ that takes what comes -/
structure MkR (P : Program) (w : World) (K : PySem.W.Frag) (mg : Str → Option Value) (base : Heap) (x : Str) (sp : Sp) (C fI : Addr) : Prop where
  mks : Mk K C fI
  gl : mg x = some (.ref C)
  ok : FnR P w K mg base (L2.CX P w) 3 fI sp
def FreAt (CF : Addr) (H : Hp) (x : Addr) (ys : List V) : Prop := ∃ dx tp : Addr, H x = some (.ins CF dx [("bars", .ref tp)]) ∧ H tp = some (.tup ys)
def TakAt (CT : Addr) (H : Hp) (x : Addr) (src : V) (ys : List V) : Prop := ∃ dx tp : Addr, H x = some (.ins CT dx [("source", src), ("conditions", .ref tp)]) ∧ H tp = some (.tup ys)
theorem FreAt.same {CF : Addr} {H H' : Hp} {x : Addr} {ys : List V} (h : FreAt CF H x ys) (s : Same H H') : FreAt CF H' x ys := let ⟨dx, tp, a, b⟩ := h; ⟨dx, tp, s _ _ a, s _ _ b⟩
theorem TakAt.same {CT : Addr} {H H' : Hp} {x : Addr} {src : V} {ys : List V} (h : TakAt CT H x src ys) (s : Same H H') : TakAt CT H' x src ys := let ⟨dx, tp, a, b⟩ := h; ⟨dx, tp, s _ _ a, s _ _ b⟩
theorem none_up {H : Hp} {p d : Addr} {o : HO} (n : upd H p o d = none) : H d = none := by
  have n1 : d ≠ p := fun z => by
    rw [z, upd_same] at n
    cases n
  rwa [upd_ne n1] at n
/-- Free(..), made or refused -/
theorem free_made {CF CE : Addr} {H : Hp} {ys : List V} {Q : VK} {E : XK} (od : ∀ y ∈ ys, ∃ t, Odd H y t) (few : ys.length ≤ 64)
    (q1 : freF (ys.map barV) = none → ∀ (H' : Hp) (x : Addr), Same H H' → H x = none → FreAt CF H' x ys → Q (.ref x) H')
    (q0 : ∀ i z, freF (ys.map barV) = some (i, z) → ∀ (H' : Hp) (d : Addr), H d = none → H' d = some (.xd (patF (i : Nat) z)) → Same H H' → E (.ref CE) (some d) H') :
    ∀ x dx, H x = none → H dx = none → dx ≠ x → spFree CF CE (.ref x :: ys) (upd (upd H dx (.own x)) x (.ins CF dx [])) (fun v H2 => v = .non ∧ Q (.ref x) H2) E := by
  intro x dx nx nd ne
  have s0 := same_ins (C := CF) (fs := []) nx nd ne
  refine ⟨[.ref x], ys, rfl, rfl, Nat.le_trans few (by decide), fun p np => ?_⟩
  have npx : x ≠ p := fun z => by
    rw [← z, upd_same] at np
    cases np
  have sp := s0.trans (same_upd (o := .tup ys) np)
  refine ⟨x, dx, p, ys, rfl, (upd_ne npx).trans upd_same, upd_same, few, fun y hy => ?_, fun e H' hx k => ⟨rfl, ?_⟩, fun i z e H' d nd' hd s => ?_⟩
  · obtain ⟨t, o⟩ := od y hy
    exact ⟨t, o.same sp⟩
  · refine q1 e H' x (fun y o e' => k y o (sp _ _ e') (ne_of_none e' nx)) nx ⟨dx, p, hx, k p _ upd_same (Ne.symm npx)⟩
  · exact q0 i z e H' d (none_mk (none_up nd')) hd (sp.trans s)
theorem take_made {K : PySem.W.Frag} {CT CC CE : Addr} {H : Hp} {src : V} {ts : String} {ys : List V} {bs : List Bool} {Q : VK} {E : XK} (ho : Odd H src ts) (hl : ys.length = bs.length) (few : ys.length ≤ 64)
    (hI : ∀ (i : Nat) y b, ys[i]? = some y → bs[i]? = some b → Itm K CC H y b)
    (q1 : takF (srcV src) bs = none → ∀ (H' : Hp) (x : Addr), Same H H' → H x = none → TakAt CT H' x src ys → Q (.ref x) H')
    (q0 : ∀ i z, takF (srcV src) bs = some (i, z) → ∀ (H' : Hp) (d : Addr), H d = none → H' d = some (.xd (patF (i : Nat) z)) → Same H H' → E (.ref CE) (some d) H') :
    ∀ x dx, H x = none → H dx = none → dx ≠ x → spTake K CT CC CE (.ref x :: src :: ys) (upd (upd H dx (.own x)) x (.ins CT dx [])) (fun v H2 => v = .non ∧ Q (.ref x) H2) E := by
  intro x dx nx nd ne
  have s0 := same_ins (C := CT) (fs := []) nx nd ne
  refine ⟨[.ref x, src], ys, rfl, rfl, Nat.le_trans few (by decide), fun p np => ?_⟩
  have npx : x ≠ p := fun z => by
    rw [← z, upd_same] at np
    cases np
  have sp := s0.trans (same_upd (o := .tup ys) np)
  refine ⟨x, dx, p, src, ts, ys, bs, rfl, (upd_ne npx).trans upd_same, ho.same sp, upd_same, hl, few, fun i y b e1 e2 => (hI i y b e1 e2).same sp, fun e H' hx k => ⟨rfl, ?_⟩, fun i z e H' d nd' hd s => ?_⟩
  · refine q1 e H' x (fun y o e' => k y o (sp _ _ e') (ne_of_none e' nx)) nx ⟨dx, p, hx, k p _ upd_same (Ne.symm npx)⟩
  · exact q0 i z e H' d (none_mk (none_up nd')) hd (sp.trans s)
def spLFr (CF CE : Addr) : Sp := fun vs H Q E => ∃ (l : Addr) (ys : List V), vs = [.ref l] ∧ H l = some (.lst ys) ∧ ys.length ≤ 4 ∧ (∀ y ∈ ys, ∃ t, Odd H y t) ∧
  (freF (ys.map barV) = none → ∀ (H' : Hp) (x : Addr), Same H H' → H x = none → FreAt CF H' x ys → Q (.ref x) H') ∧
  (∀ i z, freF (ys.map barV) = some (i, z) → ∀ (H' : Hp) (d : Addr), H d = none → H' d = some (.xd (patF (i : Nat) z)) → Same H H' → E (.ref CE) (some d) H')
def spLTk (K : PySem.W.Frag) (CT CC CE : Addr) : Sp := fun vs H Q E => ∃ (l : Addr) (src : V) (ts : String) (ys : List V) (bs : List Bool), vs = [src, .ref l] ∧ H l = some (.lst ys) ∧ ys.length ≤ 4 ∧ Odd H src ts ∧ ys.length = bs.length ∧ (∀ (i : Nat) y b, ys[i]? = some y → bs[i]? = some b → Itm K CC H y b) ∧
  (takF (srcV src) bs = none → ∀ (H' : Hp) (x : Addr), Same H H' → H x = none → TakAt CT H' x src ys → Q (.ref x) H') ∧
  (∀ i z, takF (srcV src) bs = some (i, z) → ∀ (H' : Hp) (d : Addr), H d = none → H' d = some (.xd (patF (i : Nat) z)) → Same H H' → E (.ref CE) (some d) H')
theorem ixL0 {K : PySem.W.Frag} {σ : L2.St} {H : Hp} {a : Addr} {us : List V} {i j : Nat} {u : V} {Q : VK} (e0 : σ[i]? = some (some (.ref a))) (ha : H a = some (.lst us)) (hu : us[j]? = some u) (q : Q u H) : tOp (rIxL K) (tVar i) (tC (.int (j : Int))) σ H Q :=
  ⟨_, e0, a, _, _, _, rfl, rfl, SqL.of ha, atI_nat hu, q⟩
section
variable {P : Program} {w : World} {K : PySem.W.Frag} {mg : Str → Option Value} {base : Heap}
theorem ok_lfr {f CF CE fI : Addr} {fd : FuncData} (F : FnP K "_law_free" sFree f fd) (z_len : mg "len" = none) (M : MkR P w K mg base "Free" (spFree CF CE) CF fI) : FnOk P w K mg base (L2.CX P w) 5 f fd ["_law_bars"] (spLFr CF CE) := by
  have sc : FnScope ["_law_bars"] ["_law_bars"] (defScope sFree) := ⟨rfl, rfl, rfl, by decide +kernel, rfl, by decide +kernel, by decide +kernel⟩
  refine F.ok sc (fun vs H Q E h => ?_) (fun cdv A outer s H vs Q E hr h => ?_)
  · obtain ⟨l, ys, rfl, _⟩ := h
    rfl
  · obtain ⟨l, ys, rfl, hl, y4, od, q1, q0⟩ := h
    refine ⟨_, (pss_cons (ps_if (pt_cmpR op_eq (pe_callB call_len_seq (by rfl) z_len boot_len (pa_cons (pv 0) pa_nil)) pe_int (nomark _))
      (pss_one (ps_ret (pe_makeRS0 M.mks M.ok hr (by rfl) M.gl (fun σ => passAt (takes_of rfl rfl rfl rfl) σ))))
      pss_nil)
    (pss_cons (ps_if (pt_cmpR op_eq (pe_callB call_len_seq (by rfl) z_len boot_len (pa_cons (pv 0) pa_nil)) pe_int (nomark _))
      (pss_one (ps_ret (pe_makeRS M.mks M.ok hr (by rfl) M.gl (fun σ => passAt (takes_of rfl rfl rfl rfl) σ) (pa_cons (pe_ix ix_list (pv 0) pe_int (fun _ _ => rfl)) pa_nil))))
      pss_nil)
    (pss_cons (ps_if (pt_cmpR op_eq (pe_callB call_len_seq (by rfl) z_len boot_len (pa_cons (pv 0) pa_nil)) pe_int (nomark _))
      (pss_one (ps_ret (pe_makeRS M.mks M.ok hr (by rfl) M.gl (fun σ => passAt (takes_of rfl rfl rfl rfl) σ) (pa_cons (pe_ix ix_list (pv 0) pe_int (fun _ _ => rfl)) (pa_cons (pe_ix ix_list (pv 0) pe_int (fun _ _ => rfl)) pa_nil)))))
      pss_nil)
    (pss_cons (ps_if (pt_cmpR op_eq (pe_callB call_len_seq (by rfl) z_len boot_len (pa_cons (pv 0) pa_nil)) pe_int (nomark _))
      (pss_one (ps_ret (pe_makeRS M.mks M.ok hr (by rfl) M.gl (fun σ => passAt (takes_of rfl rfl rfl rfl) σ) (pa_cons (pe_ix ix_list (pv 0) pe_int (fun _ _ => rfl)) (pa_cons (pe_ix ix_list (pv 0) pe_int (fun _ _ => rfl)) (pa_cons (pe_ix ix_list (pv 0) pe_int (fun _ _ => rfl)) pa_nil))))))
      pss_nil)
    (pss_one (ps_ret (pe_makeRS M.mks M.ok hr (by rfl) M.gl (fun σ => passAt (takes_of rfl rfl rfl rfl) σ) (pa_cons (pe_ix ix_list (pv 0) pe_int (fun _ _ => rfl)) (pa_cons (pe_ix ix_list (pv 0) pe_int (fun _ _ => rfl)) (pa_cons (pe_ix ix_list (pv 0) pe_int (fun _ _ => rfl)) (pa_cons (pe_ix ix_list (pv 0) pe_int (fun _ _ => rfl)) pa_nil))))))))))), ?_⟩
    have mk := free_made (CF := CF) (CE := CE) (Q := Q) (E := E) od (Nat.le_trans y4 (by decide)) q1 q0
    match ys, y4, hl, mk with
    | [], _, hl, mk =>
      refine ⟨_, rfl, l, _, rfl, .inl (SqL.of hl), rfl, _, rfl, iteT ?_⟩
      exact mk
    | [a], _, hl, mk =>
      refine ⟨_, rfl, l, _, rfl, .inl (SqL.of hl), rfl, _, rfl, iteF ?_⟩
      refine ⟨_, rfl, l, _, rfl, .inl (SqL.of hl), rfl, _, rfl, iteT ?_⟩
      exact ret_of (cons_of (ixL0 (j := 0) rfl hl rfl mk))
    | [a, b], _, hl, mk =>
      refine ⟨_, rfl, l, _, rfl, .inl (SqL.of hl), rfl, _, rfl, iteF ?_⟩
      refine ⟨_, rfl, l, _, rfl, .inl (SqL.of hl), rfl, _, rfl, iteF ?_⟩
      refine ⟨_, rfl, l, _, rfl, .inl (SqL.of hl), rfl, _, rfl, iteT ?_⟩
      exact ret_of (cons_of (ixL0 (j := 0) rfl hl rfl (cons_of (ixL0 (j := 1) rfl hl rfl mk))))
    | [a, b, c], _, hl, mk =>
      refine ⟨_, rfl, l, _, rfl, .inl (SqL.of hl), rfl, _, rfl, iteF ?_⟩
      refine ⟨_, rfl, l, _, rfl, .inl (SqL.of hl), rfl, _, rfl, iteF ?_⟩
      refine ⟨_, rfl, l, _, rfl, .inl (SqL.of hl), rfl, _, rfl, iteF ?_⟩
      refine ⟨_, rfl, l, _, rfl, .inl (SqL.of hl), rfl, _, rfl, iteT ?_⟩
      exact ret_of (cons_of (ixL0 (j := 0) rfl hl rfl (cons_of (ixL0 (j := 1) rfl hl rfl (cons_of (ixL0 (j := 2) rfl hl rfl mk))))))
    | [a, b, c, d], _, hl, mk =>
      refine ⟨_, rfl, l, _, rfl, .inl (SqL.of hl), rfl, _, rfl, iteF ?_⟩
      refine ⟨_, rfl, l, _, rfl, .inl (SqL.of hl), rfl, _, rfl, iteF ?_⟩
      refine ⟨_, rfl, l, _, rfl, .inl (SqL.of hl), rfl, _, rfl, iteF ?_⟩
      refine ⟨_, rfl, l, _, rfl, .inl (SqL.of hl), rfl, _, rfl, iteF (tNext_of ?_)⟩
      dsimp only
      exact ret_of (cons_of (ixL0 (j := 0) rfl hl rfl (cons_of (ixL0 (j := 1) rfl hl rfl (cons_of (ixL0 (j := 2) rfl hl rfl (cons_of (ixL0 (j := 3) rfl hl rfl mk))))))))
    | _ :: _ :: _ :: _ :: _ :: _, h, _, _ => exact absurd h (by simp)
theorem ok_ltk {f CT CC CE fI : Addr} {fd : FuncData} (F : FnP K "_law_take" sTake f fd) (z_len : mg "len" = none) (M : MkR P w K mg base "Take" (spTake K CT CC CE) CT fI) : FnOk P w K mg base (L2.CX P w) 5 f fd ["_law_source", "_law_made"] (spLTk K CT CC CE) := by
  have sc : FnScope ["_law_source", "_law_made"] ["_law_source", "_law_made"] (defScope sTake) := ⟨rfl, rfl, rfl, by decide +kernel, rfl, by decide +kernel, by decide +kernel⟩
  refine F.ok sc (fun vs H Q E h => ?_) (fun cdv A outer s H vs Q E hr h => ?_)
  · obtain ⟨l, src, ts, ys, bs, rfl, _⟩ := h
    rfl
  · obtain ⟨l, src, ts, ys, bs, rfl, hl, y4, ho, hlen, hI, q1, q0⟩ := h
    refine ⟨_, (pss_cons (ps_if (pt_cmpR op_eq (pe_callB call_len_seq (by rfl) z_len boot_len (pa_cons (pv 1) pa_nil)) pe_int (nomark _))
      (pss_one (ps_ret (pe_makeRS M.mks M.ok hr (by rfl) M.gl (fun σ => passAt (takes_of rfl rfl rfl rfl) σ) (pa_cons (pv 0) pa_nil))))
      pss_nil)
    (pss_cons (ps_if (pt_cmpR op_eq (pe_callB call_len_seq (by rfl) z_len boot_len (pa_cons (pv 1) pa_nil)) pe_int (nomark _))
      (pss_one (ps_ret (pe_makeRS M.mks M.ok hr (by rfl) M.gl (fun σ => passAt (takes_of rfl rfl rfl rfl) σ) (pa_cons (pv 0) (pa_cons (pe_ix ix_list (pv 1) pe_int (fun _ _ => rfl)) pa_nil)))))
      pss_nil)
    (pss_cons (ps_if (pt_cmpR op_eq (pe_callB call_len_seq (by rfl) z_len boot_len (pa_cons (pv 1) pa_nil)) pe_int (nomark _))
      (pss_one (ps_ret (pe_makeRS M.mks M.ok hr (by rfl) M.gl (fun σ => passAt (takes_of rfl rfl rfl rfl) σ) (pa_cons (pv 0) (pa_cons (pe_ix ix_list (pv 1) pe_int (fun _ _ => rfl)) (pa_cons (pe_ix ix_list (pv 1) pe_int (fun _ _ => rfl)) pa_nil))))))
      pss_nil)
    (pss_cons (ps_if (pt_cmpR op_eq (pe_callB call_len_seq (by rfl) z_len boot_len (pa_cons (pv 1) pa_nil)) pe_int (nomark _))
      (pss_one (ps_ret (pe_makeRS M.mks M.ok hr (by rfl) M.gl (fun σ => passAt (takes_of rfl rfl rfl rfl) σ) (pa_cons (pv 0) (pa_cons (pe_ix ix_list (pv 1) pe_int (fun _ _ => rfl)) (pa_cons (pe_ix ix_list (pv 1) pe_int (fun _ _ => rfl)) (pa_cons (pe_ix ix_list (pv 1) pe_int (fun _ _ => rfl)) pa_nil)))))))
      pss_nil)
    (pss_one (ps_ret (pe_makeRS M.mks M.ok hr (by rfl) M.gl (fun σ => passAt (takes_of rfl rfl rfl rfl) σ) (pa_cons (pv 0) (pa_cons (pe_ix ix_list (pv 1) pe_int (fun _ _ => rfl)) (pa_cons (pe_ix ix_list (pv 1) pe_int (fun _ _ => rfl)) (pa_cons (pe_ix ix_list (pv 1) pe_int (fun _ _ => rfl)) (pa_cons (pe_ix ix_list (pv 1) pe_int (fun _ _ => rfl)) pa_nil)))))))))))), ?_⟩
    have mk := take_made (CT := CT) (CE := CE) (Q := Q) (E := E) ho hlen (Nat.le_trans y4 (by decide)) hI q1 q0
    match ys, y4, hl, mk with
    | [], _, hl, mk =>
      refine ⟨_, rfl, l, _, rfl, .inl (SqL.of hl), rfl, _, rfl, iteT ?_⟩
      exact ret_of (cons_of ⟨_, rfl, mk⟩)
    | [a], _, hl, mk =>
      refine ⟨_, rfl, l, _, rfl, .inl (SqL.of hl), rfl, _, rfl, iteF ?_⟩
      refine ⟨_, rfl, l, _, rfl, .inl (SqL.of hl), rfl, _, rfl, iteT ?_⟩
      exact ret_of (cons_of ⟨_, rfl, cons_of (ixL0 (j := 0) rfl hl rfl mk)⟩)
    | [a, b], _, hl, mk =>
      refine ⟨_, rfl, l, _, rfl, .inl (SqL.of hl), rfl, _, rfl, iteF ?_⟩
      refine ⟨_, rfl, l, _, rfl, .inl (SqL.of hl), rfl, _, rfl, iteF ?_⟩
      refine ⟨_, rfl, l, _, rfl, .inl (SqL.of hl), rfl, _, rfl, iteT ?_⟩
      exact ret_of (cons_of ⟨_, rfl, cons_of (ixL0 (j := 0) rfl hl rfl (cons_of (ixL0 (j := 1) rfl hl rfl mk)))⟩)
    | [a, b, c], _, hl, mk =>
      refine ⟨_, rfl, l, _, rfl, .inl (SqL.of hl), rfl, _, rfl, iteF ?_⟩
      refine ⟨_, rfl, l, _, rfl, .inl (SqL.of hl), rfl, _, rfl, iteF ?_⟩
      refine ⟨_, rfl, l, _, rfl, .inl (SqL.of hl), rfl, _, rfl, iteF ?_⟩
      refine ⟨_, rfl, l, _, rfl, .inl (SqL.of hl), rfl, _, rfl, iteT ?_⟩
      exact ret_of (cons_of ⟨_, rfl, cons_of (ixL0 (j := 0) rfl hl rfl (cons_of (ixL0 (j := 1) rfl hl rfl (cons_of (ixL0 (j := 2) rfl hl rfl mk)))))⟩)
    | [a, b, c, d], _, hl, mk =>
      refine ⟨_, rfl, l, _, rfl, .inl (SqL.of hl), rfl, _, rfl, iteF ?_⟩
      refine ⟨_, rfl, l, _, rfl, .inl (SqL.of hl), rfl, _, rfl, iteF ?_⟩
      refine ⟨_, rfl, l, _, rfl, .inl (SqL.of hl), rfl, _, rfl, iteF ?_⟩
      refine ⟨_, rfl, l, _, rfl, .inl (SqL.of hl), rfl, _, rfl, iteF (tNext_of ?_)⟩
      dsimp only
      exact ret_of (cons_of ⟨_, rfl, cons_of (ixL0 (j := 0) rfl hl rfl (cons_of (ixL0 (j := 1) rfl hl rfl (cons_of (ixL0 (j := 2) rfl hl rfl (cons_of (ixL0 (j := 3) rfl hl rfl mk)))))))⟩)
    | _ :: _ :: _ :: _ :: _ :: _, h, _, _ => exact absurd h (by simp)
end
end K08

/-! a Take, a Free asked for: made, or the fields of the refusal; the first part that is not fine -/
namespace K08
open PySem PySem.Spec PyProof.Rows L2
/-- what is due, as it is told -/
def DueV (H : Hp) (v : V) : Option (Nat × Str) → Prop
  | none => v = .non
  | some (i, z) => ∃ t, v = .ref t ∧ H t = some (.tup [.int (i : Nat), .str z])
def spTof (K : PySem.W.Frag) (CT CC : Addr) : Sp := fun vs H Q _ => ∃ (l : Addr) (src : V) (ts : String) (ys : List V) (bs : List Bool), vs = [src, .ref l] ∧ H l = some (.lst ys) ∧ ys.length ≤ 5 ∧ Odd H src ts ∧ ys.length = bs.length ∧ (∀ (i : Nat) y b, ys[i]? = some y → bs[i]? = some b → Itm K CC H y b) ∧
  (takF (srcV src) bs = none → ∀ (H' : Hp) (x : Addr), Same H H' → H x = none → TakAt CT H' x src ys → Q (.ref x) H') ∧
  (∀ i z, takF (srcV src) bs = some (i, z) → ∀ (H' : Hp) (t : Addr), Same H H' → H' t = some (.tup [.int (i : Nat), .str z]) → Q (.ref t) H')
def spFof (CF : Addr) : Sp := fun vs H Q _ => ∃ (l : Addr) (ys : List V), vs = [.ref l] ∧ H l = some (.lst ys) ∧ ys.length ≤ 5 ∧ (∀ y ∈ ys, ∃ t, Odd H y t) ∧
  (freF (ys.map barV) = none → ∀ (H' : Hp) (x : Addr), Same H H' → H x = none → FreAt CF H' x ys → Q (.ref x) H') ∧
  (∀ i z, freF (ys.map barV) = some (i, z) → ∀ (H' : Hp) (t : Addr), Same H H' → H' t = some (.tup [.int (i : Nat), .str z]) → Q (.ref t) H')
def fstF (z : Str) (bs : List Bool) : Option (Nat × Str) := if 4 < bs.length then some (0, "many") else (firstF 0 bs).map fun i => (i, z)
def spFst : Sp := fun vs H Q _ => ∃ (l lf : Addr) (us : List V) (z : Str) (bs : List Bool), vs = [.ref l, .str z, .ref lf] ∧ H l = some (.lst us) ∧ H lf = some (.lst (bs.map V.bl)) ∧ us.length = bs.length ∧ us.length ≤ 64 ∧ ∀ H' v, Same H H' → DueV H' v (fstF z bs) → Q v H'
abbrev tLen (K : PySem.W.Frag) (i : Nat) : TE := tCB (fun xs H Q => ∃ p ys, xs = [.ref p] ∧ (SqL K H p ys ∨ SqT K H p ys) ∧ Q (.int ys.length) H) (tCons (tVar i) tNil)
section
variable {P : Program} {w : World} {K : PySem.W.Frag} {mg : Str → Option Value} {base : Heap}
theorem ok_tof {CT CC CE CU CB fI fT : Addr} {f : Addr} {fd fdT : FuncData} (F : FnP K "_law_take_of" sTakeOf f fd) (z_len : mg "len" = none) (z_isinstance : mg "isinstance" = none) (X : CauX K mg "BadClause" "BadCondition" ["index", "what"] CE CU CB) (M : MkR P w K mg base "Take" (spTake K CT CC CE) CT fI)
    (gT : mg "_law_take" = some (.ref fT)) (okT : FnOk P w K mg base (L2.CX P w) 5 fT fdT ["_law_source", "_law_made"] (spLTk K CT CC CE)) (bT : Binds K fdT ["_law_source", "_law_made"] []) (kT : PySem.W.keepIn K (.ref fT) = true) : FnOk P w K mg base CX0 6 f fd ["_law_source", "_law_parts_here"] (spTof K CT CC) := by
  have sc : FnScope ["_law_source", "_law_parts_here", "e"] ["_law_source", "_law_parts_here"] (defScope sTakeOf) := ⟨rfl, rfl, rfl, by decide +kernel, rfl, by decide +kernel, by decide +kernel⟩
  refine F.ok sc (fun vs H Q E h => ?_) (fun cdv A outer s H vs Q E hr h => ?_)
  · obtain ⟨l, src, ts, ys, bs, rfl, _⟩ := h
    rfl
  · obtain ⟨l, src, ts, ys, bs, rfl, hl, y5, ho, hlen, hI, q1, q0⟩ := h
    have hr3 := hr.mono (show 4 ≤ 5 by decide)
    refine ⟨_, pss_one (ps_try_as (i := 2)
        (tb := fun W => tSeq (tIfS (tTest (tOp rEq (tLen K 1) (tC (.int 5))))
            (tRet (tMakeRS CT (spTake K CT CC CE) (WE W) (tCons (tVar 0) (tCons (tOp (rIxL K) (tVar 1) (tC (.int 0))) (tCons (tOp (rIxL K) (tVar 1) (tC (.int 1))) (tCons (tOp (rIxL K) (tVar 1) (tC (.int 2))) (tCons (tOp (rIxL K) (tVar 1) (tC (.int 3))) (tCons (tOp (rIxL K) (tVar 1) (tC (.int 4))) tNil)))))))) tNext)
          (tRet (tCallS (spLTk K CT CC CE) (WE W) (tCons (tVar 0) (tCons (tVar 1) tNil)))))
        (ts := fun a cls d => tRet (tIf (tAnd (tB (tCB (rIsD K CE a cls d) (tCons (tVar 2) (tCons (tC (.ref CU)) tNil)))) (tNot (tB (tCB (rIsD K CE a cls d) (tCons (tVar 2) (tCons (tC (.ref CB)) tNil))))))
          (tTup (tCons (tXf a cls d CE "index" (tVar 2)) (tCons (tXf a cls d CE "what" (tVar 2)) tNil))) (tTup (tCons (tC (.str "class")) tNil))))
        (Wout := fun _ _ _ _ => False) rfl rfl sc.nd rfl rfl ⟨rfl, by decide, .inl X.gE⟩ takes0
        (fun W pn xe tk _ => pss_cons (ps_if (pt_cmpR op_eq (pe_callB call_len_seq (by rfl) z_len boot_len (pa_cons (pv 1) pa_nil)) pe_int (nomark _))
            (pss_one (ps_ret (pe_makeRS M.mks M.ok hr3 (by rfl) M.gl (fun σ => passAt tk σ) (pa_cons (pv 0) (pa_cons (pe_ix ix_list (pv 1) pe_int (fun _ _ => rfl)) (pa_cons (pe_ix ix_list (pv 1) pe_int (fun _ _ => rfl)) (pa_cons (pe_ix ix_list (pv 1) pe_int (fun _ _ => rfl)) (pa_cons (pe_ix ix_list (pv 1) pe_int (fun _ _ => rfl)) (pa_cons (pe_ix ix_list (pv 1) pe_int (fun _ _ => rfl)) pa_nil)))))))))
            pss_nil)
          (pss_one (ps_ret (pe_callS okT hr (by rfl) gT kT bT (fun σ => passAt tk σ) (pa_cons (pv 0) (pa_cons (pv 1) pa_nil))))))
        (fun a oe cls d pn hz hf => pss_one (ps_ret (pe_ifExp (PW.pt (pw_and (pt_val (pe_callB (call_isD X.exC hz hf) (by rfl) z_isinstance (by decide +kernel) (pa_cons (pv 2) (pa_cons (pe_glob (by rfl) X.gC (v := .ref CU) rfl (by decide +kernel)) pa_nil))))
            (pw_and1 (pt_not (pt_val (pe_callB (call_isD X.exC hz hf) (by rfl) z_isinstance (by decide +kernel) (pa_cons (pv 2) (pa_cons (pe_glob (by rfl) X.gB (v := .ref CB) rfl (by decide +kernel)) pa_nil))))))))
          (pe_tup (pa_cons (pe_xf X.xf (X.nF _ List.mem_cons_self) hz hf (pv 2)) (pa_cons (pe_xf X.xf (X.nF _ (List.mem_cons_of_mem _ List.mem_cons_self)) hz hf (pv 2)) pa_nil))) (pe_tup (pa_cons pe_str pa_nil)))))), ?_⟩
    refine ⟨_, rfl, l, _, rfl, .inl (SqL.of hl), rfl, _, rfl, ?_⟩
    have five : decide (V.int (ys.length : Nat) = V.int 5) = decide (ys.length = 5) := decide_eq_decide.mpr ⟨fun z => by injection z with z; omega, fun z => by rw [z]; rfl⟩
    rw [five]
    refine ite2 (fun g => ?_) (fun g => tNext_of ?_)
    · have g : ys.length = 5 := of_decide_eq_true g
      match ys, g, hl, hlen, hI, q1, q0 with
      | [y0, y1, y2, y3, y4], _, hl, hlen, hI, q1, q0 =>
        refine ret_of (cons_of ⟨_, rfl, cons_of (ixL0 (j := 0) rfl hl rfl (cons_of (ixL0 (j := 1) rfl hl rfl (cons_of (ixL0 (j := 2) rfl hl rfl (cons_of (ixL0 (j := 3) rfl hl rfl (cons_of (ixL0 (j := 4) rfl hl rfl ?_)))))))))⟩)
        refine take_made ho hlen (by show 5 ≤ 64; decide) hI q1 fun i z e H1 d nd hd s1 => ?_
        refine ⟨true, X.ex, fun _ a0 na0 => ?_, fun z => by cases z⟩
        refine ⟨_, rfl, _, _, true, d, _, rfl, rfl, rfl, hd, fun u z => z, X.kC, _, rfl, iteT ?_⟩
        refine ⟨_, rfl, _, _, false, d, _, rfl, rfl, rfl, hd, fun u z => z, X.kB, _, rfl, iteT ?_⟩
        refine ⟨_, rfl, rfl, rfl, d, _, _, rfl, hd, rfl, _, rfl, rfl, rfl, d, _, _, rfl, hd, rfl, (by show 2 ≤ sizeLine; decide), fun u nu => ?_⟩
        exact q0 i z e _ u (s1.trans (same_upd nu)) upd_same
    · have g : ¬ ys.length = 5 := of_decide_eq_false (Bool.eq_false_iff.mpr g)
      refine ⟨_, rfl, _, rfl, l, src, ts, ys, bs, rfl, hl, by omega, ho, hlen, hI, q1, fun i z e H1 d nd hd s1 => ?_⟩
      refine ⟨true, X.ex, fun _ a0 na0 => ?_, fun z => by cases z⟩
      refine ⟨_, rfl, _, _, true, d, _, rfl, rfl, rfl, hd, fun u z => z, X.kC, _, rfl, iteT ?_⟩
      refine ⟨_, rfl, _, _, false, d, _, rfl, rfl, rfl, hd, fun u z => z, X.kB, _, rfl, iteT ?_⟩
      refine ⟨_, rfl, rfl, rfl, d, _, _, rfl, hd, rfl, _, rfl, rfl, rfl, d, _, _, rfl, hd, rfl, (by show 2 ≤ sizeLine; decide), fun u nu => ?_⟩
      exact q0 i z e _ u (s1.trans (same_upd nu)) upd_same
theorem ok_fof {CF CE CU CB fI fT : Addr} {f : Addr} {fd fdT : FuncData} (F : FnP K "_law_free_of" sFreeOf f fd) (z_len : mg "len" = none) (z_isinstance : mg "isinstance" = none) (X : CauX K mg "BadClause" "BadCondition" ["index", "what"] CE CU CB) (M : MkR P w K mg base "Free" (spFree CF CE) CF fI)
    (gT : mg "_law_free" = some (.ref fT)) (okT : FnOk P w K mg base (L2.CX P w) 5 fT fdT ["_law_bars"] (spLFr CF CE)) (bT : Binds K fdT ["_law_bars"] []) (kT : PySem.W.keepIn K (.ref fT) = true) : FnOk P w K mg base CX0 6 f fd ["_law_bars"] (spFof CF) := by
  have sc : FnScope ["_law_bars", "e"] ["_law_bars"] (defScope sFreeOf) := ⟨rfl, rfl, rfl, by decide +kernel, rfl, by decide +kernel, by decide +kernel⟩
  refine F.ok sc (fun vs H Q E h => ?_) (fun cdv A outer s H vs Q E hr h => ?_)
  · obtain ⟨l, ys, rfl, _⟩ := h
    rfl
  · obtain ⟨l, ys, rfl, hl, y5, od, q1, q0⟩ := h
    have hr3 := hr.mono (show 4 ≤ 5 by decide)
    refine ⟨_, pss_one (ps_try_as (i := 1)
        (tb := fun W => tSeq (tIfS (tTest (tOp rEq (tLen K 0) (tC (.int 5))))
            (tRet (tMakeRS CF (spFree CF CE) (WE W) (tCons (tOp (rIxL K) (tVar 0) (tC (.int 0))) (tCons (tOp (rIxL K) (tVar 0) (tC (.int 1))) (tCons (tOp (rIxL K) (tVar 0) (tC (.int 2))) (tCons (tOp (rIxL K) (tVar 0) (tC (.int 3))) (tCons (tOp (rIxL K) (tVar 0) (tC (.int 4))) tNil))))))) tNext)
          (tRet (tCallS (spLFr CF CE) (WE W) (tCons (tVar 0) tNil))))
        (ts := fun a cls d => tRet (tIf (tAnd (tB (tCB (rIsD K CE a cls d) (tCons (tVar 1) (tCons (tC (.ref CU)) tNil)))) (tNot (tB (tCB (rIsD K CE a cls d) (tCons (tVar 1) (tCons (tC (.ref CB)) tNil))))))
          (tTup (tCons (tXf a cls d CE "index" (tVar 1)) (tCons (tXf a cls d CE "what" (tVar 1)) tNil))) (tTup (tCons (tC (.str "class")) tNil))))
        (Wout := fun _ _ _ _ => False) rfl rfl sc.nd rfl rfl ⟨rfl, by decide, .inl X.gE⟩ takes0
        (fun W pn xe tk _ => pss_cons (ps_if (pt_cmpR op_eq (pe_callB call_len_seq (by rfl) z_len boot_len (pa_cons (pv 0) pa_nil)) pe_int (nomark _))
            (pss_one (ps_ret (pe_makeRS M.mks M.ok hr3 (by rfl) M.gl (fun σ => passAt tk σ) (pa_cons (pe_ix ix_list (pv 0) pe_int (fun _ _ => rfl)) (pa_cons (pe_ix ix_list (pv 0) pe_int (fun _ _ => rfl)) (pa_cons (pe_ix ix_list (pv 0) pe_int (fun _ _ => rfl)) (pa_cons (pe_ix ix_list (pv 0) pe_int (fun _ _ => rfl)) (pa_cons (pe_ix ix_list (pv 0) pe_int (fun _ _ => rfl)) pa_nil))))))))
            pss_nil)
          (pss_one (ps_ret (pe_callS okT hr (by rfl) gT kT bT (fun σ => passAt tk σ) (pa_cons (pv 0) pa_nil)))))
        (fun a oe cls d pn hz hf => pss_one (ps_ret (pe_ifExp (PW.pt (pw_and (pt_val (pe_callB (call_isD X.exC hz hf) (by rfl) z_isinstance (by decide +kernel) (pa_cons (pv 1) (pa_cons (pe_glob (by rfl) X.gC (v := .ref CU) rfl (by decide +kernel)) pa_nil))))
            (pw_and1 (pt_not (pt_val (pe_callB (call_isD X.exC hz hf) (by rfl) z_isinstance (by decide +kernel) (pa_cons (pv 1) (pa_cons (pe_glob (by rfl) X.gB (v := .ref CB) rfl (by decide +kernel)) pa_nil))))))))
          (pe_tup (pa_cons (pe_xf X.xf (X.nF _ List.mem_cons_self) hz hf (pv 1)) (pa_cons (pe_xf X.xf (X.nF _ (List.mem_cons_of_mem _ List.mem_cons_self)) hz hf (pv 1)) pa_nil))) (pe_tup (pa_cons pe_str pa_nil)))))), ?_⟩
    refine ⟨_, rfl, l, _, rfl, .inl (SqL.of hl), rfl, _, rfl, ?_⟩
    have five : decide (V.int (ys.length : Nat) = V.int 5) = decide (ys.length = 5) := decide_eq_decide.mpr ⟨fun z => by injection z with z; omega, fun z => by rw [z]; rfl⟩
    rw [five]
    refine ite2 (fun g => ?_) (fun g => tNext_of ?_)
    · have g : ys.length = 5 := of_decide_eq_true g
      match ys, g, hl, od, q1, q0 with
      | [y0, y1, y2, y3, y4], _, hl, od, q1, q0 =>
        refine ret_of (cons_of (ixL0 (j := 0) rfl hl rfl (cons_of (ixL0 (j := 1) rfl hl rfl (cons_of (ixL0 (j := 2) rfl hl rfl (cons_of (ixL0 (j := 3) rfl hl rfl (cons_of (ixL0 (j := 4) rfl hl rfl ?_))))))))))
        refine free_made od (by show 5 ≤ 64; decide) q1 fun i z e H1 d nd hd s1 => ?_
        refine ⟨true, X.ex, fun _ a0 na0 => ?_, fun z => by cases z⟩
        refine ⟨_, rfl, _, _, true, d, _, rfl, rfl, rfl, hd, fun u z => z, X.kC, _, rfl, iteT ?_⟩
        refine ⟨_, rfl, _, _, false, d, _, rfl, rfl, rfl, hd, fun u z => z, X.kB, _, rfl, iteT ?_⟩
        refine ⟨_, rfl, rfl, rfl, d, _, _, rfl, hd, rfl, _, rfl, rfl, rfl, d, _, _, rfl, hd, rfl, (by show 2 ≤ sizeLine; decide), fun u nu => ?_⟩
        exact q0 i z e _ u (s1.trans (same_upd nu)) upd_same
    · have g : ¬ ys.length = 5 := of_decide_eq_false (Bool.eq_false_iff.mpr g)
      refine ⟨_, rfl, l, ys, rfl, hl, by omega, od, q1, fun i z e H1 d nd hd s1 => ?_⟩
      refine ⟨true, X.ex, fun _ a0 na0 => ?_, fun z => by cases z⟩
      refine ⟨_, rfl, _, _, true, d, _, rfl, rfl, rfl, hd, fun u z => z, X.kC, _, rfl, iteT ?_⟩
      refine ⟨_, rfl, _, _, false, d, _, rfl, rfl, rfl, hd, fun u z => z, X.kB, _, rfl, iteT ?_⟩
      refine ⟨_, rfl, rfl, rfl, d, _, _, rfl, hd, rfl, _, rfl, rfl, rfl, d, _, _, rfl, hd, rfl, (by show 2 ≤ sizeLine; decide), fun u nu => ?_⟩
      exact q0 i z e _ u (s1.trans (same_upd nu)) upd_same
theorem ok_fst {f : Addr} {fd : FuncData} (F : FnP K "_law_first" sFirst f fd) (z_len : mg "len" = none) (z_enumerate : mg "enumerate" = none) : FnOk P w K mg base CX0 1 f fd ["_law_parts_here", "_law_word", "_law_fine"] spFst := by
  have sc : FnScope ["_law_parts_here", "_law_word", "_law_fine", "_law_at", "_law_one"] ["_law_parts_here", "_law_word", "_law_fine"] (defScope sFirst) := ⟨rfl, rfl, rfl, by decide +kernel, rfl, by decide +kernel, by decide +kernel⟩
  refine F.ok sc (fun vs H Q E h => ?_) (fun cdv A outer s H vs Q E hr h => ?_)
  · obtain ⟨l, lf, us, z, bs, rfl, _⟩ := h
    rfl
  · obtain ⟨l, lf, us, z, bs, rfl, hl, hf, hlen, few, q⟩ := h
    refine ⟨_, PSs.nox (pss_cons (ps_if (pt_cmpR op_gt (pe_callB call_len_seq (by rfl) z_len boot_len (pa_cons (pv 0) pa_nil)) pe_int (nomark _))
      (pss_one (ps_ret (pe_tup (pa_cons pe_int (pa_cons pe_str pa_nil)))))
      pss_nil)
    (pss_cons (ps_for PassesOwn.never rfl (pi_enum (by rfl) z_enumerate (pa_cons (pv 2) pa_nil)) (pg_tup (by rfl) (pgs_cons (pg_name (i := 3) sc.nd rfl (.inl rfl)) (pgs_cons (pg_name (i := 4) sc.nd rfl (.inl rfl)) pgs_nil)))
      (pss_one (ps_if (pt_not (pt_val (pv 4)))
        (pss_one (ps_ret (pe_tup (pa_cons (pv 3) (pa_cons (pv 1) pa_nil)))))
        pss_nil)))
    (pss_one (ps_ret pe_non)))), ?_⟩
    unfold fstF at q
    refine ⟨_, rfl, l, _, rfl, .inl (SqL.of hl), _, _, rfl, rfl, _, rfl, ?_⟩
    by_cases h4 : 4 < bs.length
    · rw [if_pos h4] at q
      rw [decide_eq_true (show (4 : Int) < (us.length : Int) by omega)]
      exact iteT ⟨(by show 2 ≤ sizeLine; decide), fun t nt => q _ (.ref t) (same_upd nt) ⟨t, rfl, upd_same⟩⟩
    rw [if_neg h4] at q
    rw [decide_eq_false (show ¬ (4 : Int) < (us.length : Int) by omega)]
    refine iteF (tNext_of ?_)
    refine ⟨_, rfl, lf, _, rfl, SqL.of hf, for_it walk_enum (fun i σ H' => ∃ (x3 x4 : Option V), σ = [some (.ref l), some (.str z), some (.ref lf), x3, x4] ∧ firstF i (bs.drop i) = firstF 0 bs ∧ Same H H')
      ⟨none, none, rfl, by rw [List.drop_zero], Same.refl _⟩ (fun i σ H' _ ⟨_, _, _, _, s⟩ => SqL.of (s _ _ hf)) ?_ ?_⟩
    · rintro i y σ H1 H2 hi ⟨x3, x4, rfl, hc, sm⟩ ⟨T, u', v, rfl, nT, rfl, eu, ev⟩
      obtain rfl : u' = .int (i : Int) := (Option.some.inj eu).symm
      rw [List.length_map] at hi
      have ev : (bs.map V.bl)[i]? = some v := ev
      rw [List.getElem?_map, List.getElem?_eq_getElem hi] at ev
      obtain rfl : V.bl bs[i] = v := Option.some.inj ev
      rw [List.drop_eq_getElem_cons hi] at hc
      have hc : (if bs[i] = true then firstF (i + 1) (bs.drop (i + 1)) else some i) = firstF 0 bs := hc
      have sT := sm.trans (same_upd (o := .tup [.int (i : Int), .bl bs[i]]) nT)
      refine ⟨T, _, rfl, .inl (.inl upd_same), rfl, _, _, rfl, _, _, rfl, rfl, ?_⟩
      generalize upd H1 T (.tup [.int (i : Int), .bl bs[i]]) = H3 at sT ⊢
      refine ⟨_, rfl, bs[i], rfl, ?_⟩
      cases hb : bs[i] with
      | true =>
        rw [if_pos hb] at hc
        exact iteF ⟨_, _, rfl, hc, sT⟩
      | false =>
        rw [if_neg (by rw [hb]; exact Bool.noConfusion)] at hc
        rw [← hc] at q
        exact iteT ⟨_, rfl, _, rfl, (by show 2 ≤ sizeLine; decide), fun t nt => q _ (.ref t) (sT.trans (same_upd nt)) ⟨t, rfl, upd_same⟩⟩
    · rintro σ H1 ⟨x3, x4, rfl, hc, sm⟩
      rw [List.length_map, show bs.drop bs.length = [] by exact List.drop_length] at hc
      have hc : none = firstF 0 bs := hc
      rw [← hc] at q
      exact q _ _ sm rfl
end
end K08

/-! the text of a clause's row that is right -/
namespace K08
open PySem PySem.Spec PyProof.Rows L2
theorem deep_all {k : Nat} : ∀ {ds : List PyData}, (∀ d ∈ ds, d.depth ≤ k) → PyData.depthAll ds ≤ k
  | [], _ => Nat.zero_le _
  | d :: ds, h => by
    show max d.depth (PyData.depthAll ds) ≤ k
    exact Nat.max_le.mpr ⟨h d List.mem_cons_self, deep_all fun e he => h e (List.mem_cons_of_mem _ he)⟩
theorem whole_D {d : PyData} (hb : wholeD d 1 4 = true) : ∃ i : Int, d = .int i ∧ 1 ≤ i ∧ i ≤ 4 := by
  cases d with
  | int i =>
    have hb : (decide ((1 : Int) ≤ i) && decide (i ≤ 4)) = true := hb
    obtain ⟨g1, g4⟩ := Bool.and_eq_true_iff.mp hb
    exact ⟨i, rfl, of_decide_eq_true g1, of_decide_eq_true g4⟩
  | _ => cases (show false = true from hb)
theorem str_D {d : PyData} {g : V → Bool} (hb : strD g d = true) : ∃ x : Str, d = .str x ∧ g (.str x) = true := by
  cases d with
  | str x => exact ⟨x, rfl, hb⟩
  | _ => cases (show false = true from hb)
/-- a row that is right is flat -/
theorem r8_deep {r : R8} (h : fltR r = none) : (r8D r).depth ≤ 1 := by
  cases r with
  | num d =>
    obtain ⟨i, rfl, _⟩ := whole_D (if_none h)
    exact Nat.le_refl _
  | alive d =>
    obtain ⟨x, rfl, _⟩ := str_D (if_none h)
    exact Nat.le_refl _
  | dead d =>
    obtain ⟨x, rfl, _⟩ := str_D (if_none h)
    exact Nat.le_refl _
  | unl d e =>
    obtain ⟨h1, h2⟩ := if_none h
    obtain ⟨x, rfl, _⟩ := str_D h1
    obtain ⟨y, rfl, _⟩ := str_D h2
    exact Nat.le_refl _
  | unborne => exact Nat.le_refl _
  | never => exact Nat.le_refl _
theorem str_deep (l : List Str) : PyData.depthAll (l.map PyData.str) ≤ 0 := deep_all fun d hd => by
  obtain ⟨x, _, rfl⟩ := List.mem_map.mp hd
  exact Nat.le_refl _
/-- rows that are right, in a list -/
structure RowsAt (H : Hp) (l : Addr) (us : List V) (rs : List R8) : Prop where
  at_ : H l = some (.lst us)
  all : DtAll Any H us (rs.map r8D)
  ok : ∀ r ∈ rs, fltR r = none
theorem RowsAt.same {H H' : Hp} {l : Addr} {us : List V} {rs : List R8} (h : RowsAt H l us rs) (s : Same H H') : RowsAt H' l us rs := ⟨s _ _ h.at_, h.all.same s, h.ok⟩
theorem RowsAt.len {H : Hp} {l : Addr} {us : List V} {rs : List R8} (h : RowsAt H l us rs) : us.length = rs.length := by rw [h.all.len, List.length_map]
theorem RowsAt.shaped {H : Hp} {l : Addr} {us : List V} {rs : List R8} (h : RowsAt H l us rs) : SeqAt.shaped (.list (rs.map r8D)) = true := shaped_of h.all.lay (by
  show PyData.depthAll (rs.map r8D) + 1 ≤ 64
  have := deep_all (k := 1) (ds := rs.map r8D) fun d hd => by
    obtain ⟨r, hr, rfl⟩ := List.mem_map.mp hd
    exact r8_deep (h.ok r hr)
  omega)
/-- texts in a list -/
structure StrsAt (H : Hp) (l : Addr) (ys : List Str) : Prop where
  at_ : H l = some (.lst (sV ys))
  ok : ∀ y ∈ ys, okS y = true
theorem StrsAt.same {H H' : Hp} {l : Addr} {ys : List Str} (h : StrsAt H l ys) (s : Same H H') : StrsAt H' l ys := ⟨s _ _ h.at_, h.ok⟩
theorem strs_dt {S : Addr → Prop} {H : Hp} : ∀ {ys : List Str}, (∀ y ∈ ys, okS y = true) → DtAll S H (sV ys) (ys.map PyData.str)
  | [], _ => .nil
  | y :: ys, h => .cons (okS_dt (h y List.mem_cons_self)) (strs_dt fun z hz => h z (List.mem_cons_of_mem _ hz))
theorem StrsAt.dt {H : Hp} {l : Addr} {ys : List Str} (h : StrsAt H l ys) : Dt Any H (.ref l) (.list (ys.map PyData.str)) := .lst trivial h.at_ (strs_dt h.ok)
theorem StrsAt.shaped {H : Hp} {l : Addr} {ys : List Str} (h : StrsAt H l ys) : SeqAt.shaped (.list (ys.map PyData.str)) = true := shaped_of h.dt.lay (by
  show PyData.depthAll (ys.map PyData.str) + 1 ≤ 64
  have := str_deep ys
  omega)
theorem okS_len {y : Str} (h : okS y = true) : y.length ≤ 1000 := of_decide_eq_true (Bool.and_eq_true_iff.mp h).1
theorem eqv_nil (d : PyData) (ds : List PyData) : PyData.eqv (.list (d :: ds)) (.list []) = false := rfl
theorem sum_le' {m : Nat} {l : List Str} (h : ∀ y ∈ l, y.length ≤ m) : (l.map (·.length)).sum ≤ l.length * m := by
  induction l with
  | nil => exact Nat.zero_le _
  | cons y l ih =>
    have h1 := h y List.mem_cons_self
    have h2 := ih fun z hz => h z (List.mem_cons_of_mem _ hz)
    rw [List.map_cons, List.sum_cons, List.length_cons, Nat.succ_mul]
    omega
theorem txt_len {r : R8} (h : fltR r = none) (hd : ∀ d, r8D r = d → True) {S : Addr → Prop} {H : Hp} {v : V} (hv : Dt S H v (r8D r)) : (txtR r).length ≤ 4000 := by
  cases r with
  | num d =>
    obtain ⟨i, rfl, h1, h4⟩ := whole_D (if_none h)
    obtain rfl | rfl | rfl | rfl : i = 1 ∨ i = 2 ∨ i = 3 ∨ i = 4 := by omega
    all_goals decide +kernel
  | alive d =>
    cases hv with
    | tup _ ha hx =>
      cases hx with
      | cons h1 h2 =>
        cases h2 with
        | cons h3 h4 =>
          obtain ⟨x, rfl, rfl, hx⟩ := str_str h3 (if_none h)
          show (("alive" : Str) ++ (" " : Str) ++ x).length ≤ 4000
          rw [len_cat, show (("alive" : Str) ++ (" " : Str)).length = 6 by decide +kernel]
          omega
  | dead d =>
    cases hv with
    | tup _ ha hx =>
      cases hx with
      | cons h1 h2 =>
        cases h2 with
        | cons h3 h4 =>
          obtain ⟨x, rfl, rfl, hx⟩ := str_str h3 (if_none h)
          show (("dead" : Str) ++ (" " : Str) ++ x).length ≤ 4000
          rw [len_cat, show (("dead" : Str) ++ (" " : Str)).length = 5 by decide +kernel]
          omega
  | unl d e =>
    cases hv with
    | tup _ ha hx =>
      cases hx with
      | cons h1 h2 =>
        cases h2 with
        | cons h3 h4 =>
          cases h4 with
          | cons h5 h6 =>
            obtain ⟨g1, g2⟩ := if_none h
            obtain ⟨x, rfl, rfl, hx⟩ := str_str h3 g1
            obtain ⟨y, rfl, rfl, hy⟩ := str_str h5 g2
            show (("unlike " : Str) ++ x ++ (" " : Str) ++ y).length ≤ 4000
            rw [len_cat, len_cat, len_cat, show ("unlike " : Str).length = 7 by decide +kernel, show (" " : Str).length = 1 by decide +kernel]
            omega
  | unborne => decide +kernel
  | never => decide +kernel
theorem RowsAt.txt {H : Hp} {l : Addr} {us : List V} {rs : List R8} (h : RowsAt H l us rs) : ∀ y ∈ rs.map txtR, y.length ≤ 4000 := by
  intro y hy
  obtain ⟨r, hr, rfl⟩ := List.mem_map.mp hy
  obtain ⟨i, hi, rfl⟩ := List.mem_iff_getElem.mp hr
  have il : i < us.length := by rw [h.len]; exact hi
  obtain ⟨d, ed, hd⟩ := h.all.get (List.getElem?_eq_getElem il)
  rw [List.getElem?_map, List.getElem?_eq_getElem hi] at ed
  obtain rfl := Option.some.inj ed
  exact txt_len (h.ok _ hr) (fun _ _ => trivial) hd
theorem op_of {r : R2} {a b : TE} {σ : L2.St} {H : Hp} {Q : VK} (h : a σ H fun x H1 => b σ H1 fun y H2 => r x y H2 Q) : tOp r a b σ H Q := h
theorem m1_of {r : V → List V → Hp → VK → Prop} {a b : TE} {σ : L2.St} {H : Hp} {Q : VK} (h : a σ H fun x H1 => (∃ y, x = .str y) ∧ b σ H1 fun y H2 => r x [y] H2 Q) : tM1 r a b σ H Q := h
theorem seq_of {t u : TS} {D : Ends} {σ : L2.St} {H : Hp} (h : t { D with nx := u D } σ H) : tSeq t u D σ H := h
theorem asg_of {t : TE} {g : TG} {D : Ends} {σ : L2.St} {H : Hp} (h : t σ H fun x H1 => g x σ H1 D.nx) : tAsg t g D σ H := h
def spClt : Sp := fun vs H Q _ => ∃ p : Addr, vs = [.ref p] ∧ ((∃ (l : Addr) (ys : List Str), H p = some (.tup [.str "free", .ref l]) ∧ StrsAt H l ys ∧ ys.length ≤ 5 ∧ ∀ H', Same H H' → Q (.str (freeT ys)) H') ∨
  ∃ (l : Addr) (z : Str) (us : List V) (rs : List R8), H p = some (.tup [.str "take", .str z, .ref l]) ∧ okS z = true ∧ RowsAt H l us rs ∧ us.length ≤ 5 ∧ ∀ H', Same H H' → Q (.str (takeT z (rs.map txtR))) H')
section
variable {P : Program} {w : World} {K : PySem.W.Frag} {mg : Str → Option Value} {base : Heap}
theorem ok_clt {f fX : Addr} {fd fdX : FuncData} (F : FnP K "_law_clause_text" sClauseText f fd) (dX : Df P w K mg base "_law_condition_text" 1 ["_law_row_here"] spCtx fX fdX) : FnOk P w K mg base CX0 2 f fd ["_law_row_here"] spClt := by
  have sc : FnScope ["_law_row_here", "_law_words", "_law_one"] ["_law_row_here"] (defScope sClauseText) := ⟨rfl, rfl, rfl, by decide +kernel, rfl, by decide +kernel, by decide +kernel⟩
  refine F.ok sc (fun vs H Q E h => ?_) (fun cdv A outer s H vs Q E hr1 h => ?_)
  · obtain ⟨p, rfl, _⟩ := h
    rfl
  · obtain ⟨p, rfl, h⟩ := h
    have hr := hr1
    refine ⟨_, PSs.nox (pss_cons (ps_if (pt_cmpR op_eq (pe_ix ix_tup (pv 0) pe_int (fun _ _ => rfl)) pe_str (nomark _))
      (pss_one (ps_ret (pe_ifExp (pt_cmpR (op_eqD hr.units) (pe_ix ix_tup (pv 0) pe_int (fun _ _ => rfl)) (pe_lst pa_nil) (nomark _)) pe_str (pe_op op_add_str pe_str (pe_join pe_str (pe_ix ix_tup (pv 0) pe_int (fun _ _ => rfl)))))))
      pss_nil)
    (pss_cons (ps_set (i := 1) sc.nd rfl (.inl rfl) (pe_op op_add_str pe_str (pe_ix ix_tup (pv 0) pe_int (fun _ _ => rfl))))
    (pss_one (ps_ret (pe_ifExp (pt_cmpR (op_eqD hr.units) (pe_ix ix_tup (pv 0) pe_int (fun _ _ => rfl)) (pe_lst pa_nil) (nomark _)) (pv 1) (pe_op op_add_str (pe_op op_add_str (pv 1) pe_str) (pe_join pe_str (pe_lc (own := [("_law_one", 2)]) (g := gName 2) (tt := tYes) (te := tCall spCtx [] E0 (tCons (tVar 2) tNil)) rfl sc.nd (pi_list (pe_ix ix_tup (pv 0) pe_int (fun _ _ => rfl))) (blkOk_by (N := ["_law_row_here", "_law_words", "_law_one"]) (sc := defScope sClauseText) (by decide +kernel)) (fun _ _ _ _ _ => pg_name (i := 2) sc.nd rfl (Or.inl rfl)) (fun _ _ _ _ _ => pts_nil) (fun _ _ _ _ _ => pe_call dX.ok hr1 (by rfl) dX.gl dX.kp dX.bi .nil pass0 (pa_cons (pv 2) pa_nil)))))))))), ?_⟩
    rcases h with ⟨l, ys, hp, hl, y5, q⟩ | ⟨l, z, us, rs, hp, hz, hR, u5, q⟩
    · unfold freeT at q
      refine ix0 (j := 0) rfl hp rfl ⟨rfl, _, rfl, ite2 (fun _ => ?_) (fun g => absurd (by decide +kernel) g)⟩
      refine ret_of (ix0 (j := 1) rfl hp rfl ⟨(by show 0 ≤ sizeLine; decide), fun n nn => ⟨.list (ys.map PyData.str), .list [], ?_⟩⟩)
      have sn := same_upd (o := .lst []) nn
      have hl2 := hl.same sn
      refine ⟨hl2.dt.dp, (Dt.lst (S := Any) trivial upd_same .nil).dp, hl.shaped, rfl, ?_⟩
      cases ys with
      | nil =>
        rw [if_pos rfl] at q
        exact ⟨_, rfl, iteT (q _ sn)⟩
      | cons y ys =>
        rw [if_neg (fun h => by cases h)] at q
        refine ⟨_, rfl, iteF (op_of (c_of (m1_of (c_of ⟨⟨_, rfl⟩, ix0 (j := 1) rfl (sn _ _ hp) rfl ⟨_, l, y :: ys, rfl, rfl, .inl (SqL.of hl2.at_), ?_, ?_⟩⟩))))⟩
        · have h1 := sum_le' (m := 1000) (l := y :: ys) fun z hz => okS_len (hl.ok z hz)
          have h2 : (", " : Str).length ≤ 10 := by decide +kernel
          have h4 : (y :: ys).length * (", " : Str).length ≤ 5 * 10 := Nat.mul_le_mul y5 h2
          have h5 : (y :: ys).length * 1000 ≤ 5 * 1000 := Nat.mul_le_mul_right _ y5
          omega
        · refine ⟨_, _, rfl, rfl, ?_, ?_⟩
          · have e : Txt.join ", " (y :: ys) = Str.join ", " (y :: ys) := TL.join_eq _ _
            rw [e]
            have h1 := join_len (sep := ", ") (m := 1000) (ys := y :: ys) fun z hz => okS_len (hl.ok z hz)
            have h2 : (", " : Str).length ≤ 10 := by decide +kernel
            have h4 : (y :: ys).length * (1000 + (", " : Str).length) ≤ 5 * 1010 := Nat.mul_le_mul y5 (by omega)
            have h5 : ("free not " : Str).length ≤ 20 := by decide +kernel
            have big : 300000 ≤ sizeLine := by decide
            omega
          · rw [show Str.empty ++ ("free not " : Str) = ("free not " : Str) by decide +kernel] at q
            exact q _ sn
    · unfold takeT at q
      rw [show Str.empty ++ ("take " : Str) = ("take " : Str) by decide +kernel] at q
      have zl := okS_len hz
      have big : 300000 ≤ sizeLine := by decide
      have l0 : ("take " : Str).length ≤ 10 := by decide +kernel
      have l1 : (" if " : Str).length ≤ 10 := by decide +kernel
      refine ix0 (j := 0) rfl hp rfl ⟨rfl, _, rfl, ite2 (fun g => absurd g (by decide +kernel)) (fun _ => tNext_of ?_)⟩
      dsimp only
      refine seq_of (asg_of (op_of (c_of (ix0 (j := 1) rfl hp rfl ⟨_, _, rfl, rfl, (by omega), ?_⟩))))
      dsimp only [gName]
      refine ret_of ?_
      refine ix0 (j := 2) rfl hp rfl ⟨(by show 0 ≤ sizeLine; decide), fun n nn => ⟨.list (rs.map r8D), .list [], ?_⟩⟩
      have sn := same_upd (o := .lst []) nn
      have hR2 := hR.same sn
      refine ⟨(Dt.lst (S := Any) trivial hR2.at_ hR2.all).dp, (Dt.lst (S := Any) trivial upd_same .nil).dp, hR.shaped, rfl, ?_⟩
      have hlen := hR.len
      cases rs with
      | nil =>
        rw [show ([] : List R8).map txtR = [] from rfl, if_pos rfl] at q
        exact ⟨_, rfl, iteT ⟨_, rfl, q _ sn⟩⟩
      | cons r rs =>
        rw [if_neg (fun h => by cases h)] at q
        have few := hR2.txt
        have r5 : (r :: rs).length ≤ 5 := by omega
        generalize hrr : r :: rs = rr at q hR hR2 hlen few r5
        have ev : PyData.eqv (.list (rr.map r8D)) (.list []) = false := by rw [← hrr]; rfl
        refine ⟨_, rfl, ?_⟩
        rw [ev]
        refine iteF (op_of (op_of ⟨_, rfl, c_of ⟨_, _, rfl, rfl, ?_, ?_⟩⟩))
        · rw [len_cat]; omega
        refine m1_of (c_of ⟨⟨_, rfl⟩, ?_⟩)
        refine ix0 (j := 2) rfl (sn _ _ hp) rfl ⟨l, rfl, ⟨_, SqL.of hR2.at_⟩, fun D nD => lc_N walk_list (fun i acc _ => acc = ((rr.map txtR).take i).map V.str) (⟨fun _ _ _ _ _ r _ _ => r, fun i acc _ r => by rw [r, List.length_map]; exact List.length_take_le _ _⟩) nD (Nat.lt_of_le_of_lt u5 (by decide)) rfl (fun H' s' => SqL.of (s' _ _ hR2.at_)) (fun _ => rfl) ?_ mT_yes (fun _ _ _ _ h ⟨x, e, v, y, e1, e2, e3, q⟩ => ⟨x, e, v, y, e1, e2, e3, h _ _ q⟩) ?_⟩
        · rintro i v acc H' ev s' eD rfl
          obtain ⟨d, ed, hd⟩ := hR2.all.get ev
          rw [List.getElem?_map] at ed
          have il : i < rr.length := by rw [← hlen]; exact (List.getElem?_eq_some_iff.mp ev).1
          rw [List.getElem?_eq_getElem il] at ed
          obtain rfl := Option.some.inj ed
          have ey : (rr.map txtR)[i]? = some (txtR rr[i]) := by rw [List.getElem?_map, List.getElem?_eq_getElem il]; rfl
          refine ⟨Same.refl _, iteT ⟨_, rfl, v, rr[i], rfl, hd.same s', hR2.ok _ (List.getElem_mem il), Same.refl _, ?_⟩⟩
          rw [take_snoc' ey, List.map_append]
          rfl
        rintro H1 acc s1 eD rfl
        rw [hlen, show (rr.map txtR).take rr.length = rr.map txtR by rw [← List.length_map (f := txtR)]; exact List.take_length] at eD
        refine ⟨_, D, rr.map txtR, rfl, rfl, .inl (SqL.of eD), ?_, ?_⟩
        · have h1 := sum_le' (m := 4000) few
          have h2 : (", " : Str).length ≤ 10 := by decide +kernel
          rw [List.length_map] at h1 ⊢
          have h4 : rr.length * (", " : Str).length ≤ 5 * 10 := Nat.mul_le_mul r5 h2
          have h5 : rr.length * 4000 ≤ 5 * 4000 := Nat.mul_le_mul_right _ r5
          omega
        · refine ⟨_, _, rfl, rfl, ?_, q _ (sn.trans s1)⟩
          have e : Txt.join ", " (rr.map txtR) = Str.join ", " (rr.map txtR) := TL.join_eq _ _
          rw [e, len_cat, len_cat]
          have h1 := join_len (sep := ", ") (m := 4000) few
          have h2 : (", " : Str).length ≤ 10 := by decide +kernel
          rw [List.length_map] at h1
          have h4 : rr.length * (4000 + (", " : Str).length) ≤ 5 * 4010 := Nat.mul_le_mul r5 (by omega)
          omega
end
end K08

/-! == of tuples by the items' own ==, with either answer -/
namespace K08T
open PySem PySem.SeqAt GQ
open AutoSeq1 (wpAny_loadPart')
open MeetsSeq MeetsSeq2 MeetsSeq3 SeqRoads2
section
variable {prog : Program} {w : World} {A : Around} {R : Result → Shared → Prop}
theorem tuple_eqB (l b : Addr) (items items2 : Array Value) (n n2 : Nat) (dd dd2 : Option Addr) (sl sl2 : Array (Option Value)) (bs : Nat → Bool) (I : Shared → Prop)
    (turn : ∀ i (h1 : i < items.size) (h2 : i < items2.size) s, I s → wpAny (model prog w) A.in1 (eqBool items[i] items2[i]) (fun r s' => r = bs i ∧ I s') (fun e s' => R (.error e) s') s)
    (finF : ∀ i s, i < items.size → i < items2.size → bs i = false → I s → R (.ok (.ret (.bool false))) s)
    (finE : ∀ s, (∀ j, j < items.size → j < items2.size → bs j = true) → I s → R (.ok (.ret (.bool (items.size == items2.size)))) s) {s : Shared} (hl1 : s.heap.get? l = some { cls := .type "tuple", dict := dd, data := .seq items n, slots := sl }) (hb1 : s.heap.get? b = some { cls := .type "tuple", dict := dd2, data := .seq items2 n2, slots := sl2 }) (h : I s) :
    wpAny (model prog w) A.in1 (Builtin.«tuple.__eq__» ⟨[.ref l, .ref b], []⟩) (FinOf prog w A R) (fun e s' => R (.error e) s') s := by
  have f2 := AutoSeq1.sub_tuple_tuple
  have hZ : (items.toList.zip items2.toList).length = min items.size items2.size := by simp
  have h0 := h
  obtain ⟨hp, g, d, tk, os⟩ := s
  wp_walk using wpAny_loadPart' hl1, wpAny_loadPart' hb1, wpAny_forIn_list _ (fun rest b s' => b.1 = none ∧ ∃ i, rest = (items.toList.zip items2.toList).drop i ∧ i ≤ min items.size items2.size ∧ (∀ j, j < i → bs j = true) ∧ I s') _
  case turn =>
    rintro ⟨y, x⟩ rest b s' ⟨hb', i, hz, hi, hall, hI⟩
    have hlt : i < (items.toList.zip items2.toList).length := by
      rcases Nat.lt_or_ge i (items.toList.zip items2.toList).length with h' | h'
      · exact h'
      · rw [List.drop_of_length_le h'] at hz; cases hz
    have h1 : i < items.size := by omega
    have h2 : i < items2.size := by omega
    rw [List.drop_eq_getElem_cons hlt] at hz
    injection hz with hyx hrest
    have hy : y = items[i] := by have := congrArg Prod.fst hyx; simpa using this
    have hx : x = items2[i] := by have := congrArg Prod.snd hyx; simpa using this
    subst hy hx
    refine wpAny_bind (wpAny_mono (turn i h1 h2 s' hI) (fun r s2 q2 => ?_) fun _ _ x => x)
    obtain ⟨hr, q2⟩ := q2
    cases hb : bs i with
    | true =>
      rw [hb] at hr
      subst hr
      wp_walk
      exact ⟨rfl, i + 1, hrest, by omega, fun j hj => by
        rcases Nat.lt_or_ge j i with hj' | hj'
        · exact hall j hj'
        · rw [show j = i by omega]; exact hb, q2⟩
    | false =>
      rw [hb] at hr
      subst hr
      have hR := finF i s2 h1 h2 hb q2
      obtain ⟨hp2, g2, d2, tk2, os2⟩ := s2
      wp_walk
      exact hR
  case fin =>
    rintro ⟨b1, b2⟩ s' ⟨hb', i, hz, hi, hall, hI⟩
    simp only at hb'
    subst hb'
    have hge : min items.size items2.size ≤ i := by
      rcases Nat.lt_or_ge i (items.toList.zip items2.toList).length with h' | h'
      · rw [List.drop_eq_getElem_cons h'] at hz; cases hz
      · exact hZ ▸ h'
    have hR : R (.ok (.ret (.bool (items.size == items2.size)))) s' := finE s' (fun j h1 h2 => hall j (by omega)) hI
    wp_walk
    exact hR
  case h =>
    exact ⟨rfl, 0, rfl, Nat.zero_le _, fun j hj => absurd hj (Nat.not_lt_zero _), h0⟩
end
section
variable {prog : Program} {w : World} {A : Around} {E : Value → Shared → Prop} {s : Shared}
theorem rc_tupB {l b : Addr} {items items2 : Array Value} {Q : Value → Shared → Prop} (hu : A.units < cLine) (bs : Nat → Bool) (I : Shared → Prop)
    (hl : s.heap.IsTuple l items) (hb : s.heap.IsTuple b items2)
    (turn : ∀ i (h1 : i < items.size) (h2 : i < items2.size) s, I s → wpAny (model prog w) A.in1 (eqBool items[i] items2[i]) (fun r s' => r = bs i ∧ I s') E s)
    (finF : ∀ i s, i < items.size → i < items2.size → bs i = false → I s → Q (.bool false) s)
    (finE : ∀ s, (∀ j, j < items.size → j < items2.size → bs j = true) → I s → Q (.bool (items.size == items2.size)) s) (h : I s) : wpAny (model prog w) A (richCompare .Eq (.ref l) (.ref b)) Q E s := by
  obtain ⟨⟨cls, dd, data, sl⟩, ho, hc, n, hd⟩ := id hl
  obtain ⟨⟨cls2, dd2, data2, sl2⟩, ho2, hc2, n2, hd2⟩ := id hb
  simp only at hc hd hc2 hd2
  subst hc hd hc2 hd2
  refine wpAny_richCompare_same_room (op := .Eq) ⟨_, ho, rfl⟩ ⟨_, ho2, rfl⟩ F.slot_tuple_eq (call_here F.slot_tuple_eq ⟨_, ho, rfl⟩ F.entry_tuple_eq (F.args_tuple_eq_2 _ _) ?_) hu
  exact tuple_eqB (R := wants (fun v s' => v ≠ .notImplemented ∧ Q v s') E) l b items items2 n n2 dd dd2 sl sl2 bs I turn (fun i s' h1 h2 hb q => ⟨(fun x => nomatch x), finF i s' h1 h2 hb q⟩) (fun s' ha q => ⟨(fun x => nomatch x), finE s' ha q⟩) ho ho2 h
end
end K08T
namespace K08
open PySem PySem.Spec PyProof.Rows L2
/-- how two values compare, by the abstract heap -/
abbrev EqD := V → V → Bool → Hp → Prop
def EqB (X : Cx) (n : Nat) (D : EqD) : Prop :=
  ∀ (A : Around) (pins : List (Addr × Obj)) (s : Shared) (σ : L2.St) (H : Hp) (x y : V) (u v : Value) (r : Bool), Sub X n A → Inv X pins σ H s → RelV x u → RelV y v → D x y r H →
    wpAny (model X.prog X.w) A (eqBool u v) (fun r' s' => r' = r ∧ ∃ H', Inv X pins σ H' s' ∧ Ext H H') X.xe s
def RcB (X : Cx) (n : Nat) (D : EqD) : Prop :=
  ∀ (A : Around) (pins : List (Addr × Obj)) (s : Shared) (σ : L2.St) (H : Hp) (x y : V) (u v : Value) (r : Bool), Sub X n A → Inv X pins σ H s → RelV x u → RelV y v → D x y r H →
    wpAny (model X.prog X.w) A (richCompare .Eq u v) (fun r' s' => r' = .bool r ∧ ∃ H', Inv X pins σ H' s' ∧ Ext H H') X.xe s
/-- two rows of things, each pair's answer known -/
def PrsB (D : EqD) (xs ys : List V) (bs : Nat → Bool) (H : Hp) : Prop := ∀ (i : Nat) x y, xs[i]? = some x → ys[i]? = some y → D x y (bs i) H
def DTupB (D : EqD) : EqD := fun x y r H => ∃ (a b : Addr) (xs ys : List V) (bs : Nat → Bool), x = .ref a ∧ y = .ref b ∧ H a = some (.tup xs) ∧ H b = some (.tup ys) ∧ (∀ H', Ext H H' → PrsB D xs ys bs H') ∧
  ((∃ i, i < xs.length ∧ i < ys.length ∧ bs i = false) → r = false) ∧ ((∀ i, i < xs.length → i < ys.length → bs i = true) → r = (xs.length == ys.length))
section
variable {X : Cx} {n : Nat} {D : EqD}
theorem rcB_tup (h : EqB X n D) : RcB X (n + 1) (DTupB D) := by
  intro A pins s σ H x y u v r sb I rx ry d
  obtain ⟨a, b, xs, ys, bs, rfl, rfl, ha, hb, p, qF, qE⟩ := d
  cases rx
  cases ry
  obtain ⟨its, r1, e, z⟩ := I.tuple (SqT.of ha)
  obtain ⟨its2, r2, e2, z2⟩ := I.tuple (SqT.of hb)
  have l1 : its.toArray.size = xs.length := by rw [List.size_toArray, ← r1.length]
  have l2 : its2.toArray.size = ys.length := by rw [List.size_toArray, ← r2.length]
  refine K08T.rc_tupB sb.room.units0 bs (fun s' => LoopI X pins σ H s') e e2 (fun i h1 h2 s' q => ?_) (fun i s' h1 h2 hb q => ?_) (fun s' hall q => ?_) ⟨H, I, Ext.rfl'⟩
  · obtain ⟨H1, I1, e1⟩ := q
    have g1 : its[i]? = some its.toArray[i] := by
      have h1' : i < its.length := by simpa using h1
      rw [List.getElem?_eq_getElem h1'] <;> simp
    have g2 : its2[i]? = some its2.toArray[i] := by
      have h2' : i < its2.length := by simpa using h2
      rw [List.getElem?_eq_getElem h2'] <;> simp
    have k1 : i < xs.length := by rw [r1.length]; simpa using h1
    have k2 : i < ys.length := by rw [r2.length]; simpa using h2
    obtain ⟨u, hu, ru⟩ := r1.get (List.getElem?_eq_getElem k1)
    obtain ⟨v, hv, rv⟩ := r2.get (List.getElem?_eq_getElem k2)
    rw [g1] at hu
    rw [g2] at hv
    rw [Option.some.inj hu, Option.some.inj hv]
    refine wpAny_mono (h A.in1 pins s' σ H1 _ _ u v (bs i) sb.in1 I1 ru rv (p H1 e1 i _ _ (List.getElem?_eq_getElem k1) (List.getElem?_eq_getElem k2))) (fun r s2 q => ?_) fun _ _ x => x
    obtain ⟨hr, H2, I2, e2⟩ := q
    exact ⟨hr, H2, I2, e1.trans e2⟩
  · rw [qF ⟨i, by omega, by omega, hb⟩]
    exact ⟨rfl, q⟩
  · rw [qE fun i h1 h2 => hall i (by omega) (by omega), l1, l2]
    exact ⟨rfl, q⟩
theorem RcB.eqB (h : RcB X n D) (hr : ∀ x y r H, D x y r H → ∃ a b, x = .ref a ∧ y = .ref b ∧ (a = b → r = true)) : EqB X n D := by
  intro A pins s σ H x y u v r sb I rx ry d
  obtain ⟨a, b, rfl, rfl, hs⟩ := hr _ _ _ _ d
  cases rx
  cases ry
  by_cases hab : a = b
  · subst hab
    rw [hs rfl]
    exact SeqAt.EqAt.same (A := A) (s := s) (.ref a) X.prog X.w X.xe _ ⟨rfl, H, I, Ext.rfl'⟩
  · refine GQ.eqBool_refG hab (wpAny_mono (h A pins s σ H (.ref a) (.ref b) _ _ r sb I rfl rfl d) (fun r' s' q => ?_) fun _ _ x => x)
    obtain ⟨hr', q⟩ := q
    exact ⟨r, hr', rfl, q⟩
/-- x == y as an expression -/
def rEqB (D : EqD) : R2 := fun x y H Q => ∃ r, D x y r H ∧ ∀ H', Ext H H' → Q (.bl r) H'
theorem op_eqB (h : RcB X n D) (hr : Room n X.A) : OpR X (compareOp .Eq) (rEqB D) := by
  intro pins s σ H x y v u Q I rx ry hq
  obtain ⟨r, d, q⟩ := hq
  refine wpAny_mono (h X.A pins s σ H x y v u r ⟨hr, rfl⟩ I rx ry d) (fun r' s' z => ?_) fun _ _ e => e
  obtain ⟨rfl, H', I', e⟩ := z
  exact ⟨.bl r, H', I', rfl, q H' e⟩
end
end K08

/-! equal conditions, by their rows; equal clauses -/
namespace K08
open PySem PySem.Spec PyProof.Rows L2
def k8 : R8 → Nat
  | .num _ => 0
  | .alive _ => 1
  | .dead _ => 2
  | .unl _ _ => 3
  | .unborne => 4
  | .never => 5
def w8 (k : Nat) : Str := (["number", "alive", "dead", "unlike", "unborne", "never"] : List Str).getD k ""
def args8 : R8 → List PyData
  | .num d => [d]
  | .alive d => [d]
  | .dead d => [d]
  | .unl d e => [d, e]
  | .unborne => []
  | .never => []
theorem k8_lt (r : R8) : k8 r < 6 := by cases r <;> simp [k8]
theorem w8_eq : ∀ i, i < 6 → ∀ j, j < 6 → (w8 i == w8 j) = decide (i = j) := by decide +kernel
theorem r8D_eq (r : R8) : r8D r = .tuple (.str (w8 (k8 r)) :: args8 r) := by cases r <;> rfl
theorem e8_eq (r s : R8) : PyData.eqv (r8D r) (r8D s) = (decide (k8 r = k8 s) && PyData.eqvAll (args8 r) (args8 s)) := by
  rw [r8D_eq, r8D_eq, ← w8_eq _ (k8_lt r) _ (k8_lt s)]
  rfl
def vD : PyData → V
  | .int i => .int i
  | .str x => .str x
  | _ => .non
def fsR : R8 → List (Str × V)
  | .num d => [("n", vD d)]
  | .alive d => [("way", vD d)]
  | .dead d => [("way", vD d)]
  | .unl d e => [("one", vD d), ("other", vD e)]
  | .unborne => []
  | .never => []
def ns8 (k : Nat) : List Str := ([["n"], ["way"], ["way"], ["one", "other"], [], []] : List (List Str)).getD k []
theorem fs_ns (r : R8) : (fsR r).map (·.1) = ns8 (k8 r) := by cases r <;> rfl
def C6.at (Cs : C6) (k : Nat) : Addr := ([Cs.n, Cs.a, Cs.d, Cs.u, Cs.b, Cs.v] : List Addr).getD k 0
theorem int_dec (i j : Int) : (i == j) = decide (V.int i = V.int j) := by
  by_cases h : i = j
  · rw [h, decide_eq_true rfl]; exact beq_self_eq_true j
  · rw [decide_eq_false fun z => h (by injection z)]; exact beq_false_of_ne h
theorem str_dec (x y : Str) : (x == y) = decide (V.str x = V.str y) := by
  by_cases h : x = y
  · rw [h, decide_eq_true rfl]; exact beq_self_eq_true y
  · rw [decide_eq_false fun z => h (by injection z)]; exact beq_false_of_ne h
/-- rows that are right: equal as data just if the fields are -/
theorem e8_fs {r s : R8} (hr : fltR r = none) (hs : fltR s = none) (hk : k8 r = k8 s) : scalAll (fsR r) (fsR s) ∧ PyData.eqvAll (args8 r) (args8 s) = fsEq (fsR r) (fsR s) := by
  cases r with
  | num d =>
    cases s with
    | num e =>
      obtain ⟨i, rfl, _⟩ := whole_D (if_none hr)
      obtain ⟨j, rfl, _⟩ := whole_D (if_none hs)
      exact ⟨⟨rfl, rfl, trivial⟩, by show ((i == j) && true) = (decide (V.int i = V.int j) && true); rw [int_dec]⟩
    | _ => cases hk
  | alive d =>
    cases s with
    | alive e =>
      obtain ⟨x, rfl, _⟩ := str_D (if_none hr)
      obtain ⟨y, rfl, _⟩ := str_D (if_none hs)
      exact ⟨⟨rfl, rfl, trivial⟩, by show ((x == y) && true) = (decide (V.str x = V.str y) && true); rw [str_dec]⟩
    | _ => cases hk
  | dead d =>
    cases s with
    | dead e =>
      obtain ⟨x, rfl, _⟩ := str_D (if_none hr)
      obtain ⟨y, rfl, _⟩ := str_D (if_none hs)
      exact ⟨⟨rfl, rfl, trivial⟩, by show ((x == y) && true) = (decide (V.str x = V.str y) && true); rw [str_dec]⟩
    | _ => cases hk
  | unl d d2 =>
    cases s with
    | unl e e2 =>
      obtain ⟨h1, h2⟩ := if_none hr
      obtain ⟨g1, g2⟩ := if_none hs
      obtain ⟨x, rfl, _⟩ := str_D h1
      obtain ⟨x2, rfl, _⟩ := str_D h2
      obtain ⟨y, rfl, _⟩ := str_D g1
      obtain ⟨y2, rfl, _⟩ := str_D g2
      exact ⟨⟨rfl, rfl, rfl, rfl, trivial⟩, by show ((x == y) && ((x2 == y2) && true)) = (decide (V.str x = V.str y) && (decide (V.str x2 = V.str y2) && true)); rw [str_dec, str_dec]⟩
    | _ => cases hk
  | unborne =>
    cases s with
    | unborne => exact ⟨trivial, rfl⟩
    | _ => cases hk
  | never =>
    cases s with
    | never => exact ⟨trivial, rfl⟩
    | _ => cases hk
theorem fsEq_refl : ∀ l : List (Str × V), fsEq l l = true
  | [] => rfl
  | f :: fs => by
    show (decide (f.2 = f.2) && fsEq fs fs) = true
    rw [decide_eq_true rfl, fsEq_refl fs]
    rfl
theorem cnd_at {Cs : C6} {H : Hp} {x : V} {r : R8} (hc : Cnd Cs H x r) (hf : fltR r = none) : ∃ a dx : Addr, x = .ref a ∧ H a = some (.ins (Cs.at (k8 r)) dx (fsR r)) := by
  cases hc with
  | num e hd =>
    obtain ⟨i, rfl, rfl, _⟩ := whole_int hd (if_none hf)
    exact ⟨_, _, rfl, e⟩
  | alive e hd =>
    obtain ⟨y, rfl, rfl, _⟩ := str_str hd (if_none hf)
    exact ⟨_, _, rfl, e⟩
  | dead e hd =>
    obtain ⟨y, rfl, rfl, _⟩ := str_str hd (if_none hf)
    exact ⟨_, _, rfl, e⟩
  | unl e hd hd2 =>
    obtain ⟨h1, h2⟩ := if_none hf
    obtain ⟨y, rfl, rfl, _⟩ := str_str hd h1
    obtain ⟨y2, rfl, rfl, _⟩ := str_str hd2 h2
    exact ⟨_, _, rfl, e⟩
  | unborne e => exact ⟨_, _, rfl, e⟩
  | never e => exact ⟨_, _, rfl, e⟩
/-- the six classes' == -/
structure CndEq (P : Program) (w : World) (K : PySem.W.Frag) (mg : Str → Option Value) (base : Heap) (Cs : C6) : Prop where
  eq : ∀ k, k < 6 → ∃ (f : Addr) (fd : FuncData), FnOk P w K mg base CX0 1 f fd ["self", "other"] (spEqC K (Cs.at k) (ns8 k)) ∧ PySem.W.findIn K (.ref (Cs.at k)) "__eq__" = some (some (.ref f)) ∧ PySem.W.isFn K (.ref f) = true ∧ Binds K fd ["self", "other"] []
  mks : ∀ k, k < 6 → PySem.W.makesIn K (Cs.at k) = true
  nf : ∀ i j, i < 6 → j < 6 → PySem.W.notFirst K (Cs.at i) (.ref (Cs.at j)) = true
  inj : ∀ i j, i < 6 → j < 6 → Cs.at i = Cs.at j → i = j
def DCnd (Cs : C6) : EqD := fun x y r H => ∃ r1 r2, Cnd Cs H x r1 ∧ Cnd Cs H y r2 ∧ fltR r1 = none ∧ fltR r2 = none ∧ r = PyData.eqv (r8D r1) (r8D r2)
theorem rcB_cnd {X : Cx} {Cs : C6} {E : XK} (hQ : CndEq X.prog X.w X.K X.mg X.base Cs) (hx : Passes CX0 X E) : RcB X 1 (DCnd Cs) := by
  intro A pins s σ H x y u v r sb I rx ry d
  obtain ⟨r1, r2, h1, h2, f1, f2, rfl⟩ := d
  obtain ⟨a, dx, rfl, ha⟩ := cnd_at h1 f1
  obtain ⟨b, dy, rfl, hb'⟩ := cnd_at h2 f2
  cases rx
  cases ry
  obtain ⟨mA, J, _⟩ := ins_get I.hok ha
  obtain ⟨mB, J', _⟩ := ins_get I.hok hb'
  obtain ⟨od, J, _⟩ := J.look
  obtain ⟨od', J', _⟩ := J'.look
  obtain ⟨m, hF⟩ := I.fr
  obtain ⟨f, fd, F, hs, hf, hb⟩ := hQ.eq _ (k8_lt r1)
  refine PySem.W.cmp_K (op := .Eq) (tb := .ref (Cs.at (k8 r2))) sb.room.units0 hF I.ok.mod.kin J J'.type (hQ.nf _ _ (k8_lt r1) (k8_lt r2)) hs hf ?_
  have hsp : spEqC X.K (Cs.at (k8 r1)) (ns8 (k8 r1)) [.ref a, .ref b] H (fun v H' => v = .bl (PyData.eqv (r8D r1) (r8D r2)) ∧ H' = H) E := by
    refine ⟨a, dx, fsR r1, .ref b, rfl, ha, fs_ns r1, ?_⟩
    rw [e8_eq]
    by_cases hk : k8 r1 = k8 r2
    · obtain ⟨g1, g2⟩ := e8_fs f1 f2 hk
      rw [decide_eq_true hk, Bool.true_and, g2]
      refine .inl ⟨b, dy, fsR r2, rfl, ?_, g1, rfl, rfl⟩
      rw [hk]
      exact hb'
    · rw [decide_eq_false hk, Bool.false_and]
      exact .inr ⟨.ins hb' (fun z => hk (hQ.inj _ _ (k8_lt r1) (k8_lt r2) z)) (hQ.mks _ (k8_lt r1)) (hQ.mks _ (k8_lt r2)), rfl, rfl⟩
  have e0 : Env0 X.prog X.w X.K X.mg X.base A X.stack s H := by
    have e := I.env0
    exact ⟨by rw [sb.fr]; exact e.frames, e.mod, e.bs, e.bsz, e.funs, e.frf, e.hok, e.bare⟩
  have hl := F.len _ _ _ _ hsp
  have rr : Vals [V.ref a, V.ref b] [Value.ref a, Value.ref b] := .cons rfl (.cons rfl .nil)
  refine wpAny_call (codeAny_mono (F.run A X.stack s H ⟨[.ref a, .ref b], []⟩ [.ref a, .ref b] [.ref a, .ref b] _ E sb.room e0 (by
    have := hb s [.ref a, .ref b] I.kIn (by simpa using hl)
    simpa using this) rr hsp) fun r s' hq => ?_)
  cases r with
  | error e => exact hx pins σ H s e s' I hq
  | ok fl =>
    cases fl with
    | ret w =>
      obtain ⟨z, H', I', rz, ez, ex⟩ := I.after hq
      subst ez ex
      cases rz
      exact ⟨rfl, H', I', Ext.rfl'⟩
    | next => exact False.elim hq
    | brk => exact False.elim hq
    | cont => exact False.elim hq
theorem eqB_cnd {X : Cx} {Cs : C6} {E : XK} (hQ : CndEq X.prog X.w X.K X.mg X.base Cs) (hx : Passes CX0 X E) : EqB X 1 (DCnd Cs) := (rcB_cnd hQ hx).eqB fun x y r H d => by
  obtain ⟨r1, r2, h1, h2, f1, f2, rfl⟩ := d
  obtain ⟨a, dx, rfl, ha⟩ := cnd_at h1 f1
  obtain ⟨b, dy, rfl, hb⟩ := cnd_at h2 f2
  refine ⟨a, b, rfl, rfl, fun e => ?_⟩
  subst e
  rw [ha] at hb
  injection hb with hb
  injection hb with hb1 hb2 hb3
  have hk : k8 r1 = k8 r2 := hQ.inj _ _ (k8_lt r1) (k8_lt r2) hb1
  rw [e8_eq, decide_eq_true hk, (e8_fs f1 f2 hk).2, hb3, fsEq_refl]
  rfl
/-- conditions, one by one, each by its row -/
structure CndsAt (Cs : C6) (H : Hp) (ys : List V) (rs : List R8) : Prop where
  len : ys.length = rs.length
  all : ∀ (i : Nat) y r, ys[i]? = some y → rs[i]? = some r → Cnd Cs H y r
  ok : ∀ r ∈ rs, fltR r = none
theorem CndsAt.same {Cs : C6} {H H' : Hp} {ys : List V} {rs : List R8} (h : CndsAt Cs H ys rs) (s : Same H H') : CndsAt Cs H' ys rs := ⟨h.len, fun i y r e1 e2 => (h.all i y r e1 e2).same s, h.ok⟩
def bsOf (rs ss : List R8) (i : Nat) : Bool := match rs[i]?, ss[i]? with
  | some a, some b => PyData.eqv (r8D a) (r8D b)
  | _, _ => true
theorem eqvAll_F : ∀ {rs ss : List R8} {i : Nat}, i < rs.length → i < ss.length → bsOf rs ss i = false → PyData.eqvAll (rs.map r8D) (ss.map r8D) = false
  | r :: rs, s :: ss, 0, _, _, h => by
    show (PyData.eqv (r8D r) (r8D s) && _) = false
    rw [show PyData.eqv (r8D r) (r8D s) = false from h]
    rfl
  | r :: rs, s :: ss, i + 1, h1, h2, h => by
    show (PyData.eqv (r8D r) (r8D s) && PyData.eqvAll (rs.map r8D) (ss.map r8D)) = false
    rw [eqvAll_F (rs := rs) (ss := ss) (i := i) (Nat.lt_of_succ_lt_succ h1) (Nat.lt_of_succ_lt_succ h2) h, Bool.and_false]
theorem eqvAll_E : ∀ {rs ss : List R8}, (∀ i, i < rs.length → i < ss.length → bsOf rs ss i = true) → PyData.eqvAll (rs.map r8D) (ss.map r8D) = (rs.length == ss.length)
  | [], [], _ => rfl
  | [], _ :: _, _ => rfl
  | _ :: _, [], _ => rfl
  | r :: rs, s :: ss, h => by
    show (PyData.eqv (r8D r) (r8D s) && PyData.eqvAll (rs.map r8D) (ss.map r8D)) = _
    rw [show PyData.eqv (r8D r) (r8D s) = true from h 0 (Nat.zero_lt_succ _) (Nat.zero_lt_succ _), Bool.true_and, eqvAll_E (rs := rs) (ss := ss) fun i h1 h2 => h (i + 1) (Nat.succ_lt_succ h1) (Nat.succ_lt_succ h2)]
    by_cases e : rs.length = ss.length
    · rw [List.length_cons, List.length_cons, e, beq_self_eq_true, beq_self_eq_true]
    · rw [beq_false_of_ne e, List.length_cons, List.length_cons, beq_false_of_ne (fun z => e (Nat.succ.inj z))]
theorem tup_cnds {Cs : C6} {H : Hp} {a b : Addr} {xs ys : List V} {rs ss : List R8} (ha : H a = some (.tup xs)) (hb : H b = some (.tup ys)) (h1 : CndsAt Cs H xs rs) (h2 : CndsAt Cs H ys ss) : DTupB (DCnd Cs) (.ref a) (.ref b) (PyData.eqvAll (rs.map r8D) (ss.map r8D)) H := by
  refine ⟨a, b, xs, ys, bsOf rs ss, rfl, rfl, ha, hb, fun H' e i x y e1 e2 => ?_, fun ⟨i, i1, i2, hi⟩ => ?_, fun hall => ?_⟩
  · have i1 : i < rs.length := by rw [← h1.len]; exact (List.getElem?_eq_some_iff.mp e1).1
    have i2 : i < ss.length := by rw [← h2.len]; exact (List.getElem?_eq_some_iff.mp e2).1
    have g1 := List.getElem?_eq_getElem i1
    have g2 := List.getElem?_eq_getElem i2
    refine ⟨rs[i], ss[i], (h1.all i _ _ e1 g1).same e, (h2.all i _ _ e2 g2).same e, h1.ok _ (List.getElem_mem i1), h2.ok _ (List.getElem_mem i2), ?_⟩
    show (match rs[i]?, ss[i]? with
      | some a, some b => PyData.eqv (r8D a) (r8D b)
      | _, _ => true) = _
    rw [g1, g2]
  · rw [h1.len] at i1
    rw [h2.len] at i2
    exact eqvAll_F i1 i2 hi
  · rw [h1.len, h2.len]
    exact eqvAll_E fun i i1 i2 => hall i (by rw [h1.len]; exact i1) (by rw [h2.len]; exact i2)
abbrev sTakeE : Stmt := inClass (top 23) 9
abbrev sFreeE : Stmt := inClass (top 24) 9
def spTakE (K : PySem.W.Frag) (Cs : C6) (CT : Addr) : Sp := fun vs H Q _ => ∃ (x dx tp : Addr) (z : Str) (us : List V) (rs : List R8) (y : V), vs = [.ref x, y] ∧ H x = some (.ins CT dx [("source", .str z), ("conditions", .ref tp)]) ∧ H tp = some (.tup us) ∧ CndsAt Cs H us rs ∧
  ((∃ (x2 dx2 tp2 : Addr) (z2 : Str) (us2 : List V) (ss : List R8), y = .ref x2 ∧ H x2 = some (.ins CT dx2 [("source", .str z2), ("conditions", .ref tp2)]) ∧ H tp2 = some (.tup us2) ∧ CndsAt Cs H us2 ss ∧ ∀ H', Same H H' → Q (.bl (decide (z = z2) && PyData.eqvAll (rs.map r8D) (ss.map r8D))) H') ∨ (Oth K CT H y ∧ Q (.bl false) H))
def spFreE (K : PySem.W.Frag) (CF : Addr) : Sp := fun vs H Q _ => ∃ (x dx tp : Addr) (zs : List Str) (y : V), vs = [.ref x, y] ∧ H x = some (.ins CF dx [("bars", .ref tp)]) ∧ H tp = some (.tup (sV zs)) ∧ (∀ z ∈ zs, okS z = true) ∧
  ((∃ (x2 dx2 tp2 : Addr) (zs2 : List Str), y = .ref x2 ∧ H x2 = some (.ins CF dx2 [("bars", .ref tp2)]) ∧ H tp2 = some (.tup (sV zs2)) ∧ (∀ z ∈ zs2, okS z = true) ∧ Q (.bl (PyData.eqvAll (zs.map PyData.str) (zs2.map PyData.str))) H) ∨ (Oth K CF H y ∧ Q (.bl false) H))
section
variable {P : Program} {w : World} {K : PySem.W.Frag} {mg : Str → Option Value} {base : Heap}
theorem ok_takeE {Cs : C6} {f C : Addr} {fd : FuncData} (F : FunD K "__eq__" "Take.__eq__" (defArgs sTakeE) (defBody sTakeE) (defScope sTakeE) [] [] f fd) (T : ConC K C ["source", "conditions"]) (z_type : mg "type" = none) (hQ : CndEq P w K mg base Cs) : FnOk P w K mg base CX0 3 f fd ["self", "other"] (spTakE K Cs C) := by
  have sc : FnScope ["self", "other"] ["self", "other"] (defScope sTakeE) := ⟨rfl, rfl, rfl, by decide +kernel, rfl, by decide +kernel, by decide +kernel⟩
  refine F.ok sc (fun vs H Q E h => ?_) (fun cdv A outer s H vs Q E hr h => ?_)
  · obtain ⟨x, dx, tp, z, us, rs, y, rfl, _⟩ := h
    rfl
  · obtain ⟨x, dx, tp, z, us, rs, y, rfl, hx, ht, hC, h⟩ := h
    refine ⟨_, PSs.nox (pss_one (ps_ret (pe_and (pe_cmpR op_is2 (pe_callTy cr_type2 (by rfl) z_type (by decide +kernel) (pa_cons (pv 0) pa_nil)) (pe_callTy cr_type2 (by rfl) z_type (by decide +kernel) (pa_cons (pv 1) pa_nil)) (nomark _)) (pe_and (pe_cmpR op_eq (pe_fld (pv 0) rfl) (pe_fld (pv 1) rfl) (nomark _)) (pe_one (pe_cmpR (op_eqB (rcB_tup (eqB_cnd hQ pass0)) hr) (pe_fld (pv 0) rfl) (pe_fld (pv 1) rfl) (nomark _))))))), ?_⟩
    rcases h with ⟨x2, dx2, tp2, z2, us2, ss, rfl, hx2, ht2, hC2, q⟩ | ⟨o, q⟩
    · refine type_same rfl rfl hx hx2 ⟨_, rfl, iteT ?_⟩
      refine ⟨_, rfl, x, C, dx, _, _, rfl, hx, T.cl, T.no _ List.mem_cons_self, rfl, _, rfl, x2, C, dx2, _, _, rfl, hx2, T.cl, T.no _ List.mem_cons_self, rfl, rfl, _, rfl, ?_⟩
      have e : decide (V.str z = V.str z2) = decide (z = z2) := decide_eq_decide.mpr ⟨fun h => by injection h, fun h => by rw [h]⟩
      rw [e]
      have m2 := T.no "conditions" (List.mem_cons_of_mem _ List.mem_cons_self)
      refine ite2 (fun g => ?_) (fun g => ?_)
      · rw [g] at q
        exact ⟨_, rfl, x, C, dx, _, _, rfl, hx, T.cl, m2, rfl, _, rfl, x2, C, dx2, _, _, rfl, hx2, T.cl, m2, rfl, _, tup_cnds ht ht2 hC hC2, fun H' e => q H' e⟩
      · rw [Bool.eq_false_iff.mpr g] at q
        exact q H (Same.refl _)
    · exact type_oth rfl rfl hx o ⟨_, rfl, iteF q⟩
theorem ok_freeE {f C : Addr} {fd : FuncData} (F : FunD K "__eq__" "Free.__eq__" (defArgs sFreeE) (defBody sFreeE) (defScope sFreeE) [] [] f fd) (T : ConC K C ["bars"]) (z_type : mg "type" = none) : FnOk P w K mg base CX0 3 f fd ["self", "other"] (spFreE K C) := by
  have sc : FnScope ["self", "other"] ["self", "other"] (defScope sFreeE) := ⟨rfl, rfl, rfl, by decide +kernel, rfl, by decide +kernel, by decide +kernel⟩
  refine F.ok sc (fun vs H Q E h => ?_) (fun cdv A outer s H vs Q E hr h => ?_)
  · obtain ⟨x, dx, tp, zs, y, rfl, _⟩ := h
    rfl
  · obtain ⟨x, dx, tp, zs, y, rfl, hx, ht, hz, h⟩ := h
    refine ⟨_, PSs.nox (pss_one (ps_ret (pe_and (pe_cmpR op_is2 (pe_callTy cr_type2 (by rfl) z_type (by decide +kernel) (pa_cons (pv 0) pa_nil)) (pe_callTy cr_type2 (by rfl) z_type (by decide +kernel) (pa_cons (pv 1) pa_nil)) (nomark _)) (pe_one (pe_cmpR (op_eqD hr.units) (pe_fld (pv 0) rfl) (pe_fld (pv 1) rfl) (nomark _)))))), ?_⟩
    rcases h with ⟨x2, dx2, tp2, zs2, rfl, hx2, ht2, hz2, q⟩ | ⟨o, q⟩
    · refine type_same rfl rfl hx hx2 ⟨_, rfl, iteT ?_⟩
      have d1 : Dt Any H (.ref tp) (.tuple (zs.map PyData.str)) := .tup trivial ht (strs_dt hz)
      have d2 : Dt Any H (.ref tp2) (.tuple (zs2.map PyData.str)) := .tup trivial ht2 (strs_dt hz2)
      have sh : ∀ l : List Str, PyData.depth (.tuple (l.map PyData.str)) ≤ 64 := fun l => by
        show PyData.depthAll (l.map PyData.str) + 1 ≤ 64
        have := str_deep l
        omega
      exact ⟨_, rfl, x, C, dx, _, _, rfl, hx, T.cl, T.no _ List.mem_cons_self, rfl, _, rfl, x2, C, dx2, _, _, rfl, hx2, T.cl, T.no _ List.mem_cons_self, rfl, _, _, d1.dp, d2.dp, shaped_of d1.lay (sh _), shaped_of d2.lay (sh _), q⟩
    · exact type_oth rfl rfl hx o ⟨_, rfl, iteF q⟩
end
end K08

/-! != of an instance whose class has its own __eq__ -/
namespace K08
open PySem PySem.Spec PyProof.Rows L2
theorem slotNe : Slot "object" "__ne__" "object.__ne__" := .of (owner := "object") (n := "__ne__") (by rw [typeLookup_type, builtinLookup_eq_fast]; kernel_rfl) (by decide +kernel) (by decide +kernel) (by decide +kernel) (by first | exact .inl (by decide +kernel) | exact .inr (by decide +kernel)) (by rw [isSubtype_type]; kernel_rfl)
section
variable {prog : Program} {w : World} {A : Around} {E : Value → Shared → Prop} {s : Shared} {K : PySem.W.Frag} {x C f : Addr} {ox : Obj} {od : Option Obj} {b tb : Value}
theorem ne_own {Q : Value → Shared → Prop} (hu : A.units + 1 < cLine) (X : K.In s.heap) (I : PySem.W.InstAt s.heap x ox C od) (hb : PySem.W.Looks (model prog w) s.heap (typeOf b) tb) (hn : PySem.W.notFirst K C tb = true) (hne : PySem.W.findIn K (.ref C) "__ne__" = some (some (.builtin "object.__ne__")))
    (hs : PySem.W.findIn K (.ref C) "__eq__" = some (some (.ref f))) (hf : PySem.W.isFn K (.ref f) = true) (hob : PySem.W.mroIn K C (.type "object") = some true)
    (h : wpAny (model prog w) A.in1 (call (.ref f) [.ref x, b]) (fun v s' => ∃ b, v = .bool b ∧ Q (.bool (!b)) s') E s) : wpAny (model prog w) A (richCompare .NotEq (.ref x) b) Q E s := by
  have sub : PySem.W.Looks (model prog w) s.heap (isInstance (.ref x) (.type "object")) true := I.type.andThen (PySem.W.looks_mroIn X hob)
  have body : wpAny (model prog w) A.in1 (Builtin.«object.__ne__» ⟨[.ref x, b], []⟩) (fun fin s' => ∃ v, fin = .done (.ret v) ∧ (∃ b, v = .bool b) ∧ Q v s') E s := by
    unfold Builtin.«object.__ne__»
    refine wpAny_bind (wpAny_pure ?_)
    refine wpAny_bind (wpAny_cRoomFor (by show A.units + 1 < cLine; exact hu) ?_)
    refine wpAny_bind (PySem.W.ifBound_K X I hs hf (wpAny_mono h (fun v s' hv => ?_) fun _ _ e => e))
    obtain ⟨b, rfl, q⟩ := hv
    refine wpAny_bind (wpAny_truthy_bool ?_)
    exact wpAny_pure ⟨_, rfl, ⟨_, rfl⟩, q⟩
  have run : wpAny (model prog w) A (call (.builtin "object.__ne__") [.ref x, b]) (fun v s' => (∃ b, v = .bool b) ∧ Q v s') E s := by
    refine wpAny_call (codeAny_call_builtin slotNe.plain F.cmpEntry_ne ?_)
    have fin : ∀ s' , s' = s → wpAny (model prog w) A.in1 (Builtin.«object.__ne__» ⟨[.ref x, b], []⟩) (fun fin s' => match fin with
        | .done f => (match (Except.ok f : Result) with | .ok (.ret v) => (∃ b, v = Value.bool b) ∧ Q v s' | .ok _ => False | .error e => E e s')
        | .again c' => c'.quiet = true ∧ codeAny (model prog w) A c' (fun r s' => match r with | .ok (.ret v) => (∃ b, v = Value.bool b) ∧ Q v s' | .ok _ => False | .error e => E e s') s') E s' := by
      rintro _ rfl
      refine wpAny_mono body (fun fin s' hv => ?_) fun _ _ e => e
      obtain ⟨v, rfl, hb, q⟩ := hv
      exact ⟨hb, q⟩
    simp only [checkBuiltinCall, F.cmpKind_ne, F.cmpSplit_ne]
    refine wpAny_bind (sub.here ?_)
    have ha := F.cmpArgs_ne (.ref x) b
    cases hsig : Manifest.signature? "object.__ne__" with
    | none => exact wpAny_pure (fin s rfl)
    | some sig =>
      simp only [argsOk, hsig] at ha
      have h2 : Bind.checkArgs "object.__ne__" sig ⟨[.ref x, b], []⟩ = pure () := ha
      show wpAny _ _ (Bind.checkArgs "object.__ne__" sig ⟨[.ref x, b], []⟩) _ _ _
      rw [h2]
      exact wpAny_pure (fin s rfl)
  have one : wpAny (model prog w) A (tryCompare (.ref x) (cmpInfo .NotEq).2.1 b) (fun r s' => ∃ v, r = some v ∧ Q v s') E s := by
    unfold tryCompare
    refine wpAny_bind (m := callSpecialIfBound? (.ref x) "__ne__" [b]) ?_
    simp only [callSpecialIfBound?, bindSpecialIfBound?]
    refine wpAny_holding (wpAny_bind (wpAny_bind (wpAny_bind (I.type.here ((PySem.W.looks_findIn X hne).here ?_)))))
    refine wpAny_bind (wpAny_askSetting (wpAny_ite ?_))
    have fin : wpAny (model prog w) A (call (.builtin "object.__ne__") ([.ref x] ++ [b]) >>= fun v => pure (some v)) (fun r s' => wpAny (model prog w) A (match r with
        | some Value.notImplemented => pure none
        | none => pure none
        | some u => pure (some u)) (fun r s' => ∃ v, r = some v ∧ Q v s') E s') E s := wpAny_bind (wpAny_mono run (fun v s' hv => by
      obtain ⟨⟨b, rfl⟩, q⟩ := hv
      exact wpAny_pure (wpAny_pure ⟨_, rfl, q⟩)) fun _ _ e => e)
    split
    · exact wpAny_bind (wpAny_of_eq (slotNe.bind _) (wpAny_pure (by exact fin)))
    · exact wpAny_tryCatch (wpAny_bind (wpAny_of_eq (slotNe.bind _) (wpAny_pure (by exact fin))))
  unfold richCompare
  simp only [oneThing_ref]
  refine wpAny_holding (wpAny_bind (wpAny_cRoomFor (by omega) ?_))
  refine wpAny_bind (I.type.here (wpAny_bind (hb.here ?_)))
  split
  · rename_i q
    have e : PySem.W.subIn K tb (.ref C) = some false := by
      rcases Bool.or_eq_true_iff.mp hn with e | e
      · rw [beq_iff_eq.mp e] at q; simp at q
      · exact beq_iff_eq.mp e
    refine wpAny_bind ((PySem.W.looks_subIn X e).here ?_)
    simp only [Bool.false_eq_true, if_false]
    refine wpAny_bind (wpAny_mono one (fun r s' z => ?_) fun _ _ e => e)
    obtain ⟨v, rfl, hq⟩ := z
    exact wpAny_pure hq
  · refine wpAny_bind (wpAny_pure ?_)
    simp only [Bool.false_eq_true, if_false]
    refine wpAny_bind (wpAny_mono one (fun r s' z => ?_) fun _ _ e => e)
    obtain ⟨v, rfl, hq⟩ := z
    exact wpAny_pure hq
end
/-- a class with an own == and no own != -/
structure NeC (K : PySem.W.Frag) (C f : Addr) : Prop where
  ne : PySem.W.findIn K (.ref C) "__ne__" = some (some (.builtin "object.__ne__"))
  eq : PySem.W.findIn K (.ref C) "__eq__" = some (some (.ref f))
  fn : PySem.W.isFn K (.ref f) = true
  ob : PySem.W.mroIn K C (.type "object") = some true
/-- != of an instance of the class at C -/
def rNeB (K : PySem.W.Frag) (C : Addr) (sp : Sp) : R2 := fun x y H Q => ∃ (a dx : Addr) (fs : List (Str × V)) (tb : Value), x = .ref a ∧ H a = some (.ins C dx fs) ∧ TyR H y tb ∧ PySem.W.notFirst K C tb = true ∧ sp [.ref a, y] H (fun v H' => ∃ b, v = .bl b ∧ Q (.bl (!b)) H') E0
theorem op_neB {X : Cx} {n : Nat} {C f : Addr} {fd : FuncData} {ps : List Str} {sp : Sp} (F : FnOk X.prog X.w X.K X.mg X.base CX0 n f fd ps sp) (N : NeC X.K C f) (hb : Binds X.K fd ps []) (hr : Room (n + 1) X.A) : OpR X (compareOp .NotEq) (rNeB X.K C sp) := by
  intro pins s σ H x y u v Q I rx ry h
  obtain ⟨a, dx, fs, tb, rfl, ha, ty, nf, hsp⟩ := h
  cases rx
  obtain ⟨mA, J, _⟩ := ins_get I.hok ha
  obtain ⟨od, J, _⟩ := J.look
  refine PySem.W.cmp_ofNotEq (ne_own (by have := hr.units; omega) I.kIn J (ty.look I ry) nf N.ne N.eq N.fn N.ob ?_)
  have sb : Sub X n X.A.in1 := Sub.in1 (⟨hr, rfl⟩ : Sub X (n + 1) X.A)
  have hl := F.len _ _ _ _ hsp
  have r2 : Vals [V.ref a, y] [Value.ref a, v] := .cons rfl (.cons ry .nil)
  refine wpAny_call (codeAny_mono (F.run X.A.in1 X.stack s H ⟨[.ref a, v], []⟩ [.ref a, v] [.ref a, y] _ E0 sb.room (by
    have e := I.env0
    exact ⟨by rw [sb.fr]; exact e.frames, e.mod, e.bs, e.bsz, e.funs, e.frf, e.hok, e.bare⟩) (by
    have := hb s [.ref a, v] I.kIn (by simpa using hl)
    simpa using this) r2 hsp) fun r s' hq => ?_)
  cases r with
  | error e => exact hq.elim
  | ok fl =>
    cases fl with
    | ret w =>
      obtain ⟨z, H', I', rz, c, ez, q⟩ := I.after hq
      subst ez
      cases rz
      exact ⟨c, rfl, .bl (!c), H', I', rfl, q⟩
    | next => exact False.elim hq
    | brk => exact False.elim hq
    | cont => exact False.elim hq
end K08

/-! comprehensions that draw; rows that the hand leaves alone -/
namespace K08
open PySem PySem.Spec PyProof.Rows L2
theorem lc_K {J : It} {xs : List V} {G : Hp → Prop} (w : Walk J xs.length G (YAt xs)) {p l : Addr} {j : Nat} {te : TE} {vs : List Nat} {σ : L2.St} {H1 : Hp} {D : Addr} {Qd : Hp → Prop} (R : Nat → List V → Hp → Prop) (hR : LcR D R) (hp : Hand p l H1) (nD : H1 D = none) (hl : xs.length < sizeLine)
    (h0 : R 0 [] (upd H1 D (.lst []))) (hG : ∀ H', Kept p H1 H' → G H') (hw : ∀ x, wipe ((wipe σ vs).set j (some x)) vs = wipe σ vs)
    (hs : ∀ i x acc H', xs[i]? = some x → Kept p H1 H' → Hand p l H' → H' D = some (.lst acc) → R i acc H' → te ((wipe σ vs).set j (some x)) H' fun y H4 => Kept p H' H4 ∧ Hand p l H4 ∧ R (i + 1) (acc ++ [y]) H4)
    (me : ∀ σ H (Q Q' : VK), (∀ v H', Q v H' → Q' v H') → te σ H Q → te σ H Q')
    (hd : ∀ H' acc, Kept p H1 H' → Hand p l H' → H' D = some (.lst acc) → R xs.length acc H' → Qd H') :
    ∃ W : Nat → Nat → Hp → Prop, (∃ m, W 0 m (upd H1 D (.lst []))) ∧ ∀ i m H, W i m H →
      (J.stop i H ∧ Qd H) ∨ (J.go i H ∧ ∃ Nx : Hp → Prop, (∀ H', Nx H' → ∃ m', m' < m ∧ W (i + 1) m' H') ∧ ∀ x H', J.yld i H x H' → gName j x (wipe σ vs) H' fun σ2 H2 => wipe σ2 vs = wipe σ vs ∧ tYes σ2 H2 fun b H3 =>
        if b = true then te σ2 H3 fun y H4 => ∃ acc, H4 D = some (.lst acc) ∧ acc.length < sizeLine ∧ Nx (upd H4 D (.lst (acc ++ [y]))) else Nx H3) := by
  have nDp : D ≠ p := hp.nn nD
  have nDl : D ≠ l := hp.nl nD
  have up : ∀ {H' : Hp} {o : HO}, Kept p H1 H' → Kept p H1 (upd H' D o) := fun k b u nb e => by
    rw [upd_ne (ne_of_none e nD)]
    exact k b u nb e
  refine lc_it w (fun i H' => Kept p H1 H' ∧ Hand p l H' ∧ ∃ acc, H' D = some (.lst acc) ∧ R i acc H') ⟨Kept.same (same_upd nD), hp.same (same_upd nD), [], upd_same, h0⟩ (fun i H' _ h => hG H' h.1) ?_ (fun H' ⟨k, h, acc, e, r⟩ => hd H' acc k h e r)
  rintro i x H2 H3 hi ⟨k2, h2, acc, eD, r⟩ ⟨rfl, ev⟩
  refine ⟨hw x, ?_⟩
  simp only [tYes, if_true]
  refine me _ _ _ _ ?_ (hs i x acc _ ev k2 h2 eD r)
  rintro y H5 ⟨k5, h5, r5⟩
  have eD5 := k5 _ _ nDp eD
  exact ⟨acc, eD5, Nat.lt_of_le_of_lt (hR.few _ _ _ r) (by omega), up (k2.trans k5), h5.app nDp nDl, acc ++ [y], upd_same, hR.keep _ _ _ _ _ r5 eD5 fun b u nb e => (upd_ne nb).trans e⟩
/-- other places than p -/
abbrev Np (p : Addr) : Addr → Prop := fun a => a ≠ p
theorem Dt.np {S : Addr → Prop} {H : Hp} {v : V} {d : PyData} {p : Addr} (h : Dt S H v d) (hS : ∀ a, S a → a ≠ p) : Dt (Np p) H v d := h.to hS fun _ _ _ e => e
theorem Dt.new_np {H H' : Hp} {v : V} {d : PyData} {p l : Addr} (h : Dt (New H) H' v d) (hp : Hand p l H) : Dt (Np p) H' v d := h.np fun _ n => hp.nn n
theorem Dt.np_kept {H H' : Hp} {v : V} {d : PyData} {p : Addr} (h : Dt (Np p) H v d) (k : Kept p H H') : Dt (Np p) H' v d := h.kept (fun n => n rfl) k
theorem DtAll.np_kept {H H' : Hp} {v : List V} {d : List PyData} {p : Addr} (h : DtAll (Np p) H v d) (k : Kept p H H') : DtAll (Np p) H' v d := h.kept (fun n => n rfl) k
/-- rows that are right, in a list, apart from the hand -/
structure RowsP (p : Addr) (H : Hp) (g : Addr) (us : List V) (rs : List R8) : Prop where
  ne : g ≠ p
  at_ : H g = some (.lst us)
  all : DtAll (Np p) H us (rs.map r8D)
  ok : ∀ r ∈ rs, fltR r = none
theorem RowsP.kept {p : Addr} {H H' : Hp} {g : Addr} {us : List V} {rs : List R8} (h : RowsP p H g us rs) (k : Kept p H H') : RowsP p H' g us rs := ⟨h.ne, k _ _ h.ne h.at_, h.all.np_kept k, h.ok⟩
theorem RowsP.rows {p : Addr} {H : Hp} {g : Addr} {us : List V} {rs : List R8} (h : RowsP p H g us rs) : RowsAt H g us rs := ⟨h.at_, h.all.any, h.ok⟩
theorem RowsP.len {p : Addr} {H : Hp} {g : Addr} {us : List V} {rs : List R8} (h : RowsP p H g us rs) : us.length = rs.length := h.rows.len
theorem RowsP.mem {p : Addr} {H : Hp} {g : Addr} {us : List V} {rs : List R8} (h : RowsP p H g us rs) {v : V} (hv : v ∈ us) : ∃ r, fltR r = none ∧ Dt (Np p) H v (r8D r) := by
  obtain ⟨d, hd, hvd⟩ := h.all.mem hv
  obtain ⟨r, hr, rfl⟩ := List.mem_map.mp hd
  exact ⟨r, h.ok r hr, hvd⟩
/-- one is picked -/
theorem pick_row {i j : Nat} {p l g : Addr} {us : List V} {rs : List R8} {σ : L2.St} {H : Hp} {Q : VK} (e0 : σ[i]? = some (some (.ref p))) (e1 : σ[j]? = some (some (.ref g))) (hp : Hand p l H) (h : RowsP p H g us rs) (h0 : 0 < us.length) (h1 : us.length ≤ 1000)
    (q : ∀ v r H', fltR r = none → Dt (Np p) H' v (r8D r) → Kept p H H' → Hand p l H' → Q v H') : tCall spPk [] E0 (tCons (tVar i) (tCons (tVar j) tNil)) σ H Q :=
  ⟨_, e0, _, e1, p, l, g, us, rfl, hp, h.at_, h.ne, h0, h1, fun v H' hv k hp' => by
    obtain ⟨r, hf, hd⟩ := h.mem hv
    exact q v r H' hf (hd.np_kept k) k hp'⟩
theorem mE_pk {i j : Nat} : MonoE (tCall spPk [] E0 (tCons (tVar i) (tCons (tVar j) tNil))) := fun _ _ _ _ h ⟨a, e0, b, e1, p, l, c, us, e2, h1, h2, h3, h4, h5, q⟩ => ⟨a, e0, b, e1, p, l, c, us, e2, h1, h2, h3, h4, h5, fun v H' hv k hp => h _ _ (q v H' hv k hp)⟩
theorem src_mem {x : Str} (h : srcV (.str x) = true) : x ∈ srcs := of_decide_eq_true ((in_strs x srcs).symm.trans h)
theorem way_mem {x : Str} (h : wayV (.str x) 1 3 = true) : x ∈ foundN 4 := by
  rw [← way_same, in_strs] at h
  exact of_decide_eq_true h
theorem okS_txt {r : R8} (h : fltR r = none) : okS (txtR r) = true := by
  cases r with
  | num d =>
    obtain ⟨i, rfl, h1, h4⟩ := whole_D (if_none h)
    obtain rfl | rfl | rfl | rfl : i = 1 ∨ i = 2 ∨ i = 3 ∨ i = 4 := by omega
    all_goals decide +kernel
  | alive d =>
    obtain ⟨x, rfl, hx⟩ := str_D (if_none h)
    have z : ((foundN 4).all fun y => okS (("alive" : Str) ++ (" " : Str) ++ y)) = true := by decide +kernel
    exact List.all_eq_true.mp z x (way_mem hx)
  | dead d =>
    obtain ⟨x, rfl, hx⟩ := str_D (if_none h)
    have z : ((foundN 4).all fun y => okS (("dead" : Str) ++ (" " : Str) ++ y)) = true := by decide +kernel
    exact List.all_eq_true.mp z x (way_mem hx)
  | unl d e =>
    obtain ⟨h1, h2⟩ := if_none h
    obtain ⟨x, rfl, hx⟩ := str_D h1
    obtain ⟨y, rfl, hy⟩ := str_D h2
    have z : (srcs.all fun x => srcs.all fun y => okS (("unlike " : Str) ++ x ++ (" " : Str) ++ y)) = true := by decide +kernel
    exact List.all_eq_true.mp (List.all_eq_true.mp z x (src_mem hx)) y (src_mem hy)
  | unborne => decide +kernel
  | never => decide +kernel
theorem itm_ins {K : PySem.W.Frag} {CC C a dx : Addr} {b : Bool} {H : Hp} {fs : List (Str × V)} (CI : ClsI K CC b C) (e : H a = some (.ins C dx fs)) : Itm K CC H (.ref a) b := ⟨.ref C, fun H' s => CI.ty (s _ _ e), CI.kC⟩
theorem cnd_itm {K : PySem.W.Frag} {CC : Addr} {Cs : C6} {H : Hp} {x : V} {r : R8} (hI : ∀ C ∈ Cs.all, ClsI K CC true C) (hc : Cnd Cs H x r) : Itm K CC H x true := by
  obtain ⟨a, C, dx, fs, rfl, ea, hm⟩ := hc.ins
  exact itm_ins (hI C hm) ea
end K08

/-! a Take is as its parts ask, or refused as it must be: what follows the drawing -/
namespace K08
open PySem PySem.Spec PyProof.Rows L2
abbrev nmT : List Str := ["_law_hand_here", "_law_good", "_law_source", "_law_rows_here", "_law_k", "_law_parts_here", "_law_row_here", "_law_fine", "_law_at", "_law_due", "_law_told_here", "_law_one"]
theorem scT : FnScope nmT ["_law_hand_here", "_law_good"] (defScope sTakeRight) := ⟨rfl, rfl, rfl, by decide +kernel, rfl, by decide +kernel, by decide +kernel⟩
/-- str of an instance of C -/
structure StrC (P : Program) (w : World) (K : PySem.W.Frag) (mg : Str → Option Value) (base : Heap) (C : Addr) (n : Nat) (sp : Sp) (f : Addr) (fd : FuncData) : Prop where
  ok : FnOk P w K mg base CX0 n f fd ["self"] sp
  at_ : PySem.W.findIn K (.ref C) "__str__" = some (some (.ref f))
  fn : PySem.W.isFn K (.ref f) = true
  bi : Binds K fd ["self"] []
/-- the manner of a class of clauses -/
structure ManC (K : PySem.W.Frag) (C : Addr) (z : Str) : Prop where
  con : ∃ u, Con K C "MANNER" (.str z) u
  val : ∃ mc u, ClX.CRead K C mc ∧ ClX.CVal K C mc "MANNER" (.str z) u
structure TkS (K : PySem.W.Frag) (Cs : C6) (CC p : Addr) (H : Hp) (src : V) (sd : PyData) (D D2 D3 : Addr) (us ys : List V) (rs : List R8) (bs : List Bool) : Prop where
  src : Dt Any H src sd
  rows : RowsAt H D us rs
  few : us.length ≤ 5
  parts : H D2 = some (.lst ys)
  ylen : ys.length = bs.length
  fine : H D3 = some (.lst (bs.map V.bl))
  blen : bs.length = us.length
  itm : ∀ (i : Nat) y b, ys[i]? = some y → bs[i]? = some b → Itm K CC H y b
  good : (∀ b ∈ bs, b = true) → CndsAt Cs H ys rs
theorem TkS.same {K : PySem.W.Frag} {Cs : C6} {CC p : Addr} {H H' : Hp} {src : V} {sd : PyData} {D D2 D3 : Addr} {us ys : List V} {rs : List R8} {bs : List Bool} (h : TkS K Cs CC p H src sd D D2 D3 us ys rs bs) (s : Same H H') : TkS K Cs CC p H' src sd D D2 D3 us ys rs bs :=
  ⟨h.src.same s, h.rows.same s, h.few, s _ _ h.parts, h.ylen, s _ _ h.fine, h.blen, fun i y b e1 e2 => (h.itm i y b e1 e2).same s, fun g => (h.good g).same s⟩
theorem firstF_none : ∀ {bs : List Bool} {i : Nat}, firstF i bs = none → ∀ b ∈ bs, b = true
  | [], _, _, b, hb => by cases hb
  | c :: cs, i, h, b, hb => by
    have h : (if c = true then firstF (i + 1) cs else some i) = none := h
    cases c with
    | false => cases h
    | true =>
      rcases List.mem_cons.mp hb with rfl | hb
      · rfl
      · exact firstF_none (show firstF (i + 1) cs = none from h) b hb
theorem takF_none {s : Bool} {bs : List Bool} (h : takF s bs = none) : s = true ∧ bs.length ≤ 4 ∧ ∀ b ∈ bs, b = true := by
  unfold takF at h
  cases s with
  | false => cases h
  | true =>
    rw [if_neg Bool.noConfusion] at h
    by_cases h4 : 4 < bs.length
    · rw [if_pos h4] at h; cases h
    · rw [if_neg h4] at h
      refine ⟨rfl, by omega, ?_⟩
      cases e : firstF 0 bs with
      | none => exact firstF_none e
      | some i => rw [e] at h; cases h
theorem due_D (i : Int) (z : Str) : PyData.eqv (.tuple [.int i, .str z]) (.tuple [.int i, .str z]) = true := by
  show ((i == i) && ((z == z) && true)) = true
  rw [beq_self_eq_true, beq_self_eq_true]
  rfl
theorem ne_no {p : Prop} [Decidable p] (h : p) (g : (!decide p) = true) : False := by
  rw [decide_eq_true h] at g
  cases g
theorem due_ok {s : Bool} {bs : List Bool} {i : Nat} {z : Str} (h : takF s bs = some (i, z)) : okS z = true := by
  unfold takF at h
  cases s with
  | false =>
    have h := Option.some.inj (show some (0, ("source" : Str)) = some (i, z) from h)
    injection h with _ h
    subst h
    decide +kernel
  | true =>
    rw [if_neg Bool.noConfusion] at h
    by_cases h4 : 4 < bs.length
    · rw [if_pos h4] at h
      have h := Option.some.inj h
      injection h with _ h
      subst h
      decide +kernel
    · rw [if_neg h4] at h
      cases e : firstF 0 bs with
      | none => rw [e] at h; cases h
      | some i =>
        rw [e] at h
        have h := Option.some.inj (show some (i, ("condition" : Str)) = _ from h)
        injection h with _ h
        subst h
        decide +kernel
section
variable {P : Program} {w : World} {K : PySem.W.Frag} {mg : Str → Option Value} {base : Heap}
theorem due_take {p g D D2 D3 CC : Addr} {Cs : C6} {src : V} {sd : PyData} {us ys : List V} {rs : List R8} {bs : List Bool} {σ : L2.St} {H : Hp} {Q : VK} (e2 : σ[2]? = some (some src)) (e3 : σ[3]? = some (some (.ref D))) (e7 : σ[7]? = some (some (.ref D3))) (h : TkS K Cs CC p H src sd D D2 D3 us ys rs bs)
    (q : ∀ v H', Same H H' → DueV H' v (takF (srcV src) bs) → Q v H') :
    tIf (tNot (tB (tCall (spAsk srcV) [] E0 (tCons (tVar 2) tNil)))) (tTup (tCons (tC (.int 0)) (tCons (tC (.str "source")) tNil))) (tCall spFst [] E0 (tCons (tVar 3) (tCons (tC (.str "condition")) (tCons (tVar 7) tNil)))) σ H Q := by
  obtain ⟨t, o⟩ := h.src.odd2
  refine ⟨_, e2, src, t, rfl, o, fun H1 s1 => ⟨_, rfl, ?_⟩⟩
  unfold takF at q
  cases hs : srcV src with
  | false =>
    rw [if_pos hs] at q
    exact iteT ⟨(by show 2 ≤ sizeLine; decide), fun t nt => q _ _ (s1.trans (same_upd nt)) ⟨t, rfl, upd_same⟩⟩
  | true =>
    rw [if_neg (by rw [hs]; exact Bool.noConfusion)] at q
    have h1 := h.same s1
    refine iteF ⟨_, e3, _, e7, D, D3, us, "condition", bs, rfl, h1.rows.at_, h1.fine, h1.blen.symm, Nat.le_trans h1.few (by decide), fun H' v s' hv => q v H' (s1.trans s') hv⟩
theorem tTakeR {p g f CT CC fIS fFi fTO fCT fX fTS : Addr} {fdIS fdFi fdTO fdCT fdX fdTS : FuncData} {Cs : C6} {cdv : Value} {A : Around} {outer : List Env} {s0 : Shared} {H0 : Hp} {E : XK} (z_isinstance : mg "isinstance" = none) (z_len : mg "len" = none) (z_tuple : mg "tuple" = none) (z_str : mg "str" = none)
    (hr8 : Room 8 (A.deeper (envOfC "_law_take_right" (defScope sTakeRight) s0.heap.objs.size f cdv)))
    (dIS : Df P w K mg base "_law_is_source" 3 ["_law_thing_here"] (spAsk srcV) fIS fdIS) (dF : Df P w K mg base "_law_first" 1 ["_law_parts_here", "_law_word", "_law_fine"] spFst fFi fdFi) (dTO : Df P w K mg base "_law_take_of" 6 ["_law_source", "_law_parts_here"] (spTof K CT CC) fTO fdTO)
    (dCT : Df P w K mg base "_law_clause_text" 2 ["_law_row_here"] spClt fCT fdCT) (dX : Df P w K mg base "_law_condition_text" 1 ["_law_row_here"] spCtx fX fdX) (TS : StrC P w K mg base CT 6 (spTakS (csOf Cs) CT) fTS fdTS) (hS : ∀ p ∈ csOf Cs, StrOk P w K mg base p)
    (gT : mg "Take" = some (.ref CT)) (T : ConC K CT ["source", "conditions"]) (TI : ClsI K CC false CT) (M : ManC K CT "take") :
    ∃ u, PSs (cxOf CX0 P w K mg base nmT "_law_take_right" (defScope sTakeRight) f cdv A outer s0 H0 E).nox ((defBody sTakeRight).drop 5) u ∧
      ∀ (σ : L2.St) (H : Hp) (T' : Ends) (src : V) (sd : PyData) (D D2 D3 : Addr) (us ys : List V) (rs : List R8) (bs : List Bool) (x0 x1 x4 x6 x8 x9 x10 x11 : Option V), σ = [x0, x1, some src, some (.ref D), x4, some (.ref D2), x6, some (.ref D3), x8, x9, x10, x11] → TkS K Cs CC p H src sd D D2 D3 us ys rs bs → (∀ H', Same H H' → T'.rt (.bl true) H') → u T' σ H := by
  have hr6 := hr8.mono (show 6 ≤ 8 by decide)
  have hr3 := hr8.mono (show 3 ≤ 8 by decide)
  have hr2 := hr8.mono (show 2 ≤ 8 by decide)
  have hr1 := hr8.mono (show 1 ≤ 8 by decide)
  have hr := hr8
  refine ⟨_, (pss_cons (ps_set (i := 9) scT.nd rfl (.inl rfl) (pe_ifExp (pt_not (pt_val (pe_call dIS.ok hr3 (by rfl) dIS.gl dIS.kp dIS.bi .nil pass0 (pa_cons (pv 2) pa_nil)))) (pe_tup (pa_cons pe_int (pa_cons pe_str pa_nil))) (pe_call dF.ok hr1 (by rfl) dF.gl dF.kp dF.bi .nil pass0 (pa_cons (pv 3) (pa_cons pe_str (pa_cons (pv 7) pa_nil))))))
    (pss_cons (ps_set (i := 10) scT.nd rfl (.inl rfl) (pe_call dTO.ok hr6 (by rfl) dTO.gl dTO.kp dTO.bi .nil pass0 (pa_cons (pv 2) (pa_cons (pv 5) pa_nil))))
    (pss_cons (ps_if (pt_cmpR op_notN (pv 9) pe_non (nomark _))
      (pss_one (ps_ret (pe_and (pe_callB call_isi (by rfl) z_isinstance (by decide +kernel) (pa_cons (pv 10) (pa_cons (pe_bltn (by rfl) z_tuple (by decide +kernel) (v := .ty "tuple") rfl) pa_nil))) (pe_one (pe_cmpR (op_eqD hr.units) (pv 10) (pv 9) (nomark _))))))
      pss_nil)
    (pss_cons (ps_if (PW.pt (pw_or (pt_val (pe_callB call_isi (by rfl) z_isinstance (by decide +kernel) (pa_cons (pv 10) (pa_cons (pe_bltn (by rfl) z_tuple (by decide +kernel) (v := .ty "tuple") rfl) pa_nil)))) (pw_or (pt_cmpR op_ne (pe_fld (pv 10) rfl) (pv 2) (nomark _)) (pw_or1 (pt_not (pt_val (pe_callB call_isi (by rfl) z_isinstance (by decide +kernel) (pa_cons (pe_fld (pv 10) rfl) (pa_cons (pe_bltn (by rfl) z_tuple (by decide +kernel) (v := .ty "tuple") rfl) pa_nil)))))))))
      (pss_one (ps_ret pe_bl))
      pss_nil)
    (pss_cons (ps_if (PW.pt (pw_or (pt_cmpR op_ne (pe_callB call_len_seq (by rfl) z_len boot_len (pa_cons (pe_fld (pv 10) rfl) pa_nil)) (pe_callB call_len_seq (by rfl) z_len boot_len (pa_cons (pv 3) pa_nil)) (nomark _)) (pw_or1 (pt_cmpR (op_neD hr.units) (pe_lc (own := [("_law_one", 11)]) (g := gName 11) (tt := tYes) (te := tCB (rStrAny (csOf Cs)) (tCons (tVar 11) tNil)) rfl scT.nd (pi_tup (pe_fld (pv 10) rfl)) (blkOk_by (N := ["_law_hand_here", "_law_good", "_law_source", "_law_rows_here", "_law_k", "_law_parts_here", "_law_row_here", "_law_fine", "_law_at", "_law_due", "_law_told_here", "_law_one"]) (sc := defScope sTakeRight) (by decide +kernel)) (fun _ _ _ _ _ => pg_name (i := 11) scT.nd rfl (Or.inl rfl)) (fun _ _ _ _ _ => pts_nil) (fun _ _ _ _ _ => (pe_callTy (call_strAny hS hr3) (by rfl) z_str (by decide +kernel) (pa_cons (pv 11) pa_nil)))) (pe_lc (own := [("_law_row_here", 6)]) (g := gName 6) (tt := tYes) (te := tCall spCtx [] E0 (tCons (tVar 6) tNil)) rfl scT.nd (pi_list (pv 3)) (blkOk_by (N := ["_law_hand_here", "_law_good", "_law_source", "_law_rows_here", "_law_k", "_law_parts_here", "_law_row_here", "_law_fine", "_law_at", "_law_due", "_law_told_here", "_law_one"]) (sc := defScope sTakeRight) (by decide +kernel)) (fun _ _ _ _ _ => pg_name (i := 6) scT.nd rfl (Or.inl rfl)) (fun _ _ _ _ _ => pts_nil) (fun _ _ _ _ _ => (pe_call dX.ok hr1 (by rfl) dX.gl dX.kp dX.bi .nil pass0 (pa_cons (pv 6) pa_nil)))) (nomark _)))))
      (pss_one (ps_ret pe_bl))
      pss_nil)
    (pss_one (ps_ret (pe_and (pe_cmpR op_eq (pe_callTy (call_strI TS.ok TS.at_ TS.fn TS.bi pass0 hr8) (by rfl) z_str (by decide +kernel) (pa_cons (pv 10) pa_nil)) (pe_call dCT.ok hr2 (by rfl) dCT.gl dCT.kp dCT.bi .nil pass0 (pa_cons (pe_tup (pa_cons pe_str (pa_cons (pv 2) (pa_cons (pv 3) pa_nil)))) pa_nil)) (nomark _)) (pe_and (pe_cmpR op_eq (pe_con (pv 10) rfl) pe_str (nomark _)) (pe_one (pe_cmpR op_eq (ClX.pe_cval (pe_glob (by rfl) gT (v := .ref CT) rfl (by decide +kernel))) pe_str (nomark _)))))))))))), ?_⟩
  rintro σ H T' src sd D D2 D3 us ys rs bs x0 x1 x4 x6 x8 x9 x10 x11 rfl h q
  refine due_take (p := p) (g := p) rfl rfl rfl h fun v H1 s1 hdue => ?_
  have h1 := h.same s1
  obtain ⟨t, o⟩ := h1.src.odd2
  refine ⟨_, rfl, _, rfl, D2, src, t, ys, bs, rfl, h1.parts, by have := h1.ylen; have := h1.blen; have := h1.few; omega, o, h1.ylen, h1.itm, fun e H2 x s2 _ hT => ?_, fun i z e H2 t2 s2 ht2 => ?_⟩
  · rw [e] at hdue
    obtain rfl : v = .non := hdue
    obtain ⟨hs, b4, hall⟩ := takF_none e
    have h2 := h1.same s2
    obtain ⟨dx, tp, hx, ht⟩ := hT
    have hC := h2.good hall
    have TY := TI.ty hx
    have y4 : ys.length ≤ 4 := by have := h2.ylen; omega
    obtain ⟨z, rfl, hz⟩ : ∃ z : Str, src = .str z ∧ okS z = true := by
      cases h2.src with
      | str z hz1 hz2 => exact ⟨z, rfl, Bool.and_eq_true_iff.mpr ⟨decide_eq_true hz1, hz2⟩⟩
      | _ => cases (show false = true from hs)
    have zl := okS_len hz
    have m2 := T.no "conditions" (List.mem_cons_of_mem _ List.mem_cons_self)
    refine ⟨_, rfl, rfl, _, rfl, iteF (tNext_of ?_)⟩
    refine ⟨_, rfl, _, _, _, _, false, rfl, .ty _, TY, TI.kT, _, rfl, iteF ?_⟩
    refine ⟨_, rfl, x, CT, dx, _, _, rfl, hx, T.cl, T.no _ List.mem_cons_self, rfl, _, rfl, rfl, _, rfl, ite2 (fun g => (ne_no rfl g).elim) fun _ => ?_⟩
    refine ⟨_, rfl, x, CT, dx, _, _, rfl, hx, T.cl, m2, rfl, _, _, _, _, true, rfl, .ty _, .base (.tup ht), kit_ty (by decide +kernel), _, rfl, iteF (tNext_of ?_)⟩
    refine ⟨_, rfl, x, CT, dx, _, _, rfl, hx, T.cl, m2, rfl, tp, _, rfl, .inr (SqT.of ht), _, rfl, D, _, rfl, .inl (SqL.of h2.rows.at_), rfl, _, rfl, ite2 (fun g => (ne_no (by rw [h2.ylen, h2.blen]) g).elim) fun _ => ?_⟩
    have hcl := hC.len
    have hul := h2.rows.len
    refine ⟨_, rfl, x, CT, dx, _, _, rfl, hx, T.cl, m2, rfl, tp, rfl, ⟨_, SqT.of ht⟩, fun L1 nL1 => lc_N walk_tup (fun i acc _ => acc = ((rs.map txtR).take i).map V.str) (⟨fun _ _ _ _ _ r _ _ => r, fun i acc _ r => by rw [r, List.length_map]; exact List.length_take_le _ _⟩) nL1 (Nat.lt_of_le_of_lt y4 (by decide)) rfl (fun H' s' => SqT.of (s' _ _ ht)) (fun _ => rfl) ?_ mT_yes (fun _ _ _ _ h ⟨x, e, v, y, e1, e2, q⟩ => ⟨x, e, v, y, e1, e2, h _ _ q⟩) ?_⟩
    · rintro i v acc H' ev s' eD rfl
      have il : i < rs.length := by rw [← hcl]; exact (List.getElem?_eq_some_iff.mp ev).1
      have er := List.getElem?_eq_getElem il
      have ey : (rs.map txtR)[i]? = some (txtR rs[i]) := by rw [List.getElem?_map, er]; rfl
      have hok := hC.ok _ (List.getElem_mem il)
      obtain ⟨hsho, _⟩ := cnd_sho ((hC.all i v _ ev er).same s') hok
      refine ⟨Same.refl _, iteT ⟨_, rfl, v, _, rfl, hsho, Same.refl _, ?_⟩⟩
      rw [take_snoc' ey, List.map_append]
      rfl
    rintro H3 acc s3 eL1 rfl
    have h3 := h2.same s3
    rw [hcl, show (rs.map txtR).take rs.length = rs.map txtR by rw [← List.length_map (f := txtR)]; exact List.take_length] at eL1
    refine ⟨_, rfl, D, rfl, ⟨_, SqL.of h3.rows.at_⟩, fun L2 nL2 => lc_N walk_list (fun i acc _ => acc = ((rs.map txtR).take i).map V.str) (⟨fun _ _ _ _ _ r _ _ => r, fun i acc _ r => by rw [r, List.length_map]; exact List.length_take_le _ _⟩) nL2 (Nat.lt_of_le_of_lt h.few (by decide)) rfl (fun H' s' => SqL.of (s' _ _ h3.rows.at_)) (fun _ => rfl) ?_ mT_yes (fun _ _ _ _ h ⟨x, e, v, y, e1, e2, e3, q⟩ => ⟨x, e, v, y, e1, e2, e3, h _ _ q⟩) ?_⟩
    · rintro i v acc H' ev s' eD rfl
      obtain ⟨d, ed, hd⟩ := h3.rows.all.get ev
      rw [List.getElem?_map] at ed
      have il : i < rs.length := by rw [← hul]; exact (List.getElem?_eq_some_iff.mp ev).1
      rw [List.getElem?_eq_getElem il] at ed
      obtain rfl := Option.some.inj ed
      have ey : (rs.map txtR)[i]? = some (txtR rs[i]) := by rw [List.getElem?_map, List.getElem?_eq_getElem il]; rfl
      refine ⟨Same.refl _, iteT ⟨_, rfl, v, rs[i], rfl, hd.same s', h3.rows.ok _ (List.getElem_mem il), Same.refl _, ?_⟩⟩
      rw [take_snoc' ey, List.map_append]
      rfl
    rintro H4 acc s4 eL2 rfl
    have h4 := h3.same s4
    rw [hul, show (rs.map txtR).take rs.length = rs.map txtR by rw [← List.length_map (f := txtR)]; exact List.take_length] at eL2
    have okt : ∀ y ∈ rs.map txtR, okS y = true := fun y hy => by
      obtain ⟨r, hr, rfl⟩ := List.mem_map.mp hy
      exact okS_txt (h4.rows.ok r hr)
    have S1 : StrsAt H4 L1 (rs.map txtR) := ⟨s4 _ _ eL1, okt⟩
    have S2 : StrsAt H4 L2 (rs.map txtR) := ⟨eL2, okt⟩
    refine ⟨_, _, S1.dt.dp, S2.dt.dp, S1.shaped, S2.shaped, _, rfl, ?_⟩
    rw [PySem.SeqAt.eqv_refl _ S1.dt.lay]
    refine iteF (tNext_of ?_)
    have s24 := s3.trans s4
    have hx4 := s24 _ _ hx
    have ht4 := s24 _ _ ht
    have hC4 := hC.same s24
    refine ⟨_, rfl, x, dx, _, rfl, hx4, x, dx, tp, z, ys, rs.map txtR, rfl, hx4, zl, ⟨ht4, by rw [hcl, List.length_map], Nat.le_trans y4 (by decide), fun i v y ev ey => ?_⟩, fun H5 s5 => ⟨_, rfl, ?_⟩⟩
    · have il : i < rs.length := by rw [← hcl]; exact (List.getElem?_eq_some_iff.mp ev).1
      have er := List.getElem?_eq_getElem il
      rw [List.getElem?_map, er] at ey
      obtain rfl := Option.some.inj ey
      exact cnd_sho (hC4.all i v _ ev er) (hC4.ok _ (List.getElem_mem il))
    have h5 := h4.same s5
    refine ⟨_, rfl, _, rfl, (by show 3 ≤ sizeLine; decide), fun tt ntt => ⟨tt, rfl, .inr ⟨D, z, us, rs, upd_same, hz, h5.rows.same (same_upd ntt), h.few, fun H6 s6 => ?_⟩⟩⟩
    have s56 := (same_upd (o := .tup [.str "take", .str z, .ref D]) ntt).trans s6
    have hx6 := s56 _ _ (s5 _ _ hx4)
    obtain ⟨uu, con⟩ := M.con
    obtain ⟨mc, u2, crd, cvl⟩ := M.val
    refine ⟨rfl, _, rfl, ite2 (fun _ => ?_) (fun g => absurd (decide_eq_true rfl) g)⟩
    refine ⟨_, rfl, x, CT, dx, _, _, uu, rfl, hx6, T.cl, con, rfl, rfl, _, rfl, ite2 (fun _ => ?_) (fun g => absurd (decide_eq_true rfl) g)⟩
    refine ⟨CT, mc, _, u2, rfl, crd, cvl, rfl, ?_⟩
    exact bl_true (Q := T'.rt) rfl (q _ (((s1.trans s2).trans s24).trans (s5.trans s56)))
  · rw [e] at hdue
    obtain ⟨t1, rfl, ht1⟩ := hdue
    have ht1 := s2 _ _ ht1
    refine ⟨_, rfl, rfl, _, rfl, iteT ?_⟩
    refine ⟨_, rfl, _, _, _, _, true, rfl, .ty _, .base (.tup ht2), kit_ty (by decide +kernel), _, rfl, iteT ?_⟩
    have zok : okS z = true := due_ok e
    have d1 : Dt Any H2 (.ref t1) (.tuple [.int (i : Nat), .str z]) := .tup trivial ht1 (.cons (.int _) (.cons (okS_dt zok) .nil))
    have d2 : Dt Any H2 (.ref t2) (.tuple [.int (i : Nat), .str z]) := .tup trivial ht2 (.cons (.int _) (.cons (okS_dt zok) .nil))
    refine ⟨_, rfl, _, rfl, _, _, d2.dp, d1.dp, shaped_of d2.lay (by show 1 ≤ 64; decide), shaped_of d1.lay (by show 1 ≤ 64; decide), ?_⟩
    rw [due_D]
    exact q _ (s1.trans s2)
end
end K08

/-! a Take is as its parts ask, or refused as it must be -/
namespace K08
open PySem PySem.Spec PyProof.Rows L2
theorem passX0 {X : Cx} : Passes (L2.CX X.prog X.w) X E0 := fun _ _ _ _ _ _ _ h => by
  obtain ⟨_, _, _, _, _, _, _, _, _, _, _, _, e⟩ := h
  exact e.elim
theorem passAt0 {X : Cx} (σ : L2.St) : PassesAt (L2.CX X.prog X.w) X σ E0 := fun pins H s e s' I c => passX0 pins σ H s e s' I c
mutual
theorem Dt.off {S : Addr → Prop} {H : Hp} {v : V} {d : PyData} {D : Addr} (h : Dt S H v d) (n : H D = none) : Dt (fun a => S a ∧ a ≠ D) H v d := by
  cases h with
  | non => exact .non
  | bl b => exact .bl b
  | int i => exact .int i
  | str x h1 h2 => exact .str x h1 h2
  | lst s e r => exact .lst ⟨s, ne_of_none e n⟩ e (r.off n)
  | tup s e r => exact .tup ⟨s, ne_of_none e n⟩ e (r.off n)
theorem DtAll.off {S : Addr → Prop} {H : Hp} {vs : List V} {ds : List PyData} {D : Addr} (h : DtAll S H vs ds) (n : H D = none) : DtAll (fun a => S a ∧ a ≠ D) H vs ds := by
  cases h with
  | nil => exact .nil
  | cons a b => exact .cons (a.off n) (b.off n)
end
/-- a condition of a right row, by its fields -/
def CndR (Cs : C6) (H : Hp) (y : V) (r : R8) : Prop := ∃ a dx : Addr, y = .ref a ∧ H a = some (.ins (Cs.at (k8 r)) dx (fsR r))
theorem cnd_of {Cs : C6} {S : Addr → Prop} {H H' : Hp} {y v : V} {r : R8} (h : CndR Cs H y r) (hd : Dt S H' v (r8D r)) (hf : fltR r = none) : Cnd Cs H y r := by
  obtain ⟨a, dx, rfl, e⟩ := h
  cases r with
  | num d =>
    obtain ⟨i, rfl, _⟩ := whole_D (if_none hf)
    exact .num e (.int i)
  | alive d =>
    cases hd with
    | tup _ _ hx => cases hx with
      | cons _ h2 => cases h2 with
        | cons h3 _ =>
          obtain ⟨x, rfl, rfl, _⟩ := str_str h3 (if_none hf)
          cases h3 with
          | str _ h4 h5 => exact .alive e (.str x h4 h5)
  | dead d =>
    cases hd with
    | tup _ _ hx => cases hx with
      | cons _ h2 => cases h2 with
        | cons h3 _ =>
          obtain ⟨x, rfl, rfl, _⟩ := str_str h3 (if_none hf)
          cases h3 with
          | str _ h4 h5 => exact .dead e (.str x h4 h5)
  | unl d d2 =>
    cases hd with
    | tup _ _ hx => cases hx with
      | cons _ h2 => cases h2 with
        | cons h3 h3' => cases h3' with
          | cons h6 _ =>
            obtain ⟨g1, g2⟩ := if_none hf
            obtain ⟨x, rfl, rfl, _⟩ := str_str h3 g1
            obtain ⟨y, rfl, rfl, _⟩ := str_str h6 g2
            cases h3 with
            | str _ h4 h5 => cases h6 with
              | str _ h7 h8 => exact .unl e (.str x h4 h5) (.str y h7 h8)
  | unborne => exact .unborne e
  | never => exact .never e
/-- rows drawn: comprehension's invariant -/
structure RowL (p D : Addr) (i : Nat) (acc : List V) (H : Hp) : Prop where
  len : acc.length = i
  ex : ∃ rs : List R8, DtAll (fun a => a ≠ p ∧ a ≠ D) H acc (rs.map r8D) ∧ ∀ r ∈ rs, fltR r = none
theorem rowL_lc {p D : Addr} : LcR D (RowL p D) := ⟨fun i acc H H' ys h e k => ⟨h.len, let ⟨rs, h1, h2⟩ := h.ex; ⟨rs, h1.to (fun _ z => z) (fun a o s e' => k a o s.2 e'), h2⟩⟩, fun i acc H h => Nat.le_of_eq h.len⟩
theorem RowL.add {p D : Addr} {i : Nat} {acc : List V} {H H' : Hp} {v : V} {r : R8} (h : RowL p D i acc H) (k : Kept p H H') (hd : Dt (fun a => a ≠ p ∧ a ≠ D) H' v (r8D r)) (hf : fltR r = none) : RowL p D (i + 1) (acc ++ [v]) H' := by
  obtain ⟨rs, h1, h2⟩ := h.ex
  refine ⟨by rw [List.length_append, h.len]; rfl, rs ++ [r], ?_, fun s hs => ?_⟩
  · rw [List.map_append]
    exact (h1.kept (fun n => n.1 rfl) k).app (.cons hd .nil)
  · rcases List.mem_append.mp hs with hs | hs
    · exact h2 s hs
    · obtain rfl := List.mem_singleton.mp hs
      exact hf
/-- conditions made of rows, one by one -/
structure CndL (Cs : C6) (D : Addr) (rs : List R8) (i : Nat) (acc : List V) (H : Hp) : Prop where
  len : acc.length = i
  all : ∀ (j : Nat) y r, acc[j]? = some y → rs[j]? = some r → CndR Cs H y r
theorem cndL_lc {Cs : C6} {D : Addr} {rs : List R8} : LcR D (CndL Cs D rs) := ⟨fun i acc H H' ys h e k => ⟨h.len, fun j y r e1 e2 => let ⟨a, dx, h1, h2⟩ := h.all j y r e1 e2; ⟨a, dx, h1, k a _ (fun z => by rw [z, e] at h2; cases h2) h2⟩⟩, fun i acc H h => Nat.le_of_eq h.len⟩
theorem CndL.add {Cs : C6} {D : Addr} {rs : List R8} {i : Nat} {acc : List V} {H H' : Hp} {y : V} {r : R8} (h : CndL Cs D rs i acc H) (s : Same H H') (er : rs[i]? = some r) (hc : CndR Cs H' y r) : CndL Cs D rs (i + 1) (acc ++ [y]) H' := by
  refine ⟨by rw [List.length_append, h.len]; rfl, fun j z q e1 e2 => ?_⟩
  rcases Nat.lt_or_ge j acc.length with hj | hj
  · rw [List.getElem?_append_left hj] at e1
    obtain ⟨a, dx, h1, h2⟩ := h.all j z q e1 e2
    exact ⟨a, dx, h1, s _ _ h2⟩
  · rw [List.getElem?_append_right hj] at e1
    have hj0 : j - acc.length = 0 := by
      have := (List.getElem?_eq_some_iff.mp e1).1
      simp at this
      omega
    rw [hj0] at e1
    obtain rfl : y = z := Option.some.inj e1
    have hji : j = i := by have := h.len; omega
    rw [hji, er] at e2
    obtain rfl := Option.some.inj e2
    exact hc
theorem mE_mkc {Cs : C6} {CE : Addr} {i : Nat} : MonoE (tCall (spMkc Cs CE) [] E0 (tCons (tVar i) tNil)) := fun _ _ _ _ h ⟨x, e, v, r, e1, hd, q1, q2⟩ => ⟨x, e, v, r, e1, hd, fun e2 H' x s hc => h _ _ (q1 e2 H' x s hc), q2⟩
theorem lst_of {t : TA} {σ : L2.St} {H : Hp} {Q : VK} (h : t σ H fun xs H1 => xs.length ≤ sizeLine ∧ ∀ p, H1 p = none → Q (.ref p) (upd H1 p (.lst xs))) : tLst t σ H Q := h
def spTkr : Sp := fun vs H Q _ => ∃ (p l g : Addr) (us : List V) (rs : List R8), vs = [.ref p, .ref g] ∧ Hand p l H ∧ RowsP p H g us rs ∧ 0 < us.length ∧ us.length ≤ 1000 ∧ ∀ H', Kept p H H' → Hand p l H' → Q (.bl true) H'
/-- what a wrong part is -/
theorem itm_ty {K : PySem.W.Frag} {CC : Addr} {H : Hp} {v : V} {t : String} {b : Bool} (o : Odd H v t) (k : PySem.W.kitOne K (.type t) (.ref CC) = some b) : Itm K CC H v b := ⟨.type t, fun H' s => (o.same s).ty, k⟩
theorem RowL.rows {p D : Addr} {i : Nat} {acc : List V} {H : Hp} (h : RowL p D i acc H) (nD : D ≠ p) (e : H D = some (.lst acc)) : ∃ rs, RowsP p H D acc rs := by
  obtain ⟨rs, h1, h2⟩ := h.ex
  exact ⟨rs, nD, e, h1.to (fun a s => s.1) fun _ _ _ e => e, h2⟩
theorem ixN_at {n j : Nat} (h : j < n) : ixN n (j : Int) = some j := by
  unfold ixN
  rw [if_pos (by omega), if_pos (by omega)]
  simp
theorem draw_lt {i : Nat} {p l : Addr} {m : Int} {σ : L2.St} {H : Hp} {Q : VK} (e : σ[i]? = some (some (.ref p))) (hp : Hand p l H) (h0 : 0 < m) (h1 : m.natAbs < 2 ^ 200) (q : ∀ (n : Nat) (H' : Hp), (n : Int) < m → Kept p H H' → Hand p l H' → Q (.int (n : Int)) H') :
    tCall spDr [] E0 (tCons (tVar i) (tCons (tC (.int m)) tNil)) σ H Q :=
  ⟨_, e, p, l, m, rfl, hp, h0, h1, fun d H' d0 d1 k hp' => by
    obtain ⟨n, rfl⟩ := Int.eq_ofNat_of_zero_le d0
    exact q n H' d1 k hp'⟩
/-- all but lists is left alone -/
def Kl (H H' : Hp) : Prop := ∀ a o, H a = some o → (∀ xs, o ≠ .lst xs) → H' a = some o
theorem Kl.refl {H : Hp} : Kl H H := fun _ _ e _ => e
theorem Kl.trans {H H1 H2 : Hp} (a : Kl H H1) (b : Kl H1 H2) : Kl H H2 := fun x o e n => b x o (a x o e n) n
theorem Kl.same {H H' : Hp} (s : Same H H') : Kl H H' := fun a o e _ => s a o e
theorem Kl.kept {p l : Addr} {H H' : Hp} (hp : Hand p l H) (k : Kept p H H') : Kl H H' := fun a o e n => k a o (fun z => by
  obtain ⟨xs, ex⟩ := hp.at_
  rw [z, ex] at e
  exact n xs (Option.some.inj e).symm) e
theorem Kl.upd {H : Hp} {D : Addr} {xs : List V} {o : HO} (h : H D = some (.lst xs)) : Kl H (upd H D o) := fun a u e n => by
  rw [upd_ne fun z => by
    rw [z, h] at e
    exact n xs (Option.some.inj e).symm]
  exact e
/-- a wrong part of a Take -/
inductive Wrg (CF CT : Addr) (H : Hp) : V → Prop where
  | non : Wrg CF CT H .non
  | str (x : Str) (h : okS x = true) : Wrg CF CT H (.str x)
  | int (i : Int) : Wrg CF CT H (.int i)
  | bl (b : Bool) : Wrg CF CT H (.bl b)
  | free {x dx : Addr} {fs : List (Str × V)} (e : H x = some (.ins CF dx fs)) : Wrg CF CT H (.ref x)
  | take {x dx : Addr} {fs : List (Str × V)} (e : H x = some (.ins CT dx fs)) : Wrg CF CT H (.ref x)
  | tup {x : Addr} {us : List V} (e : H x = some (.tup us)) : Wrg CF CT H (.ref x)
theorem Wrg.kl {CF CT : Addr} {H H' : Hp} {v : V} (h : Wrg CF CT H v) (k : Kl H H') : Wrg CF CT H' v := by
  cases h with
  | non => exact .non
  | str x h => exact .str x h
  | int i => exact .int i
  | bl b => exact .bl b
  | free e => exact .free (k _ _ e fun _ z => by cases z)
  | take e => exact .take (k _ _ e fun _ z => by cases z)
  | tup e => exact .tup (k _ _ e fun _ z => by cases z)
theorem Wrg.itm {K : PySem.W.Frag} {CF CT CC : Addr} {H : Hp} {v : V} (TI : ClsI K CC false CT) (FI : ClsI K CC false CF) (hB : ∀ t ∈ ["NoneType", "str", "int", "bool", "tuple"], PySem.W.kitOne K (.type t) (.ref CC) = some false) (h : Wrg CF CT H v) : Itm K CC H v false := by
  cases h with
  | non => exact itm_ty .non (hB _ (by simp))
  | str x h => exact itm_ty (.str x (okS_len h) (Bool.and_eq_true_iff.mp h).2) (hB _ (by simp))
  | int i => exact itm_ty (.int i) (hB _ (by simp))
  | bl b => exact itm_ty (.bl b) (hB _ (by simp))
  | free e => exact itm_ins FI e
  | take e => exact itm_ins TI e
  | tup e => exact itm_ty (.tup e) (hB _ (by simp))
theorem mk_free0 {CF CE : Addr} {σ : L2.St} {H : Hp} {Q : VK} (q : ∀ (H' : Hp) (x : Addr), Same H H' → H x = none → FreAt CF H' x [] → Q (.ref x) H') : tMakeRS CF (spFree CF CE) (fun _ => E0) tNil σ H Q :=
  free_made (ys := []) (Q := Q) (fun y hy => by cases hy) (Nat.zero_le _) (fun _ => q) (fun i z e => by cases e)
theorem mk_take0 {K : PySem.W.Frag} {CT CC CE : Addr} {σ : L2.St} {H : Hp} {Q : VK} (q : ∀ (H' : Hp) (x : Addr), Same H H' → H x = none → TakAt CT H' x (.str "f") [] → Q (.ref x) H') : tMakeRS CT (spTake K CT CC CE) (fun _ => E0) (tCons (tC (.str "f")) tNil) σ H Q :=
  take_made (src := .str "f") (ts := "str") (ys := []) (bs := []) (Q := Q) (.str _ (by decide +kernel) (by decide +kernel)) rfl (Nat.zero_le _) (fun i y b e => by cases e) (fun _ => q) (fun i z e => by
    have g : takF (srcV (.str "f")) [] = none := by decide +kernel
    rw [g] at e
    cases e)
theorem menu_wrong {K : PySem.W.Frag} {CF CT CC CE : Addr} {σ : L2.St} {H : Hp} {Q : VK} (q : ∀ (a : Addr) (xs : List V) (H' : Hp), Same H H' → H a = none → H' a = some (.lst xs) → xs.length = 7 → (∀ v ∈ xs, Wrg CF CT H' v) → Q (.ref a) H') :
    tLst (tCons (tC .non) (tCons (tC (.str "never")) (tCons (tC (.int 4)) (tCons (tC (.bl true)) (tCons (tMakeRS CF (spFree CF CE) (fun _ => E0) tNil) (tCons (tMakeRS CT (spTake K CT CC CE) (fun _ => E0) (tCons (tC (.str "f")) tNil)) (tCons (tTup (tCons (tC (.str "never")) tNil)) tNil))))))) σ H Q := by
  refine lst_of (cons_of (c_of (cons_of (c_of (cons_of (c_of (cons_of (c_of (cons_of ?_)))))))))
  refine mk_free0 fun H1 x s1 nx hF => ?_
  refine cons_of ?_
  refine mk_take0 fun H2 x2 s2 nx2 hT => ?_
  refine cons_of (tup_of (cons_of (c_of ⟨(by show 1 ≤ sizeLine; decide), fun t nt => ?_⟩)))
  refine ⟨(by show 7 ≤ sizeLine; decide), fun a na => ?_⟩
  obtain ⟨dx, tp, e1, _⟩ := hF
  obtain ⟨dx2, tp2, e2, _⟩ := hT
  have st := same_upd (o := .tup [V.str "never"]) nt
  have sa := same_upd (o := .lst [V.non, .str "never", .int 4, .bl true, .ref x, .ref x2, .ref t]) na
  refine q a _ _ (((s1.trans s2).trans st).trans sa) (none_of ((s1.trans s2).trans st) na) upd_same rfl fun v hv => ?_
  simp only [List.mem_cons, List.not_mem_nil, or_false] at hv
  rcases hv with rfl | rfl | rfl | rfl | rfl | rfl | rfl
  · exact .non
  · exact .str _ (by decide +kernel)
  · exact .int _
  · exact .bl _
  · exact .free (sa _ _ (st _ _ (s2 _ _ e1)))
  · exact .take (sa _ _ (st _ _ e2))
  · exact .tup (sa _ _ upd_same)
theorem CndR.kl {Cs : C6} {H H' : Hp} {y : V} {r : R8} (h : CndR Cs H y r) (k : Kl H H') : CndR Cs H' y r := let ⟨a, dx, h1, h2⟩ := h; ⟨a, dx, h1, k _ _ h2 fun _ z => by cases z⟩
theorem cs_at_mem (Cs : C6) : ∀ k, k < 6 → Cs.at k ∈ Cs.all
  | 0, _ => by simp [C6.at, C6.all]
  | 1, _ => by simp [C6.at, C6.all]
  | 2, _ => by simp [C6.at, C6.all]
  | 3, _ => by simp [C6.at, C6.all]
  | 4, _ => by simp [C6.at, C6.all]
  | 5, _ => by simp [C6.at, C6.all]
  | k + 6, h => absurd h (by omega)
theorem CndR.itm {K : PySem.W.Frag} {CC : Addr} {Cs : C6} {H : Hp} {y : V} {r : R8} (hI : ∀ C ∈ Cs.all, ClsI K CC true C) (h : CndR Cs H y r) : Itm K CC H y true := by
  obtain ⟨a, dx, rfl, e⟩ := h
  exact itm_ins (hI _ (cs_at_mem Cs _ (k8_lt r))) e
section
variable {P : Program} {w : World} {K : PySem.W.Frag} {mg : Str → Option Value} {base : Heap}
theorem ok_tkr {f CT CF CC CE fIf fIt fM fD fP fTh fSr fIS fFi fTO fCT fX fTS CE2 : Addr} {fd fdM fdD fdP fdTh fdSr fdIS fdFi fdTO fdCT fdX fdTS : FuncData} {Cs : C6} (F : FnP K "_law_take_right" sTakeRight f fd)
    (z_isinstance : mg "isinstance" = none) (z_len : mg "len" = none) (z_tuple : mg "tuple" = none) (z_str : mg "str" = none) (z_range : mg "range" = none)
    (dD : Df P w K mg base "_law_draw" 2 ["_law_hand_here", "_law_many"] spDr fD fdD) (dP : Df P w K mg base "_law_pick" 3 ["_law_hand_here", "_law_things"] spPk fP fdP)
    (dT : Df P w K mg base "_law_thing" 4 ["_law_hand_here", "_law_good"] spThg fTh fdTh) (dS : Df P w K mg base "_law_sources" 2 ["_law_width"] spLsr fSr fdSr)
    (dIS : Df P w K mg base "_law_is_source" 3 ["_law_thing_here"] (spAsk srcV) fIS fdIS) (dF : Df P w K mg base "_law_first" 1 ["_law_parts_here", "_law_word", "_law_fine"] spFst fFi fdFi) (dTO : Df P w K mg base "_law_take_of" 6 ["_law_source", "_law_parts_here"] (spTof K CT CC) fTO fdTO)
    (dCT : Df P w K mg base "_law_clause_text" 2 ["_law_row_here"] spClt fCT fdCT) (dX : Df P w K mg base "_law_condition_text" 1 ["_law_row_here"] spCtx fX fdX) (TS : StrC P w K mg base CT 6 (spTakS (csOf Cs) CT) fTS fdTS) (hS : ∀ p ∈ csOf Cs, StrOk P w K mg base p)
    (MT : MkR P w K mg base "Take" (spTake K CT CC CE2) CT fIt) (MF : MkR P w K mg base "Free" (spFree CF CE2) CF fIf)
    (gM : mg "_law_make_condition" = some (.ref fM)) (okM : FnOk P w K mg base (L2.CX P w) 5 fM fdM ["_law_row_here"] (spMkc Cs CE)) (bM : Binds K fdM ["_law_row_here"] []) (kM : PySem.W.keepIn K (.ref fM) = true)
    (T : ConC K CT ["source", "conditions"]) (TI : ClsI K CC false CT) (FI : ClsI K CC false CF) (M : ManC K CT "take") (hI : ∀ C ∈ Cs.all, ClsI K CC true C)
    (hB : ∀ t ∈ ["NoneType", "str", "int", "bool", "tuple"], PySem.W.kitOne K (.type t) (.ref CC) = some false) : FnOk P w K mg base CX0 9 f fd ["_law_hand_here", "_law_good"] spTkr := by
  refine F.ok scT (fun vs H Q E h => ?_) (fun cdv A outer s H vs Q E hr8 h => ?_)
  · obtain ⟨p, l, g, us, rs, rfl, _⟩ := h
    rfl
  · obtain ⟨p, l, g, us, rs, rfl, hp, hg, u0, u1, q⟩ := h
    have hr5 := hr8.mono (show 5 ≤ 8 by decide)
    have hr4 := hr8.mono (show 4 ≤ 8 by decide)
    have hr3 := hr8.mono (show 3 ≤ 8 by decide)
    have hr2 := hr8.mono (show 2 ≤ 8 by decide)
    have hr := hr8
    obtain ⟨u5, p5, r5⟩ := tTakeR (p := p) (g := g) (f := f) (cdv := cdv) (outer := outer) (H0 := H) (E := E) (A := A) (s0 := s) z_isinstance z_len z_tuple z_str hr8 dIS dF dTO dCT dX TS hS MT.gl T TI M
    refine ⟨_, PSs.nox (pss_cons (ps_set (i := 2) scT.nd rfl (.inl rfl) (pe_call dT.ok hr4 (by rfl) dT.gl dT.kp dT.bi .nil pass0 (pa_cons (pv 0) (pa_cons (pe_call dS.ok hr2 (by rfl) dS.gl dS.kp dS.bi .nil pass0 (pa_cons pe_int pa_nil)) pa_nil))))
    (pss_cons (ps_setLc (i := 3) (own := [("_law_k", 4)]) (g := gName 4) (tt := tYes) (te := tCall spPk [] E0 (tCons (tVar 0) (tCons (tVar 1) tNil))) rfl scT.nd rfl rfl (sw_true rfl rfl rfl (by decide +kernel)) (pi_range1 (by rfl) z_range (pa_cons (pe_call dD.ok hr2 (by rfl) dD.gl dD.kp dD.bi .nil pass0 (pa_cons (pv 0) (pa_cons pe_int pa_nil))) pa_nil)) (blkOk_by (N := ["_law_hand_here", "_law_good", "_law_source", "_law_rows_here", "_law_k", "_law_parts_here", "_law_row_here", "_law_fine", "_law_at", "_law_due", "_law_told_here", "_law_one"]) (sc := defScope sTakeRight) (by decide +kernel)) (fun _ _ _ _ _ => pg_name (i := 4) scT.nd rfl (Or.inl rfl)) (fun _ _ _ _ _ => pts_nil) (fun _ _ _ _ _ => (pe_call dP.ok hr3 (by rfl) dP.gl dP.kp dP.bi .nil pass0 (pa_cons (pv 0) (pa_cons (pv 1) pa_nil)))))
    (pss_cons (ps_setLc (i := 5) (own := [("_law_row_here", 6)]) (g := gName 6) (tt := tYes) (te := tCall (spMkc Cs CE) [] E0 (tCons (tVar 6) tNil)) rfl scT.nd rfl rfl (sw_true rfl rfl rfl (by decide +kernel)) (pi_list (pv 3)) (blkOk_by (N := ["_law_hand_here", "_law_good", "_law_source", "_law_rows_here", "_law_k", "_law_parts_here", "_law_row_here", "_law_fine", "_law_at", "_law_due", "_law_told_here", "_law_one"]) (sc := defScope sTakeRight) (by decide +kernel)) (fun _ _ _ _ _ => pg_name (i := 6) scT.nd rfl (Or.inl rfl)) (fun _ _ _ _ _ => pts_nil) (fun _ _ _ _ _ => (pe_call okM hr5 (by rfl) gM kM bM .nil passX0 (pa_cons (pv 6) pa_nil))))
    (pss_cons (ps_setLc (i := 7) (own := [("_law_row_here", 6)]) (g := gName 6) (tt := tYes) (te := tC (.bl true)) rfl scT.nd rfl rfl (sw_true rfl rfl rfl (by decide +kernel)) (pi_list (pv 3)) (blkOk_by (N := ["_law_hand_here", "_law_good", "_law_source", "_law_rows_here", "_law_k", "_law_parts_here", "_law_row_here", "_law_fine", "_law_at", "_law_due", "_law_told_here", "_law_one"]) (sc := defScope sTakeRight) (by decide +kernel)) (fun _ _ _ _ _ => pg_name (i := 6) scT.nd rfl (Or.inl rfl)) (fun _ _ _ _ _ => pts_nil) (fun _ _ _ _ _ => pe_bl))
    (pss_cons (ps_if (PW.pt (pw_and (pt_cmpR (op_neD hr.units) (pv 3) (pe_lst pa_nil) (nomark _)) (pw_and1 (pt_cmpR op_eq (pe_call dD.ok hr2 (by rfl) dD.gl dD.kp dD.bi .nil pass0 (pa_cons (pv 0) (pa_cons pe_int pa_nil))) pe_int (nomark _)))))
      (pss_cons (ps_set (i := 8) scT.nd rfl (.inl rfl) (pe_call dD.ok hr2 (by rfl) dD.gl dD.kp dD.bi .nil pass0 (pa_cons (pv 0) (pa_cons (pe_callB call_len_seq (by rfl) z_len boot_len (pa_cons (pv 3) pa_nil)) pa_nil))))
      (pss_cons (ps_asg (pe_call dP.ok hr3 (by rfl) dP.gl dP.kp dP.bi .nil pass0 (pa_cons (pv 0) (pa_cons (pe_lst (pa_cons pe_non (pa_cons pe_str (pa_cons pe_int (pa_cons pe_bl (pa_cons (pe_makeRS0 MF.mks MF.ok hr4 (by rfl) MF.gl (fun σ => passAt0 σ)) (pa_cons (pe_makeRS MT.mks MT.ok hr4 (by rfl) MT.gl (fun σ => passAt0 σ) (pa_cons pe_str pa_nil)) (pa_cons (pe_tup (pa_cons pe_str pa_nil)) pa_nil)))))))) pa_nil))) (pg_sub (pv 5) (pv 8) set_list))
      (pss_one (ps_asg pe_bl (pg_sub (pv 7) (pv 8) set_list)))))
      pss_nil)
    p5))))), ?_⟩
    refine seq_of (asg_of (thing_srcs rfl hp fun src sd H1 hsd hsrc k1 hp1 => ?_))
    dsimp only [gName]
    have hg1 := hg.kept k1
    refine ⟨_, rfl, p, l, 6, rfl, hp1, by decide, by decide +kernel, fun d H2 d0 d6 k2 hp2 => ?_⟩
    obtain ⟨n, rfl⟩ := Int.eq_ofNat_of_zero_le d0
    have hg2 := hg1.kept k2
    refine ⟨(n : Int), rfl, by omega, by omega, fun D nD => lc_K (walk_rangeL n) (RowL p D) rowL_lc hp2 nD (by rw [List.length_map, List.length_range]; exact Nat.lt_of_lt_of_le (show n < 6 by omega) (by decide)) ⟨rfl, [], .nil, fun r hr => by cases hr⟩ (fun _ _ => trivial) (fun _ => rfl) ?_ mE_pk ?_⟩
    · rintro i v acc H' ev k' hp' eD hL
      refine ⟨_, rfl, _, rfl, p, l, g, us, rfl, hp', (hg2.kept k').at_, hg.ne, u0, u1, fun v H4 hv k4 hp4 => ⟨k4, hp4, ?_⟩⟩
      obtain ⟨r, hf, hd⟩ := hg2.mem hv
      exact hL.add k4 ((hd.off nD).kept (fun n => n.1 rfl) (k'.trans k4)) hf
    rintro H3 acc k3 hp3 eD hL
    have hlen : acc.length = n := by
      have z := hL.len
      rw [List.length_map, List.length_range] at z
      exact z
    have nDp : D ≠ p := hp2.nn nD
    obtain ⟨rs', hD⟩ := hL.rows nDp eD
    have hrl := hD.len
    refine ⟨_, rfl, D, rfl, ⟨_, SqL.of eD⟩, fun D2 nD2 => lc_N walk_list (CndL Cs D2 rs') cndL_lc nD2 (Nat.lt_of_lt_of_le (show acc.length < 6 by omega) (by decide)) ⟨rfl, fun j y r e => by cases e⟩ (fun H' s' => SqL.of (s' _ _ eD)) (fun _ => rfl) ?_ mT_yes mE_mkc ?_⟩
    · rintro i v acc2 H' ev s' eD2 hL2
      obtain ⟨d, ed, hd⟩ := hD.all.get ev
      rw [List.getElem?_map] at ed
      have il : i < rs'.length := by rw [← hrl]; exact (List.getElem?_eq_some_iff.mp ev).1
      have er := List.getElem?_eq_getElem il
      rw [er] at ed
      obtain rfl := Option.some.inj ed
      have hok := hD.ok _ (List.getElem_mem il)
      exact ⟨Same.refl _, iteT ⟨_, rfl, v, rs'[i], rfl, (hd.same s').any, fun e H4 x s4 hc => ⟨s4, hL2.add s4 er (cnd_at hc e)⟩, fun z e => by rw [hok] at e; cases e⟩⟩
    rintro H4 ys s4 eD2 hL2
    have hD4 := hD.kept (Kept.same s4)
    have hp4 := hp3.same s4
    refine ⟨_, rfl, D, rfl, ⟨_, SqL.of hD4.at_⟩, fun D3 nD3 => lc_N walk_list (fun i acc _ => acc = List.replicate i (.bl true)) ⟨fun _ _ _ _ _ r _ _ => r, fun i acc _ r => by rw [r, List.length_replicate]; exact Nat.le_refl _⟩ nD3 (Nat.lt_of_lt_of_le (show acc.length < 6 by omega) (by decide)) rfl (fun H' s' => SqL.of (s' _ _ hD4.at_)) (fun _ => rfl) ?_ mT_yes mE_c ?_⟩
    · rintro i v acc3 H' ev s' e3 rfl
      exact ⟨Same.refl _, iteT ⟨Same.refl _, by rw [List.replicate_succ']⟩⟩
    rintro H5 acc3 s5 eD3 rfl
    rw [hlen] at eD3
    have hD5 := hD4.kept (Kept.same s5)
    have hp5 := hp4.same s5
    have eD25 := s5 _ _ eD2
    have ylen : ys.length = n := by rw [hL2.len, hlen]
    have nD2p : D2 ≠ p := hp3.nn nD2
    have nD2l : D2 ≠ l := hp3.nl nD2
    have nD3p : D3 ≠ p := hp4.nn nD3
    have nD3l : D3 ≠ l := hp4.nl nD3
    have k05 : Kept p H H5 := (((k1.trans k2).trans k3).trans (Kept.same s4)).trans (Kept.same s5)
    have ksrc : ∀ {H' : Hp}, Kept p H1 H' → Dt (Np p) H' src sd := fun k => (hsrc.new_np hp).np_kept k
    have k15 : Kept p H1 H5 := ((k2.trans k3).trans (Kept.same s4)).trans (Kept.same s5)
    refine ⟨_, rfl, (by show 0 ≤ sizeLine; decide), fun z0 nz0 => ?_⟩
    have s6 := same_upd (o := .lst []) nz0
    have hD6 := hD5.kept (Kept.same s6)
    refine ⟨.list (rs'.map r8D), .list [], (Dt.lst (S := Any) trivial hD6.at_ hD6.all.any).dp, (Dt.lst (S := Any) trivial upd_same .nil).dp, hD6.rows.shaped, rfl, _, rfl, ?_⟩
    have hp6 := hp5.same s6
    generalize upd H5 z0 (.lst []) = H6 at s6 hD6 hp6 ⊢
    have k06 := k05.trans (Kept.same s6)
    have k16 := k15.trans (Kept.same s6)
    have cnd : ∀ {H' : Hp}, Kl H5 H' → ∀ (j : Nat) y r, ys[j]? = some y → rs'[j]? = some r → CndR Cs H' y r := fun k j y r e1 e2 => ((hL2.all j y r e1 e2).kl (Kl.same s5)).kl k
    have fin0 : ∀ (H' : Hp) (T' : Ends) (x8 : Option V), T'.rt = Q → Same H5 H' ∨ (Kept p H5 H' ∧ Hand p l H') → Hand p l H' → u5 T' [some (.ref p), some (.ref g), some src, some (.ref D), none, some (.ref D2), none, some (.ref D3), x8, none, none, none] H' := fun H' T' x8 eT sk hp' => by
      have k5 : Kept p H5 H' := sk.elim (fun s => Kept.same s) (fun h => h.1)
      have kl5 : Kl H5 H' := Kl.kept hp5 k5
      have hD' := hD5.kept k5
      refine r5 _ H' T' src sd D D2 D3 acc ys rs' (List.replicate n true) _ _ _ _ _ _ _ _ rfl ⟨(ksrc (k15.trans k5)).any, hD'.rows, by omega, k5 _ _ nD2p eD25, by rw [List.length_replicate]; exact ylen, by rw [List.map_replicate]; exact k5 _ _ nD3p eD3, by rw [List.length_replicate]; exact hlen.symm, fun i y b e1 e2 => ?_, fun _ => ⟨by omega, fun i y r e1 e2 => ?_, hD.ok⟩⟩ (fun H7 s7 => ?_)
      · have il : i < rs'.length := by have := (List.getElem?_eq_some_iff.mp e1).1; omega
        have eb : b = true := by
          have := List.mem_of_getElem? e2
          exact List.eq_of_mem_replicate this
        subst eb
        exact (cnd kl5 i y _ e1 (List.getElem?_eq_getElem il)).itm hI
      · obtain ⟨r1, r2⟩ := List.getElem?_eq_some_iff.mp e2
        have ia : i < acc.length := by omega
        obtain ⟨d, ed, hd⟩ := hD'.all.get (List.getElem?_eq_getElem ia)
        rw [List.getElem?_map, e2] at ed
        obtain rfl := Option.some.inj ed
        exact cnd_of (cnd kl5 i y r e1 e2) hd (hD.ok _ (List.mem_of_getElem? e2))
      · rw [eT]
        exact q H7 ((k05.trans k5).trans (Kept.same s7)) (hp'.same s7)
    cases rs' with
    | nil =>
      refine iteF (iteF (tNext_of ?_))
      exact fin0 _ _ _ rfl (.inl s6) hp6
    | cons r0 rs0 =>
      refine iteT ?_
      refine op_of (draw_lt (p := p) (l := l) rfl hp6 (by decide) (by decide +kernel) fun dk H7 dk3 k7 hp7 => c_of ⟨rfl, _, rfl, ite2 (fun _ => ?_) (fun _ => tNext_of ?_)⟩)
      · have k57 : Kept p H5 H7 := (Kept.same s6).trans k7
        have hD7 := hD5.kept k57
        refine ⟨_, rfl, _, rfl, D, _, rfl, .inl (SqL.of hD7.at_), p, l, _, rfl, hp7, by simp only [List.length_cons] at hrl; omega, by rw [Int.natAbs_natCast]; exact Nat.lt_of_le_of_lt (show acc.length ≤ 5 by omega) (by decide +kernel), fun dj H8 dj0 djn k8 hp8 => ?_⟩
        obtain ⟨j, rfl⟩ := Int.eq_ofNat_of_zero_le dj0
        have jn : j < n := by omega
        refine ⟨_, rfl, menu_wrong (K := K) (CC := CC) (CE := CE2) fun a xs H9 s9 na ea x7 hw => ⟨p, l, a, xs, rfl, hp8.same s9, ea, hp8.nn na, by omega, by omega, fun v H10 hv k10 hp10 => ?_⟩⟩
        have hp9 := hp8.same s9
        have hW := (hw v hv).kl (Kl.kept hp9 k10)
        have k5' : Kept p H5 H10 := ((k57.trans k8).trans (Kept.same s9)).trans k10
        have eA := k5' _ _ nD2p eD25
        have eB := k5' _ _ nD3p eD3
        have n23 : D2 ≠ D3 := ne_of_none eD2 nD3
        refine ⟨_, rfl, _, rfl, D2, ys, _, j, rfl, rfl, eA, ixN_at (by omega), ?_⟩
        have eB2 : upd H10 D2 (.lst (ys.set j v)) D3 = some (.lst (List.replicate n (.bl true))) := (upd_ne (Ne.symm n23)).trans eB
        refine ⟨_, rfl, _, rfl, D3, _, _, j, rfl, rfl, eB2, ixN_at (by rw [List.length_replicate]; exact jn), ?_⟩
        have klA : Kl H10 (upd H10 D2 (.lst (ys.set j v))) := Kl.upd eA
        have klB := Kl.upd (o := .lst ((List.replicate n (V.bl true)).set j (.bl false))) eB2
        have kl5 := ((Kl.kept hp5 k5').trans klA).trans klB
        have hW2 := hW.kl (klA.trans klB)
        have n2 : H D2 = none := hp3.back ((k1.trans k2).trans k3) nD2
        have n3 : H D3 = none := hp4.back (((k1.trans k2).trans k3).trans (Kept.same s4)) nD3
        have e2f : upd (upd H10 D2 (.lst (ys.set j v))) D3 (.lst ((List.replicate n (V.bl true)).set j (.bl false))) D2 = some (.lst (ys.set j v)) := (upd_ne n23).trans upd_same
        have e3f : upd (upd H10 D2 (.lst (ys.set j v))) D3 (.lst ((List.replicate n (V.bl true)).set j (.bl false))) D3 = some (.lst ((List.replicate n (V.bl true)).set j (.bl false))) := upd_same
        have kf : Kept p H (upd (upd H10 D2 (.lst (ys.set j v))) D3 (.lst ((List.replicate n (V.bl true)).set j (.bl false)))) := fun b u nb e => by
          rw [upd_ne (ne_of_none e n3), upd_ne (ne_of_none e n2)]
          exact k5' _ _ nb (k05 _ _ nb e)
        have hpf : Hand p l (upd (upd H10 D2 (.lst (ys.set j v))) D3 (.lst ((List.replicate n (V.bl true)).set j (.bl false)))) := (hp10.app nD2p nD2l).app nD3p nD3l
        have k4f : ∀ b u, b ≠ p → b ≠ D2 → b ≠ D3 → H4 b = some u → upd (upd H10 D2 (.lst (ys.set j v))) D3 (.lst ((List.replicate n (V.bl true)).set j (.bl false))) b = some u := fun b u nb b2 b3 e => by
          rw [upd_ne b3, upd_ne b2]
          exact k5' _ _ nb (s5 _ _ e)
        generalize upd (upd H10 D2 (.lst (ys.set j v))) D3 (.lst ((List.replicate n (V.bl true)).set j (.bl false))) = HF at kl5 hW2 e2f e3f kf hpf k4f ⊢
        have nDD2 : D ≠ D2 := ne_of_none eD nD2
        have nDD3 : D ≠ D3 := ne_of_none hD4.at_ nD3
        have rowsF : RowsAt HF D acc (r0 :: rs0) := ⟨k4f _ _ nDp nDD2 nDD3 hD4.at_, (((hD.all.off nD2).same s4).off nD3).to (fun _ _ => trivial) fun b u ⟨⟨b1, b2⟩, b3⟩ e => k4f b u b1 b2 b3 e, hD.ok⟩
        have srcF : Dt Any HF src sd := ((((ksrc (k2.trans k3)).off nD2).same s4).off nD3).to (fun _ _ => trivial) fun b u ⟨⟨b1, b2⟩, b3⟩ e => k4f b u b1 b2 b3 e
        refine r5 _ HF _ src sd D D2 D3 acc (ys.set j v) (r0 :: rs0) ((List.replicate n true).set j false) _ _ _ _ _ _ _ _ rfl ⟨srcF, rowsF, by omega, e2f, by rw [List.length_set, List.length_set, List.length_replicate]; exact ylen, by rw [List.map_set, List.map_replicate]; exact e3f, by rw [List.length_set, List.length_replicate]; exact hlen.symm, fun i y b e1 e2 => ?_, fun hall => ?_⟩ (fun H7 s7 => ?_)
        · by_cases hij : j = i
          · subst hij
            rw [List.getElem?_set_self (by omega)] at e1
            rw [List.getElem?_set_self (by rw [List.length_replicate]; exact jn)] at e2
            obtain rfl := Option.some.inj e1
            obtain rfl := Option.some.inj e2
            exact hW2.itm TI FI hB
          · rw [List.getElem?_set_ne hij] at e1 e2
            have il : i < (r0 :: rs0).length := by have := (List.getElem?_eq_some_iff.mp e1).1; omega
            have eb : b = true := List.eq_of_mem_replicate (List.mem_of_getElem? e2)
            subst eb
            exact (cnd kl5 i y _ e1 (List.getElem?_eq_getElem il)).itm hI
        · have z := hall false (List.mem_of_getElem? (i := j) (List.getElem?_set_self (by rw [List.length_replicate]; exact jn)))
          cases z
        · exact q H7 (kf.trans (Kept.same s7)) (hpf.same s7)
      · exact fin0 _ _ _ rfl (.inr ⟨(Kept.same s6).trans k7, hp7⟩) hp7
end
end K08

/-! a Free is as its bars ask, or refused as it must be -/
namespace K08
open PySem PySem.Spec PyProof.Rows L2
abbrev teBar : TE := tCall spThg [] E0 (tCons (tVar 0) (tCons (tOp rCat (tCall spLsr [] E0 (tCons (tC (.int 2)) tNil)) (tOp rRep (tLst (tCons (tC (.str "living")) (tCons (tC (.str "ever")) tNil))) (tC (.int 3)))) tNil))
abbrev teFine (K : PySem.W.Frag) : TE := tOrV (tCall (spAsk srcV) [] E0 (tCons (tVar 4) tNil)) (tAndV (tCB (rIsi K) (tCons (tVar 4) (tCons (tC (.ty "str")) tNil))) (tOp (rIn K false) (tVar 4) (tTup (tCons (tC (.str "living")) (tCons (tC (.str "ever")) tNil)))))
theorem mE_call {sp : Sp} {ta : TA} (hs : ∀ vs H (Q Q' : VK), (∀ v H', Q v H' → Q' v H') → sp vs H Q E0 → sp vs H Q' E0) (ha : MonoA ta) : MonoE (tCall sp [] E0 ta) := fun _ _ _ _ h q => ha _ _ _ _ (fun _ _ q1 => hs _ _ _ _ h q1) q
theorem mE_orV {a b : TE} (ha : MonoE a) (hb : MonoE b) : MonoE (tOrV a b) := fun _ _ _ _ h q => ha _ _ _ _ (fun x H1 ⟨c, e, q1⟩ => ⟨c, e, by
  cases c with
  | true => exact h _ _ q1
  | false => exact hb _ _ _ _ h q1⟩) q
theorem mE_andV {a b : TE} (ha : MonoE a) (hb : MonoE b) : MonoE (tAndV a b) := fun _ _ _ _ h q => ha _ _ _ _ (fun x H1 ⟨c, e, q1⟩ => ⟨c, e, by
  cases c with
  | true => exact hb _ _ _ _ h q1
  | false => exact h _ _ q1⟩) q
theorem mR_cat : MonoR rCat := fun _ _ _ _ _ h ⟨l, b, xs, zs, e1, e2, e3, e4, e5, q⟩ => ⟨l, b, xs, zs, e1, e2, e3, e4, e5, fun p np => h _ _ (q p np)⟩
theorem mR_rep : MonoR rRep := fun _ _ _ _ _ h ⟨l, k, xs, e1, e2, e3, e4, e5, e6, q⟩ => ⟨l, k, xs, e1, e2, e3, e4, e5, e6, fun p np => h _ _ (q p np)⟩
theorem mE_bar : MonoE teBar := mE_call (fun vs H Q Q' h ⟨p, l, a, l0, e, h1, h2, h3, h4, h5, h6, q⟩ => ⟨p, l, a, l0, e, h1, h2, h3, h4, h5, h6, fun H' v d k1 k2 k3 k4 => h _ _ (q H' v d k1 k2 k3 k4)⟩)
  (mA_cons mE_var (mA_cons (mE_op mR_cat (mE_call (fun vs H Q Q' h ⟨e, q⟩ => ⟨e, fun H' z s n e => h _ _ (q H' z s n e)⟩) (mA_cons mE_c mA_nil)) (mE_op mR_rep (mE_lst (mA_cons mE_c (mA_cons mE_c mA_nil))) mE_c)) mA_nil))
theorem mE_fine {K : PySem.W.Frag} : MonoE (teFine K) := mE_orV (mE_call (fun vs H Q Q' h ⟨v, t, e, o, q⟩ => ⟨v, t, e, o, fun H' s => h _ _ (q H' s)⟩) (mA_cons mE_var mA_nil))
  (mE_andV (fun _ _ _ _ h q => mA_cons mE_var (mA_cons mE_c mA_nil) _ _ _ _ (fun _ _ ⟨x, c, t, u, b, e1, e2, e3, e4, q⟩ => ⟨x, c, t, u, b, e1, e2, e3, e4, h _ _ q⟩) q) (mE_op mR_in mE_var (mE_tup (mA_cons mE_c (mA_cons mE_c mA_nil)))))
abbrev nmF : List Str := ["_law_hand_here", "_law_bars", "_law_k", "_law_fine", "_law_bar", "_law_due", "_law_told_here"]
theorem scF : FnScope nmF ["_law_hand_here"] (defScope sFreeRight) := ⟨rfl, rfl, rfl, by decide +kernel, rfl, by decide +kernel, by decide +kernel⟩
/-- things drawn: comprehension's invariant -/
structure ThgL (p D : Addr) (i : Nat) (acc : List V) (H : Hp) : Prop where
  len : acc.length = i
  ex : ∃ ds : List PyData, DtAll (fun a => a ≠ p ∧ a ≠ D) H acc ds
theorem thgL_lc {p D : Addr} : LcR D (ThgL p D) := ⟨fun i acc H H' ys h e k => ⟨h.len, let ⟨ds, h1⟩ := h.ex; ⟨ds, h1.to (fun _ z => z) fun a o s e' => k a o s.2 e'⟩⟩, fun i acc H h => Nat.le_of_eq h.len⟩
theorem ThgL.add {p D : Addr} {i : Nat} {acc : List V} {H H' : Hp} {v : V} {d : PyData} (h : ThgL p D i acc H) (k : Kept p H H') (hd : Dt (fun a => a ≠ p ∧ a ≠ D) H' v d) : ThgL p D (i + 1) (acc ++ [v]) H' := by
  obtain ⟨ds, h1⟩ := h.ex
  exact ⟨by rw [List.length_append, h.len]; rfl, ds ++ [d], (h1.kept (fun n => n.1 rfl) k).app (.cons hd .nil)⟩
theorem freF_none {bs : List Bool} (h : freF bs = none) : bs.length ≤ 4 ∧ ∀ b ∈ bs, b = true := by
  unfold freF at h
  by_cases h4 : 4 < bs.length
  · rw [if_pos h4] at h; cases h
  · rw [if_neg h4] at h
    refine ⟨by omega, ?_⟩
    cases e : firstF 0 bs with
    | none => exact firstF_none e
    | some i => rw [e] at h; cases h
theorem fdue_ok {bs : List Bool} {i : Nat} {z : Str} (h : freF bs = some (i, z)) : okS z = true := by
  unfold freF at h
  by_cases h4 : 4 < bs.length
  · rw [if_pos h4] at h
    have h := Option.some.inj h
    injection h with _ h
    subst h
    decide +kernel
  · rw [if_neg h4] at h
    cases e : firstF 0 bs with
    | none => rw [e] at h; cases h
    | some i =>
      rw [e] at h
      have h := Option.some.inj (show some (i, ("bar" : Str)) = _ from h)
      injection h with _ h
      subst h
      decide +kernel
/-- bars that are fine are texts -/
theorem bars_strs {H : Hp} {S : Addr → Prop} : ∀ {vs : List V} {ds : List PyData}, DtAll S H vs ds → (∀ b ∈ vs.map barV, b = true) → ∃ zs : List Str, vs = sV zs ∧ ∀ z ∈ zs, okS z = true
  | [], _, _, _ => ⟨[], rfl, fun z hz => by cases hz⟩
  | v :: vs, _, .cons a b, h => by
    obtain ⟨zs, rfl, h2⟩ := bars_strs b fun c hc => h c (List.mem_cons_of_mem _ hc)
    have hv : barV v = true := h _ List.mem_cons_self
    cases a with
    | str x hx hs => exact ⟨x :: zs, rfl, fun z hz => by
        rcases List.mem_cons.mp hz with rfl | hz
        · exact Bool.and_eq_true_iff.mpr ⟨decide_eq_true hx, hs⟩
        · exact h2 z hz⟩
    | _ => cases (show false = true from hv)
def spFrr : Sp := fun vs H Q _ => ∃ (p l : Addr), vs = [.ref p] ∧ Hand p l H ∧ ∀ H', Kept p H H' → Hand p l H' → Q (.bl true) H'
def barMenu : List Str := lsrc ++ [("living" : Str), ("ever" : Str), ("living" : Str), ("ever" : Str), ("living" : Str), ("ever" : Str)]
theorem barMenu_eq : sV barMenu = sV lsrc ++ (List.replicate (3 : Int).toNat [V.str "living", .str "ever"]).flatten := sV_app _ _
section
variable {P : Program} {w : World} {K : PySem.W.Frag} {mg : Str → Option Value} {base : Heap}
theorem ok_frr {f CF CC fD fTh fSr fIS fFi fFO fCT fTS : Addr} {fd fdD fdTh fdSr fdIS fdFi fdFO fdCT fdTS : FuncData} {cs : List ShoR} (F : FnP K "_law_free_right" sFreeRight f fd)
    (z_isinstance : mg "isinstance" = none) (z_tuple : mg "tuple" = none) (z_str : mg "str" = none) (z_range : mg "range" = none)
    (dD : Df P w K mg base "_law_draw" 2 ["_law_hand_here", "_law_many"] spDr fD fdD) (dT : Df P w K mg base "_law_thing" 4 ["_law_hand_here", "_law_good"] spThg fTh fdTh) (dS : Df P w K mg base "_law_sources" 2 ["_law_width"] spLsr fSr fdSr)
    (dIS : Df P w K mg base "_law_is_source" 3 ["_law_thing_here"] (spAsk srcV) fIS fdIS) (dF : Df P w K mg base "_law_first" 1 ["_law_parts_here", "_law_word", "_law_fine"] spFst fFi fdFi) (dFO : Df P w K mg base "_law_free_of" 6 ["_law_bars"] (spFof CF) fFO fdFO)
    (dCT : Df P w K mg base "_law_clause_text" 2 ["_law_row_here"] spClt fCT fdCT) (TS : StrC P w K mg base CF 6 (spFreS cs CF) fTS fdTS) (gF : mg "Free" = some (.ref CF)) (T : ConC K CF ["bars"]) (FI : ClsI K CC false CF) (M : ManC K CF "free") : FnOk P w K mg base CX0 9 f fd ["_law_hand_here"] spFrr := by
  refine F.ok scF (fun vs H Q E h => ?_) (fun cdv A outer s H vs Q E hr8 h => ?_)
  · obtain ⟨p, l, rfl, _⟩ := h
    rfl
  · obtain ⟨p, l, rfl, hp, q⟩ := h
    have hr6 := hr8.mono (show 6 ≤ 8 by decide)
    have hr4 := hr8.mono (show 4 ≤ 8 by decide)
    have hr3 := hr8.mono (show 3 ≤ 8 by decide)
    have hr2 := hr8.mono (show 2 ≤ 8 by decide)
    have hr1 := hr8.mono (show 1 ≤ 8 by decide)
    have hr := hr8
    refine ⟨_, PSs.nox (pss_cons (ps_setLc (i := 1) (own := [("_law_k", 2)]) (g := gName 2) (tt := tYes) (te := teBar) rfl scF.nd rfl rfl (sw_true rfl rfl rfl (by decide +kernel)) (pi_range1 (by rfl) z_range (pa_cons (pe_call dD.ok hr2 (by rfl) dD.gl dD.kp dD.bi .nil pass0 (pa_cons (pv 0) (pa_cons pe_int pa_nil))) pa_nil)) (blkOk_by (N := ["_law_hand_here", "_law_bars", "_law_k", "_law_fine", "_law_bar", "_law_due", "_law_told_here"]) (sc := defScope sFreeRight) (by decide +kernel)) (fun _ _ _ _ _ => pg_name (i := 2) scF.nd rfl (Or.inl rfl)) (fun _ _ _ _ _ => pts_nil) (fun _ _ _ _ _ => (pe_call dT.ok hr4 (by rfl) dT.gl dT.kp dT.bi .nil pass0 (pa_cons (pv 0) (pa_cons (pe_op op_cat (pe_call dS.ok hr2 (by rfl) dS.gl dS.kp dS.bi .nil pass0 (pa_cons pe_int pa_nil)) (pe_op op_rep (pe_lst (pa_cons pe_str (pa_cons pe_str pa_nil))) pe_int)) pa_nil)))))
    (pss_cons (ps_setLc (i := 3) (own := [("_law_bar", 4)]) (g := gName 4) (tt := tYes) (te := (teFine K)) rfl scF.nd rfl rfl (sw_true rfl rfl rfl (by decide +kernel)) (pi_list (pv 1)) (blkOk_by (N := ["_law_hand_here", "_law_bars", "_law_k", "_law_fine", "_law_bar", "_law_due", "_law_told_here"]) (sc := defScope sFreeRight) (by decide +kernel)) (fun _ _ _ _ _ => pg_name (i := 4) scF.nd rfl (Or.inl rfl)) (fun _ _ _ _ _ => pts_nil) (fun _ _ _ _ _ => (pe_or (pe_call dIS.ok hr3 (by rfl) dIS.gl dIS.kp dIS.bi .nil pass0 (pa_cons (pv 4) pa_nil)) (pe_one (pe_and (pe_callB call_isi (by rfl) z_isinstance (by decide +kernel) (pa_cons (pv 4) (pa_cons (pe_bltn (by rfl) z_str (by decide +kernel) (v := .ty "str") rfl) pa_nil))) (pe_one (pe_cmpR op_in_seq (pv 4) (pe_tup (pa_cons pe_str (pa_cons pe_str pa_nil))) (by rfl))))))))
    (pss_cons (ps_par (i := 5) (j := 6) rfl scF.nd rfl rfl (by decide) rfl rfl (pa_cons (pe_call dF.ok hr1 (by rfl) dF.gl dF.kp dF.bi .nil pass0 (pa_cons (pv 1) (pa_cons pe_str (pa_cons (pv 3) pa_nil)))) (pa_cons (pe_call dFO.ok hr6 (by rfl) dFO.gl dFO.kp dFO.bi .nil pass0 (pa_cons (pv 1) pa_nil)) pa_nil)) rfl)
    (pss_cons (ps_if (pt_cmpR op_notN (pv 5) pe_non (nomark _))
      (pss_one (ps_ret (pe_and (pe_callB call_isi (by rfl) z_isinstance (by decide +kernel) (pa_cons (pv 6) (pa_cons (pe_bltn (by rfl) z_tuple (by decide +kernel) (v := .ty "tuple") rfl) pa_nil))) (pe_one (pe_cmpR (op_eqD hr.units) (pv 6) (pv 5) (nomark _))))))
      pss_nil)
    (pss_cons (ps_if (PW.pt (pw_or (pt_val (pe_callB call_isi (by rfl) z_isinstance (by decide +kernel) (pa_cons (pv 6) (pa_cons (pe_bltn (by rfl) z_tuple (by decide +kernel) (v := .ty "tuple") rfl) pa_nil)))) (pw_or (pt_not (pt_val (pe_callB call_isi (by rfl) z_isinstance (by decide +kernel) (pa_cons (pe_fld (pv 6) rfl) (pa_cons (pe_bltn (by rfl) z_tuple (by decide +kernel) (v := .ty "tuple") rfl) pa_nil))))) (pw_or1 (pt_cmpR (op_neD hr.units) (pe_fld (pv 6) rfl) (pe_callTy call_tuple_of (by rfl) z_tuple (by decide +kernel) (pa_cons (pv 1) pa_nil)) (nomark _))))))
      (pss_one (ps_ret pe_bl))
      pss_nil)
    (pss_one (ps_ret (pe_and (pe_cmpR op_eq (pe_callTy (call_strI TS.ok TS.at_ TS.fn TS.bi pass0 hr8) (by rfl) z_str (by decide +kernel) (pa_cons (pv 6) pa_nil)) (pe_call dCT.ok hr2 (by rfl) dCT.gl dCT.kp dCT.bi .nil pass0 (pa_cons (pe_tup (pa_cons pe_str (pa_cons (pv 1) pa_nil))) pa_nil)) (nomark _)) (pe_and (pe_cmpR op_eq (pe_con (pv 6) rfl) pe_str (nomark _)) (pe_one (pe_cmpR op_eq (ClX.pe_cval (pe_glob (by rfl) gF (v := .ref CF) rfl (by decide +kernel))) pe_str (nomark _)))))))))))), ?_⟩
    refine ⟨_, rfl, p, l, 6, rfl, hp, by decide, by decide +kernel, fun d H1 d0 d6 k1 hp1 => ?_⟩
    obtain ⟨n, rfl⟩ := Int.eq_ofNat_of_zero_le d0
    refine ⟨(n : Int), rfl, by omega, by omega, fun D nD => lc_K (walk_rangeL n) (ThgL p D) thgL_lc hp1 nD (by rw [List.length_map, List.length_range]; exact Nat.lt_of_lt_of_le (show n < 6 by omega) (by decide)) ⟨rfl, [], .nil⟩ (fun _ _ => trivial) (fun _ => rfl) ?_ mE_bar ?_⟩
    · rintro i v acc H' ev k' hp' eD hL
      refine ⟨_, rfl, rfl, fun H2 z s2 nz ez => ⟨(by show 2 ≤ sizeLine; decide), fun a na => ⟨a, 3, _, rfl, rfl, upd_same, by decide, by decide, by decide, fun b nb => ?_⟩⟩⟩
      have sa := same_upd (o := .lst [V.str "living", .str "ever"]) na
      have sb := same_upd (o := .lst (List.replicate (3 : Int).toNat [V.str "living", .str "ever"]).flatten) nb
      refine ⟨z, b, _, _, rfl, rfl, sb _ _ (sa _ _ ez), upd_same, by decide +kernel, fun c nc => ?_⟩
      have sc' := same_upd (o := .lst (sV lsrc ++ (List.replicate (3 : Int).toNat [V.str "living", .str "ever"]).flatten)) nc
      have s5 := ((s2.trans sa).trans sb).trans sc'
      have hp5 := hp'.same s5
      refine ⟨p, l, c, barMenu, rfl, hp5, by rw [barMenu_eq]; exact upd_same, (((hp'.same s2).same sa).same sb).nn nc, by decide +kernel, by decide +kernel, fun y hy => ?_, fun H6 v d k6 hp6 hd hm => ⟨(Kept.same s5).trans k6, hp6, ?_⟩⟩
      · have z : (barMenu.all okS) = true := by decide +kernel
        exact List.all_eq_true.mp z y hy
      · exact hL.add ((Kept.same s5).trans k6) (hd.to (fun a n => ⟨hp5.nn n, Ne.symm (ne_of_none (s5 _ _ eD) n)⟩) fun _ _ _ e => e)
    rintro H2 acc k2 hp2 eD hL
    have hlen : acc.length = n := by
      have z := hL.len
      rw [List.length_map, List.length_range] at z
      exact z
    obtain ⟨ds, hds⟩ := hL.ex
    have oddA : ∀ {H' : Hp}, Same H2 H' → ∀ y ∈ acc, ∃ t, Odd H' y t := fun s y hy => by
      obtain ⟨d, _, hd⟩ := hds.mem hy
      exact (hd.same s).odd2
    refine ⟨_, rfl, D, rfl, ⟨_, SqL.of eD⟩, fun D3 nD3 => lc_N walk_list (fun i acc' _ => acc' = ((acc.map barV).take i).map V.bl) ⟨fun _ _ _ _ _ r _ _ => r, fun i acc' _ r => by rw [r, List.length_map]; exact List.length_take_le _ _⟩ nD3 (Nat.lt_of_lt_of_le (show acc.length < 6 by omega) (by decide)) rfl (fun H' s' => SqL.of (s' _ _ eD)) (fun _ => rfl) ?_ mT_yes mE_fine ?_⟩
    · rintro i v acc3 H' ev s' e3 rfl
      have eb : (acc.map barV)[i]? = some (barV v) := by rw [List.getElem?_map, ev]; rfl
      have fin : ∀ (H4 : Hp) (b : Bool), Same H' H4 → b = barV v → Same H' H4 ∧ (((acc.map barV).take i).map V.bl) ++ [V.bl b] = ((acc.map barV).take (i + 1)).map V.bl := fun H4 b s4 hb => ⟨s4, by rw [take_snoc' eb, List.map_append, hb]; rfl⟩
      obtain ⟨t, o⟩ := oddA s' v (List.mem_of_getElem? ev)
      refine ⟨Same.refl _, iteT ⟨_, rfl, v, t, rfl, o, fun H4 s4 => ⟨_, rfl, ?_⟩⟩⟩
      have o4 := o.same s4
      cases hs : srcV v with
      | true =>
        refine iteT (fin _ _ s4 ?_)
        cases o with
        | str x _ _ => exact (show (inV (.str x) (srcs.map V.str) || inV (.str x) (wordsB.map V.str)) = true by rw [show inV (.str x) (srcs.map V.str) = true from hs]; rfl).symm
        | _ => cases (show false = true from hs)
      | false =>
        refine iteF ?_
        have ty := o4.ty (K := K)
        cases o with
        | str x _ _ =>
          refine ⟨_, rfl, _, _, _, _, true, rfl, .ty _, ty, kit_ty (by decide +kernel), _, rfl, iteT ⟨_, rfl, (by show 2 ≤ sizeLine; decide), fun tt ntt => ⟨tt, _, rfl, .inr (SqT.of upd_same), rfl, rfl, fin _ _ (s4.trans (same_upd ntt)) ?_⟩⟩⟩
          show inV (.str x) (wordsB.map V.str) = (inV (.str x) (srcs.map V.str) || inV (.str x) (wordsB.map V.str))
          rw [show inV (.str x) (srcs.map V.str) = false from hs, Bool.false_or]
        | _ => exact ⟨_, rfl, _, _, _, _, false, rfl, .ty _, ty, kit_ty (by decide +kernel), _, rfl, iteF (fin _ _ s4 rfl)⟩
    rintro H3 acc3 s3 eD3 rfl
    rw [← List.length_map (f := barV), List.take_length] at eD3
    have eD' := s3 _ _ eD
    have hp3 := hp2.same s3
    have k3 := (k1.trans k2).trans (Kept.same s3)
    refine ⟨_, rfl, _, rfl, D, D3, acc, "bar", acc.map barV, rfl, eD', eD3, by rw [List.length_map], Nat.le_trans (show acc.length ≤ 5 by omega) (by decide), fun H4 v4 s4 hdue => ?_⟩
    have hdue : DueV H4 v4 (freF (acc.map barV)) := hdue
    have s34 := s3.trans s4
    refine ⟨_, rfl, D, acc, rfl, s4 _ _ eD', by omega, oddA s34, fun e H5 x s5 _ hF => ?_, fun i z e H5 t2 s5 ht2 => ?_⟩
    · rw [e] at hdue
      obtain rfl : v4 = .non := hdue
      obtain ⟨b4, hall⟩ := freF_none e
      obtain ⟨zs, hzs, hok⟩ := bars_strs hds hall
      obtain ⟨dx, tp, hx, ht⟩ := hF
      have TY := FI.ty hx
      have s35 := s34.trans s5
      have m2 := T.no "bars" List.mem_cons_self
      refine ⟨_, _, rfl, _, rfl, rfl, _, rfl, iteF (tNext_of ?_)⟩
      refine ⟨_, rfl, _, _, _, _, false, rfl, .ty _, TY, FI.kT, _, rfl, iteF ?_⟩
      refine ⟨_, rfl, x, CF, dx, _, _, rfl, hx, T.cl, m2, rfl, _, _, _, _, true, rfl, .ty _, .base (.tup ht), kit_ty (by decide +kernel), _, rfl, iteF ?_⟩
      refine ⟨_, rfl, x, CF, dx, _, _, rfl, hx, T.cl, m2, rfl, _, rfl, D, acc, rfl, .inl ⟨SqL.of (s35 _ _ eD), fun t6 nt6 => ?_⟩⟩
      have s6 := same_upd (o := .tup acc) nt6
      subst hzs
      have z4 : zs.length ≤ 4 := by rw [List.length_map, List.length_map] at b4; exact b4
      have sh : ∀ l : List Str, PyData.depth (.tuple (l.map PyData.str)) ≤ 64 := fun l => by
        show PyData.depthAll (l.map PyData.str) + 1 ≤ 64
        have := str_deep l
        omega
      have d1 : Dt Any (upd H5 t6 (.tup (sV zs))) (.ref tp) (.tuple (zs.map PyData.str)) := .tup trivial (s6 _ _ ht) (strs_dt hok)
      have d2 : Dt Any (upd H5 t6 (.tup (sV zs))) (.ref t6) (.tuple (zs.map PyData.str)) := .tup trivial upd_same (strs_dt hok)
      refine ⟨_, _, d1.dp, d2.dp, shaped_of d1.lay (sh _), shaped_of d2.lay (sh _), _, rfl, ?_⟩
      rw [PySem.SeqAt.eqv_refl _ d1.lay]
      refine iteF (tNext_of ?_)
      have hx6 := s6 _ _ hx
      have ht6 := s6 _ _ ht
      have s36 := s35.trans s6
      generalize upd H5 t6 (.tup (sV zs)) = H6 at s6 d1 d2 hx6 ht6 s36 ⊢
      refine ⟨_, rfl, x, dx, _, rfl, hx6, x, dx, tp, sV zs, zs, rfl, hx6, ⟨ht6, by rw [List.length_map], by rw [List.length_map]; omega, fun i v y ev ey => ?_⟩, fun H7 s7 => ⟨_, rfl, ?_⟩⟩
      · rw [List.getElem?_map, ey] at ev
        obtain rfl := Option.some.inj ev
        have hy := okS_len (hok _ (List.mem_of_getElem? ey))
        exact ⟨.str y hy, by omega⟩
      refine ⟨_, rfl, (by show 2 ≤ sizeLine; decide), fun tt ntt => ⟨tt, rfl, .inl ⟨D, zs, upd_same, ?_, by omega, fun H8 s8 => ?_⟩⟩⟩
      · exact (⟨s7 _ _ (s36 _ _ eD), hok⟩ : StrsAt H7 D zs).same (same_upd ntt)
      have s78 := (same_upd (o := .tup [.str "free", .ref D]) ntt).trans s8
      have hx8 := s78 _ _ (s7 _ _ hx6)
      obtain ⟨uu, con⟩ := M.con
      obtain ⟨mc, u2, crd, cvl⟩ := M.val
      refine ⟨rfl, _, rfl, ite2 (fun _ => ?_) (fun g => absurd (decide_eq_true rfl) g)⟩
      refine ⟨_, rfl, x, CF, dx, _, _, uu, rfl, hx8, T.cl, con, rfl, rfl, _, rfl, ite2 (fun _ => ?_) (fun g => absurd (decide_eq_true rfl) g)⟩
      refine ⟨CF, mc, _, u2, rfl, crd, cvl, rfl, ?_⟩
      have sf := s36.trans (s7.trans s78)
      exact bl_true (Q := Q) rfl (q _ ((k1.trans k2).trans (Kept.same sf)) (hp2.same sf))
    · rw [e] at hdue
      obtain ⟨t1, rfl, ht1⟩ := hdue
      have ht1 := s5 _ _ ht1
      refine ⟨_, _, rfl, _, rfl, rfl, _, rfl, iteT ?_⟩
      refine ⟨_, rfl, _, _, _, _, true, rfl, .ty _, .base (.tup ht2), kit_ty (by decide +kernel), _, rfl, iteT ?_⟩
      have zok : okS z = true := fdue_ok e
      have d1 : Dt Any H5 (.ref t1) (.tuple [.int (i : Nat), .str z]) := .tup trivial ht1 (.cons (.int _) (.cons (okS_dt zok) .nil))
      have d2 : Dt Any H5 (.ref t2) (.tuple [.int (i : Nat), .str z]) := .tup trivial ht2 (.cons (.int _) (.cons (okS_dt zok) .nil))
      refine ⟨_, rfl, _, rfl, _, _, d2.dp, d1.dp, shaped_of d2.lay (by show 1 ≤ 64; decide), shaped_of d1.lay (by show 1 ≤ 64; decide), ?_⟩
      rw [due_D]
      exact q _ ((k1.trans k2).trans (Kept.same (s34.trans s5))) (hp2.same (s34.trans s5))
end
end K08

/-! clauses are equal just if their parts are -/
namespace K08
open PySem PySem.Spec PyProof.Rows L2
structure DfX (P : Program) (w : World) (K : PySem.W.Frag) (mg : Str → Option Value) (base : Heap) (x : Str) (k : Nat) (ps : List Str) (sp : Sp) (f : Addr) (fd : FuncData) : Prop where
  gl : mg x = some (.ref f)
  ok : FnOk P w K mg base (L2.CX P w) k f fd ps sp
  bi : Binds K fd ps []
  kp : PySem.W.keepIn K (.ref f) = true
/-- an own == of a class, and its != -/
structure EqC (P : Program) (w : World) (K : PySem.W.Frag) (mg : Str → Option Value) (base : Heap) (C : Addr) (n : Nat) (sp : Sp) (f : Addr) (fd : FuncData) : Prop where
  ok : FnOk P w K mg base CX0 n f fd ["self", "other"] sp
  ne : NeC K C f
  bi : Binds K fd ["self", "other"] []
/-- != of the six conditions -/
structure CndNe (K : PySem.W.Frag) (Cs : C6) : Prop where
  ne : ∀ k, k < 6 → PySem.W.findIn K (.ref (Cs.at k)) "__ne__" = some (some (.builtin "object.__ne__"))
  ob : ∀ k, k < 6 → PySem.W.mroIn K (Cs.at k) (.type "object") = some true
  nt : ∀ k, k < 6 → PySem.W.notFirst K (Cs.at k) (.type "tuple") = true
theorem op_neCnd {X : Cx} {Cs : C6} (hQ : CndEq X.prog X.w X.K X.mg X.base Cs) (hN : CndNe X.K Cs) (hr : Room 2 X.A) : OpR X (compareOp .NotEq) (fun x y H Q => ∃ (r : R8) (t : Addr) (us : List V), Cnd Cs H x r ∧ fltR r = none ∧ y = .ref t ∧ H t = some (.tup us) ∧ Q (.bl true) H) := by
  intro pins s σ H x y u v Q I rx ry h
  obtain ⟨r, t, us, hc, hf, rfl, ht, q⟩ := h
  obtain ⟨a, dx, rfl, ha⟩ := cnd_at hc hf
  have k6 := k8_lt r
  obtain ⟨f, fd, F, hs, hfn, hb⟩ := hQ.eq _ k6
  exact op_neB F ⟨hN.ne _ k6, hs, hfn, hN.ob _ k6⟩ hb hr pins s σ H _ _ u v Q I rx ry ⟨a, dx, _, _, rfl, ha, .tup ht, hN.nt _ k6, a, dx, _, _, rfl, ha, fs_ns r, .inr ⟨.tup ht, _, rfl, q⟩⟩
theorem cut_toA (vs : List V) (k : Nat) : cutV vs none (some (k : Int)) = vs.take k := by
  show (vs.drop 0).take (HT.sIx vs.length vs.length (some (k : Int)) - 0) = _
  rw [List.drop_zero, HT.sIx_nat]
  by_cases h : k ≤ vs.length
  · rw [Nat.min_eq_left h]
    rfl
  · rw [Nat.min_eq_right (by omega), List.take_of_length_le (by omega), List.take_of_length_le (by omega)]
abbrev nmE : List Str := ["_law_hand_here", "_law_good", "_law_one", "_law_other", "_law_source", "_law_left", "_law_right", "_law_takes", "_law_row_here", "_law_bars", "_law_turned"]
theorem scE : FnScope nmE ["_law_hand_here", "_law_good"] (defScope sEqual) := ⟨rfl, rfl, rfl, by decide +kernel, rfl, by decide +kernel, by decide +kernel⟩
theorem bl_ne {Q : VK} {H : Hp} {a b : Bool} (e : a = b) (q : Q (.bl false) H) : rNe (.bl a) (.bl b) H Q := by
  refine ⟨rfl, ?_⟩
  rw [decide_eq_true (by rw [e])]
  exact q
theorem mk_cnd {Cs : C6} {CE : Addr} {i : Nat} {S : Addr → Prop} {v : V} {r : R8} {σ : L2.St} {H : Hp} {Q : VK} (e : σ[i]? = some (some v)) (d : Dt S H v (r8D r)) (f : fltR r = none) (q : ∀ (H' : Hp) (x : V), Same H H' → Cnd Cs H' x r → Q x H') : tCall (spMkc Cs CE) [] E0 (tCons (tVar i) tNil) σ H Q :=
  ⟨_, e, v, r, rfl, d.any, fun _ H' x s hc => q H' x s hc, fun z e => by rw [f] at e; cases e⟩
theorem r8_tup {S : Addr → Prop} {H : Hp} {v : V} {r : R8} (d : Dt S H v (r8D r)) : ∃ t us, v = .ref t ∧ H t = some (.tup us) := by
  rw [r8D_eq] at d
  cases d with
  | tup _ e _ => exact ⟨_, _, rfl, e⟩
theorem r8_shaped {S : Addr → Prop} {H : Hp} {v : V} {r : R8} (d : Dt S H v (r8D r)) (f : fltR r = none) : SeqAt.shaped (r8D r) = true := shaped_of d.lay (Nat.le_trans (r8_deep f) (by decide))
/-- conditions of rows, in a list of their own -/
theorem conds_lc {K : PySem.W.Frag} {Cs : C6} {CE : Addr} {j : Nat} {L : Addr} {us : List V} {rs : List R8} {σ : L2.St} {H : Hp} {Q : VK} (e : σ[j]? = some (some (.ref L))) (h : RowsAt H L us rs) (few : us.length ≤ 5) (hw : ∀ x, wipe ((wipe σ [8]).set 8 (some x)) [8] = wipe σ [8]) (h8 : ∀ x, ((wipe σ [8]).set 8 (some x))[8]? = some (some x))
    (q : ∀ (H' : Hp) (D : Addr) (ys : List V), Same H H' → H D = none → H' D = some (.lst ys) → CndsAt Cs H' ys rs → Q (.ref D) H') : tLc (iList K (tVar j)) (gName 8) tYes (tCall (spMkc Cs CE) [] E0 (tCons (tVar 8) tNil)) [8] σ H Q := by
  have hul := h.len
  refine ⟨_, e, L, rfl, ⟨_, SqL.of h.at_⟩, fun D nD => lc_N walk_list (CndL Cs D rs) cndL_lc nD (Nat.lt_of_lt_of_le (show us.length < 6 by omega) (by decide)) ⟨rfl, fun j y r e => by cases e⟩ (fun H' s' => SqL.of (s' _ _ h.at_)) hw ?_ mT_yes mE_mkc ?_⟩
  · rintro i v acc2 H' ev s' eD2 hL2
    obtain ⟨d, ed, hd⟩ := h.all.get ev
    rw [List.getElem?_map] at ed
    have il : i < rs.length := by rw [← hul]; exact (List.getElem?_eq_some_iff.mp ev).1
    have er := List.getElem?_eq_getElem il
    rw [er] at ed
    obtain rfl := Option.some.inj ed
    have hok := h.ok _ (List.getElem_mem il)
    exact ⟨Same.refl _, iteT (mk_cnd (h8 v) (hd.same s') hok fun H4 x s4 hc => ⟨s4, hL2.add s4 er (cnd_at hc hok)⟩)⟩
  rintro H4 ys s4 eD hL
  refine q H4 D ys s4 nD eD ⟨by rw [hL.len, hul], fun i y r e1 e2 => ?_, h.ok⟩
  obtain ⟨r1, r2⟩ := List.getElem?_eq_some_iff.mp e2
  have ia : i < us.length := by omega
  obtain ⟨d, ed, hd⟩ := h.all.get (List.getElem?_eq_getElem ia)
  rw [List.getElem?_map, e2] at ed
  obtain rfl := Option.some.inj ed
  exact cnd_of (hL.all i y r e1 e2) hd (h.ok _ (List.mem_of_getElem? e2))
theorem firstF_all : ∀ {bs : List Bool} {i : Nat}, (∀ b ∈ bs, b = true) → firstF i bs = none
  | [], _, _ => rfl
  | b :: bs, i, h => by
    show (if b = true then firstF (i + 1) bs else some i) = none
    rw [if_pos (h b List.mem_cons_self)]
    exact firstF_all fun c hc => h c (List.mem_cons_of_mem _ hc)
theorem take_run {K : PySem.W.Frag} {Cs : C6} {CT CC CE D : Addr} {z : Str} {ys : List V} {rs : List R8} {H : Hp} {Q : VK} (hI : ∀ C ∈ Cs.all, ClsI K CC true C) (hz : okS z = true) (hs : srcV (.str z) = true) (hD : H D = some (.lst ys)) (hC : CndsAt Cs H ys rs) (few : ys.length ≤ 4)
    (q : ∀ (H' : Hp) (x : Addr), Same H H' → H x = none → TakAt CT H' x (.str z) ys → Q (.ref x) H') : spLTk K CT CC CE [.str z, .ref D] H Q E0 := by
  have no : takF (srcV (.str z)) (List.replicate ys.length true) = none := by
    unfold takF
    rw [if_neg (by rw [hs]; exact Bool.noConfusion), if_neg (by rw [List.length_replicate]; omega), firstF_all fun b hb => List.eq_of_mem_replicate hb]
    rfl
  refine ⟨D, .str z, "str", ys, List.replicate ys.length true, rfl, hD, few, .str z (okS_len hz) (Bool.and_eq_true_iff.mp hz).2, by rw [List.length_replicate], fun i y b e1 e2 => ?_, fun _ => q, fun i w e => by rw [no] at e; cases e⟩
  obtain rfl : b = true := List.eq_of_mem_replicate (List.mem_of_getElem? e2)
  have il : i < rs.length := by rw [← hC.len]; exact (List.getElem?_eq_some_iff.mp e1).1
  exact cnd_itm hI (hC.all i y _ e1 (List.getElem?_eq_getElem il))
theorem mk_take {K : PySem.W.Frag} {Cs : C6} {CT CC CE CE2 : Addr} {A : TE} {j : Nat} {L : Addr} {z : Str} {us : List V} {rs : List R8} {σ : L2.St} {H : Hp} {Q : VK} (hA : ∀ Q : VK, Q (.str z) H → A σ H Q) (hI : ∀ C ∈ Cs.all, ClsI K CC true C) (hz : okS z = true) (hs : srcV (.str z) = true)
    (e : σ[j]? = some (some (.ref L))) (h : RowsAt H L us rs) (few : us.length ≤ 4) (hw : ∀ x, wipe ((wipe σ [8]).set 8 (some x)) [8] = wipe σ [8]) (h8 : ∀ x, ((wipe σ [8]).set 8 (some x))[8]? = some (some x))
    (q : ∀ (H' : Hp) (x : Addr) (ys : List V), Same H H' → TakAt CT H' x (.str z) ys → CndsAt Cs H' ys rs → Q (.ref x) H') : tCall (spLTk K CT CC CE2) [] E0 (tCons A (tCons (tLc (iList K (tVar j)) (gName 8) tYes (tCall (spMkc Cs CE) [] E0 (tCons (tVar 8) tNil)) [8]) tNil)) σ H Q :=
  hA _ (conds_lc e h (by omega) hw h8 fun H1 D1 ys s1 _ e1 hC => take_run (Q := Q) hI hz hs e1 hC (by have := hC.len; have := h.len; omega) fun H2 x s2 _ hT => q H2 x ys (s1.trans s2) hT (hC.same s2))
theorem free_run {CF CE : Addr} {i : Nat} {l : Addr} {zs : List Str} {σ : L2.St} {H : Hp} {Q : VK} (e : σ[i]? = some (some (.ref l))) (h : StrsAt H l zs) (few : zs.length ≤ 4) (hb : ∀ z ∈ zs, barV (.str z) = true)
    (q : ∀ (H' : Hp) (x : Addr), Same H H' → H x = none → FreAt CF H' x (sV zs) → Q (.ref x) H') : tCall (spLFr CF CE) [] E0 (tCons (tVar i) tNil) σ H Q := by
  have no : freF ((sV zs).map barV) = none := by
    unfold freF
    rw [if_neg (by rw [List.length_map, List.length_map]; omega), firstF_all fun b hm => by
      obtain ⟨v, hv, rfl⟩ := List.mem_map.mp hm
      obtain ⟨z, hz, rfl⟩ := List.mem_map.mp hv
      exact hb z hz]
    rfl
  refine ⟨_, e, l, sV zs, rfl, h.at_, by rw [List.length_map]; exact few, fun y hy => ?_, fun _ => q, fun i w e => by rw [no] at e; cases e⟩
  obtain ⟨z, hz, rfl⟩ := List.mem_map.mp hy
  have := h.ok z hz
  exact ⟨_, .str z (okS_len this) (Bool.and_eq_true_iff.mp this).2⟩
theorem turned_run {K : PySem.W.Frag} {p l b : Addr} {zs : List Str} {σ : L2.St} {H : Hp} {Q : VK} (e0 : σ[0]? = some (some (.ref p))) (e9 : σ[9]? = some (some (.ref b))) (hp : Hand p l H) (nb : b ≠ p) (h : StrsAt H b zs) (q : ∀ (H' : Hp) (t : Addr) (ws : List Str), Kept p H H' → Hand p l H' → StrsAt H' t ws → ws.length = zs.length → (∀ w ∈ ws, w ∈ zs) → Q (.ref t) H') :
    tIf (tTest (tOp rEq (tCall spDr [] E0 (tCons (tVar 0) (tCons (tC (.int 2)) tNil))) (tC (.int 0)))) (tVar 9) (tRevL K (tVar 9)) σ H Q := by
  refine draw_lt (p := p) (l := l) e0 hp (by decide) (by decide +kernel) fun n H1 n2 k1 hp1 => ⟨rfl, _, rfl, ?_⟩
  have h1 : StrsAt H1 b zs := ⟨k1 _ _ nb h.at_, h.ok⟩
  refine ite2 (fun _ => ⟨_, e9, q H1 b zs k1 hp1 h1 rfl fun w hw => hw⟩) (fun _ => ⟨_, e9, b, _, rfl, SqL.of h1.at_, fun t nt => ?_⟩)
  have st := same_upd (o := .lst (sV zs).reverse) nt
  refine q _ t zs.reverse (k1.trans (Kept.same st)) (hp1.same st) ⟨?_, fun y hy => h.ok y (List.mem_reverse.mp hy)⟩ List.length_reverse fun w hw => List.mem_reverse.mp hw
  rw [upd_same]
  show _ = some (HO.lst (zs.reverse.map V.str))
  rw [List.map_reverse]
theorem bars_cut {K : PySem.W.Frag} {p l : Addr} {σ : L2.St} {H : Hp} {Q : VK} (e0 : σ[0]? = some (some (.ref p))) (hp : Hand p l H) (q : ∀ (H' : Hp) (b : Addr) (n : Nat), Kept p H H' → Hand p l H' → b ≠ p → StrsAt H' b (([("f" : Str), ("living" : Str), ("m.1" : Str)] : List Str).take n) → Q (.ref b) H') :
    tSl (rSlL K) (tLst (tCons (tC (.str "f")) (tCons (tC (.str "living")) (tCons (tC (.str "m.1")) tNil)))) tNoPart (tPart (tCall spDr [] E0 (tCons (tVar 0) (tCons (tC (.int 4)) tNil)))) σ H Q := by
  refine ⟨(by show 3 ≤ sizeLine; decide), fun a na => ?_⟩
  have sa := same_upd (o := .lst [V.str "f", .str "living", .str "m.1"]) na
  have hpa := hp.same sa
  refine draw_lt (p := p) (l := l) e0 hpa (by decide) (by decide +kernel) fun n H1 n4 k1 hp1 => ⟨_, rfl, a, _, rfl, SqL.of (k1 _ _ (hp.nn na) upd_same), fun b nb => ?_⟩
  rw [cut_toA]
  have sb := same_upd (o := .lst ([V.str "f", .str "living", .str "m.1"].take n)) nb
  refine q _ b n (((Kept.same sa).trans k1).trans (Kept.same sb)) (hp1.same sb) (hp1.nn nb) ⟨?_, fun y hy => ?_⟩
  · rw [upd_same]
    show _ = some (HO.lst ((([("f" : Str), ("living" : Str), ("m.1" : Str)] : List Str).take n).map V.str))
    rw [List.map_take]
    rfl
  · have := List.mem_of_mem_take hy
    have z : ((([("f" : Str), ("living" : Str), ("m.1" : Str)] : List Str)).all okS) = true := by decide +kernel
    exact List.all_eq_true.mp z y this
section
variable {P : Program} {w : World} {K : PySem.W.Frag} {mg : Str → Option Value} {base : Heap}
theorem tEquR {f CT CF CC CE CE2 fD fM fLT fLF fTE fFE : Addr} {fdD fdM fdLT fdLF fdTE fdFE : FuncData} {Cs : C6} {cdv : Value} {A : Around} {outer : List Env} {s0 : Shared} {H0 : Hp} {E : XK} (hr8 : Room 8 (A.deeper (envOfC "_law_equal" (defScope sEqual) s0.heap.objs.size f cdv)))
    (dD : Df P w K mg base "_law_draw" 2 ["_law_hand_here", "_law_many"] spDr fD fdD) (dM : DfX P w K mg base "_law_make_condition" 5 ["_law_row_here"] (spMkc Cs CE) fM fdM)
    (dLT : DfX P w K mg base "_law_take" 5 ["_law_source", "_law_made"] (spLTk K CT CC CE2) fLT fdLT) (dLF : DfX P w K mg base "_law_free" 5 ["_law_bars"] (spLFr CF CE2) fLF fdLF)
    (hQ : CndEq P w K mg base Cs) (hN : CndNe K Cs) (hI : ∀ C ∈ Cs.all, ClsI K CC true C) (TE : EqC P w K mg base CT 3 (spTakE K Cs CT) fTE fdTE) (FE : EqC P w K mg base CF 3 (spFreE K CF) fFE fdFE)
    (nfT : PySem.W.notFirst K CT (.ref CT) = true) (nfF : PySem.W.notFirst K CF (.ref CF) = true) (nfFT : PySem.W.notFirst K CF (.ref CT) = true) (nfS : PySem.W.notFirst K CT (.type "str") = true) (neFT : CF ≠ CT) (mkF : PySem.W.makesIn K CF = true) (mkT : PySem.W.makesIn K CT = true) :
    ∃ u, PSs (cxOf CX0 P w K mg base nmE "_law_equal" (defScope sEqual) f cdv A outer s0 H0 E).nox ((defBody sEqual).drop 5) u ∧
      ∀ (σ : L2.St) (H : Hp) (T' : Ends) (p l L R : Addr) (z : Str) (v1 : V) (r1 : R8) (usL usR : List V) (rsL rsR : List R8) (x1 x3 x7 x8 x9 x10 : Option V), σ = [some (.ref p), x1, some v1, x3, some (.str z), some (.ref L), some (.ref R), x7, x8, x9, x10] → Hand p l H → okS z = true → srcV (.str z) = true → Dt (Np p) H v1 (r8D r1) → fltR r1 = none →
        RowsAt H L usL rsL → RowsAt H R usR rsR → usL.length ≤ 4 → usR.length ≤ 4 → (∀ H', Kept p H H' → Hand p l H' → T'.rt (.bl true) H') → u T' σ H := by
  have hr5 := hr8.mono (show 5 ≤ 8 by decide)
  have hr4 := hr8.mono (show 4 ≤ 8 by decide)
  have hr3 := hr8.mono (show 3 ≤ 8 by decide)
  have hr2 := hr8.mono (show 2 ≤ 8 by decide)
  have hr1 := hr8.mono (show 1 ≤ 8 by decide)
  have hr := hr8
  refine ⟨_, (pss_cons (ps_set (i := 7) scE.nd rfl (.inl rfl) (pe_tup (pa_cons (pe_call dLT.ok hr5 (by rfl) dLT.gl dLT.kp dLT.bi .nil passX0 (pa_cons (pv 4) (pa_cons (pe_lc (own := [("_law_row_here", 8)]) (g := gName 8) (tt := tYes) (te := tCall (spMkc Cs CE) [] E0 (tCons (tVar 8) tNil)) rfl scE.nd (pi_list (pv 5)) (blkOk_by (N := ["_law_hand_here", "_law_good", "_law_one", "_law_other", "_law_source", "_law_left", "_law_right", "_law_takes", "_law_row_here", "_law_bars", "_law_turned"]) (sc := defScope sEqual) (by decide +kernel)) (fun _ _ _ _ _ => pg_name (i := 8) scE.nd rfl (Or.inl rfl)) (fun _ _ _ _ _ => pts_nil) (fun _ _ _ _ _ => (pe_call dM.ok hr5 (by rfl) dM.gl dM.kp dM.bi .nil passX0 (pa_cons (pv 8) pa_nil)))) pa_nil))) (pa_cons (pe_call dLT.ok hr5 (by rfl) dLT.gl dLT.kp dLT.bi .nil passX0 (pa_cons pe_str (pa_cons (pe_lc (own := [("_law_row_here", 8)]) (g := gName 8) (tt := tYes) (te := tCall (spMkc Cs CE) [] E0 (tCons (tVar 8) tNil)) rfl scE.nd (pi_list (pv 6)) (blkOk_by (N := ["_law_hand_here", "_law_good", "_law_one", "_law_other", "_law_source", "_law_left", "_law_right", "_law_takes", "_law_row_here", "_law_bars", "_law_turned"]) (sc := defScope sEqual) (by decide +kernel)) (fun _ _ _ _ _ => pg_name (i := 8) scE.nd rfl (Or.inl rfl)) (fun _ _ _ _ _ => pts_nil) (fun _ _ _ _ _ => (pe_call dM.ok hr5 (by rfl) dM.gl dM.kp dM.bi .nil passX0 (pa_cons (pv 8) pa_nil)))) pa_nil))) pa_nil))))
    (pss_cons (ps_if (pt_cmpR op_ne (pe_cmpR (op_eqI TE.ok TE.ne.eq TE.ne.fn TE.bi pass0 hr3) (pe_ix ix_tup (pv 7) pe_int (fun _ _ => rfl)) (pe_ix ix_tup (pv 7) pe_int (fun _ _ => rfl)) (nomark _)) (pe_and (pe_cmpR op_eq (pv 4) pe_str (nomark _)) (pe_one (pe_cmpR (op_eqD hr.units) (pv 5) (pv 6) (nomark _)))) (nomark _))
      (pss_one (ps_ret pe_bl))
      pss_nil)
    (pss_cons (ps_set (i := 9) scE.nd rfl (.inl rfl) (pe_slice sl_list (pe_lst (pa_cons pe_str (pa_cons pe_str (pa_cons pe_str pa_nil)))) po_none (po_some (pe_call dD.ok hr2 (by rfl) dD.gl dD.kp dD.bi .nil pass0 (pa_cons (pv 0) (pa_cons pe_int pa_nil))))))
    (pss_cons (ps_set (i := 10) scE.nd rfl (.inl rfl) (pe_ifExp (pt_cmpR op_eq (pe_call dD.ok hr2 (by rfl) dD.gl dD.kp dD.bi .nil pass0 (pa_cons (pv 0) (pa_cons pe_int pa_nil))) pe_int (nomark _)) (pv 9) (pe_revL (pv 9))))
    (pss_cons (ps_if (pt_cmpR op_ne (pe_cmpR (op_eqI FE.ok FE.ne.eq FE.ne.fn FE.bi pass0 hr3) (pe_call dLF.ok hr5 (by rfl) dLF.gl dLF.kp dLF.bi .nil passX0 (pa_cons (pv 9) pa_nil)) (pe_call dLF.ok hr5 (by rfl) dLF.gl dLF.kp dLF.bi .nil passX0 (pa_cons (pv 10) pa_nil)) (nomark _)) (pe_cmpR (op_eqD hr.units) (pv 9) (pv 10) (nomark _)) (nomark _))
      (pss_one (ps_ret pe_bl))
      pss_nil)
    (pss_one (ps_ret (pe_and (pe_cmpR (op_neB FE.ok FE.ne FE.bi hr4) (pe_call dLF.ok hr5 (by rfl) dLF.gl dLF.kp dLF.bi .nil passX0 (pa_cons (pv 9) pa_nil)) (pe_ix ix_tup (pv 7) pe_int (fun _ _ => rfl)) (nomark _)) (pe_and (pe_cmpR (op_neB TE.ok TE.ne TE.bi hr4) (pe_ix ix_tup (pv 7) pe_int (fun _ _ => rfl)) (pv 4) (nomark _)) (pe_one (pe_cmpR (op_neCnd hQ hN hr2) (pe_call dM.ok hr5 (by rfl) dM.gl dM.kp dM.bi .nil passX0 (pa_cons (pv 2) pa_nil)) (pv 2) (nomark _)))))))))))), ?_⟩
  rintro σ H T' p l L R z v1 r1 usL usR rsL rsR x1 x3 x7 x8 x9 x10 rfl hp hz hs d1 f1 hL hR l4 r4 q
  refine seq_of (asg_of (tup_of (cons_of ?_)))
  refine mk_take (A := tVar 4) (fun Q q => ⟨_, rfl, q⟩) hI hz hs rfl hL l4 (fun _ => rfl) (fun _ => rfl) fun H2 a ys1 s12 hTa hC1 => ?_
  refine cons_of ?_
  refine mk_take (A := tC (.str "f")) (z := "f") (fun Q q => q) hI (by decide +kernel) (by decide +kernel) rfl (hR.same s12) r4 (fun _ => rfl) (fun _ => rfl) fun H4 b ys2 s24 hTb hC2 => ?_
  refine ⟨(by show 2 ≤ sizeLine; decide), fun t nt => ?_⟩
  dsimp only [gName]
  have st := same_upd (o := .tup [V.ref a, .ref b]) nt
  have s0t := (s12.trans s24).trans st
  have hTa' := (hTa.same s24).same st
  have hTb' := hTb.same st
  have hCa := (hC1.same s24).same st
  have hCb := hC2.same st
  have ht : upd H4 t (.tup [V.ref a, .ref b]) t = some (.tup [V.ref a, .ref b]) := upd_same
  generalize upd H4 t (.tup [V.ref a, .ref b]) = H5 at s0t hTa' hTb' hCa hCb ht ⊢
  have hL5 := hL.same s0t
  have hR5 := hR.same s0t
  have hp5 := hp.same s0t
  obtain ⟨dxa, tpa, hxa, hta⟩ := hTa'
  obtain ⟨dxb, tpb, hxb, htb⟩ := hTb'
  refine op_of (op_of (ixi (i := 7) (j := 0) rfl ht rfl (ixi (i := 7) (j := 1) rfl ht rfl ⟨a, dxa, _, .ref CT, rfl, hxa, .ins hxb, nfT, ?_⟩)))
  refine ⟨a, dxa, tpa, z, ys1, rsL, .ref b, rfl, hxa, hta, hCa, .inl ⟨b, dxb, tpb, "f", ys2, rsR, rfl, hxb, htb, hCb, fun H6 s6 => ⟨_, rfl, ?_⟩⟩⟩
  have hL6 := hL5.same s6
  have hR6 := hR5.same s6
  have hp6 := hp5.same s6
  have es : decide (V.str z = V.str "f") = decide (z = "f") := decide_eq_decide.mpr ⟨fun h => by injection h, fun h => by rw [h]⟩
  have next : ∀ Q2 : VK, (∀ c, (decide (z = "f") && PyData.eqvAll (rsL.map r8D) (rsR.map r8D)) = c → Q2 (.bl c) H6) → tAndV (tOp rEq (tVar 4) (tC (.str "f"))) (tOp (rEqD K) (tVar 5) (tVar 6)) [some (.ref p), x1, some v1, x3, some (.str z), some (.ref L), some (.ref R), some (.ref t), none, x9, x10] H6 Q2 := fun Q2 q2 => by
    refine ⟨_, rfl, rfl, _, rfl, ?_⟩
    rw [es]
    refine ite2 (fun g => ?_) (fun g => ?_)
    · refine ⟨_, rfl, _, rfl, _, _, (Dt.lst (S := Any) trivial hL6.at_ hL6.all).dp, (Dt.lst (S := Any) trivial hR6.at_ hR6.all).dp, hL6.shaped, hR6.shaped, q2 _ ?_⟩
      rw [g]
      rfl
    · refine q2 _ ?_
      rw [Bool.eq_false_iff.mpr g]
      rfl
  refine next _ fun c ec => bl_ne ec ⟨_, rfl, iteF (tNext_of ?_)⟩
  have ht6 := s6 _ _ ht
  have hxa6 := s6 _ _ hxa
  have hta6 := s6 _ _ hta
  have hCa6 := hCa.same s6
  have k06 : Kept p H H6 := Kept.same (s0t.trans s6)
  dsimp only
  refine seq_of (asg_of (bars_cut (p := p) (l := l) rfl hp6 fun H7 bb n k7 hp7 nbb hB => ?_))
  dsimp only [gName]
  refine seq_of (asg_of (turned_run (p := p) (l := l) rfl rfl hp7 nbb hB fun H8 tt ws k8 hp8 hW wl wm => ?_))
  dsimp only [gName]
  have hB8 : StrsAt H8 bb _ := ⟨k8 _ _ nbb hB.at_, hB.ok⟩
  have fine : ∀ y ∈ (([("f" : Str), ("living" : Str), ("m.1" : Str)] : List Str).take n), barV (.str y) = true := fun y hy => by
    have z : ((([("f" : Str), ("living" : Str), ("m.1" : Str)] : List Str)).all fun y => barV (.str y)) = true := by decide +kernel
    exact List.all_eq_true.mp z y (List.mem_of_mem_take hy)
  have few : (([("f" : Str), ("living" : Str), ("m.1" : Str)] : List Str).take n).length ≤ 4 := Nat.le_trans (List.length_take_le' _ _) (by show 3 ≤ 4; decide)
  generalize ([("f" : Str), ("living" : Str), ("m.1" : Str)] : List Str).take n = zs at hB hB8 fine few wl wm
  refine op_of (op_of (free_run (i := 9) rfl hB8 few fine fun H9 fa s9 _ hFa => free_run (i := 10) rfl (hW.same s9) (by omega) (fun w hw => fine w (wm w hw)) fun H10 fb s10 _ hFb => ?_))
  obtain ⟨dfa, tfa, hfa, htfa⟩ := hFa
  obtain ⟨dfb, tfb, hfb, htfb⟩ := hFb
  have hfa := s10 _ _ hfa
  have htfa := s10 _ _ htfa
  refine ⟨fa, dfa, _, .ref CF, rfl, hfa, .ins hfb, nfF, fa, dfa, tfa, zs, .ref fb, rfl, hfa, htfa, hB8.ok, .inl ⟨fb, dfb, tfb, ws, rfl, hfb, htfb, hW.ok, ⟨_, rfl, ?_⟩⟩⟩
  have s910 := s9.trans s10
  have hB10 := hB8.same s910
  have hW10 := hW.same s910
  refine ⟨_, rfl, _, rfl, _, _, hB10.dt.dp, hW10.dt.dp, hB10.shaped, hW10.shaped, bl_ne rfl ⟨_, rfl, iteF (tNext_of ?_)⟩⟩
  have klH : Kl H6 H10 := ((Kl.kept hp6 k7).trans (Kl.kept hp7 k8)).trans (Kl.same s910)
  have nl : ∀ {x : Addr} {o : HO}, H6 x = some o → (∀ xs, o ≠ .lst xs) → H10 x = some o := fun e n => klH _ _ e n
  have ht10 := nl ht6 fun _ z => by cases z
  have hxa10 := nl hxa6 fun _ z => by cases z
  have hta10 := nl hta6 fun _ z => by cases z
  have k10 : Kept p H H10 := ((k06.trans k7).trans k8).trans (Kept.same s910)
  have hp10 := hp8.same s910
  have d10 : Dt (Np p) H10 v1 (r8D r1) := d1.np_kept k10
  have hCa10 : CndsAt Cs H10 ys1 rsL := ⟨hCa6.len, fun i y r e1 e2 => by
    have hc := hCa6.all i y r e1 e2
    have hok := hCa6.ok _ (List.mem_of_getElem? e2)
    have il : i < usL.length := by rw [hL.len]; exact (List.getElem?_eq_some_iff.mp e2).1
    obtain ⟨d, ed, hd⟩ := hL.all.get (List.getElem?_eq_getElem il)
    rw [List.getElem?_map, e2] at ed
    obtain rfl := Option.some.inj ed
    exact cnd_of (CndR.kl (cnd_at hc hok) klH) hd hok, hCa6.ok⟩
  dsimp only
  refine free_run (i := 9) rfl hB10 few fine fun H11 fc s11 _ hFc => ?_
  obtain ⟨dfc, tfc, hfc, htfc⟩ := hFc
  have hxa11 := s11 _ _ hxa10
  refine ixi (i := 7) (j := 0) rfl (s11 _ _ ht10) rfl ⟨fc, dfc, _, .ref CT, rfl, hfc, .ins hxa11, nfFT, fc, dfc, tfc, zs, .ref a, rfl, hfc, htfc, hB10.ok, .inr ⟨.ins hxa11 neFT mkF mkT, _, rfl, _, rfl, iteT ?_⟩⟩
  refine ixi (i := 7) (j := 0) rfl (s11 _ _ ht10) rfl ⟨_, rfl, a, dxa, _, .type "str", rfl, hxa11, .str z, nfS, a, dxa, tpa, z, ys1, rsL, .str z, rfl, hxa11, s11 _ _ hta10, hCa10.same s11, .inr ⟨.str z, _, rfl, _, rfl, iteT ?_⟩⟩
  refine mk_cnd rfl (d10.same s11) f1 fun H12 y s12 hcy => ⟨_, rfl, r1, ?_⟩
  obtain ⟨t1, us1, rfl, ht1⟩ := r8_tup ((d10.same s11).same s12)
  have sE := s11.trans s12
  exact ⟨t1, us1, hcy, f1, rfl, ht1, q _ (k10.trans (Kept.same sE)) (hp10.same sE)⟩
theorem ok_equ {f CT CF CC CE CE2 fD fP fM fLT fLF fTE fFE : Addr} {fd fdD fdP fdM fdLT fdLF fdTE fdFE : FuncData} {Cs : C6} (F : FnP K "_law_equal" sEqual f fd)
    (dD : Df P w K mg base "_law_draw" 2 ["_law_hand_here", "_law_many"] spDr fD fdD) (dP : Df P w K mg base "_law_pick" 3 ["_law_hand_here", "_law_things"] spPk fP fdP) (dM : DfX P w K mg base "_law_make_condition" 5 ["_law_row_here"] (spMkc Cs CE) fM fdM)
    (dLT : DfX P w K mg base "_law_take" 5 ["_law_source", "_law_made"] (spLTk K CT CC CE2) fLT fdLT) (dLF : DfX P w K mg base "_law_free" 5 ["_law_bars"] (spLFr CF CE2) fLF fdLF)
    (hQ : CndEq P w K mg base Cs) (hN : CndNe K Cs) (hI : ∀ C ∈ Cs.all, ClsI K CC true C) (TE : EqC P w K mg base CT 3 (spTakE K Cs CT) fTE fdTE) (FE : EqC P w K mg base CF 3 (spFreE K CF) fFE fdFE)
    (nfT : PySem.W.notFirst K CT (.ref CT) = true) (nfF : PySem.W.notFirst K CF (.ref CF) = true) (nfFT : PySem.W.notFirst K CF (.ref CT) = true) (nfS : PySem.W.notFirst K CT (.type "str") = true) (neFT : CF ≠ CT) (mkF : PySem.W.makesIn K CF = true) (mkT : PySem.W.makesIn K CT = true) : FnOk P w K mg base CX0 9 f fd ["_law_hand_here", "_law_good"] spTkr := by
  refine F.ok scE (fun vs H Q E h => ?_) (fun cdv A outer s H vs Q E hr8 h => ?_)
  · obtain ⟨p, l, g, us, rs, rfl, _⟩ := h
    rfl
  · obtain ⟨p, l, g, us, rs, rfl, hp, hg, u0, u1, q⟩ := h
    have hr5 := hr8.mono (show 5 ≤ 8 by decide)
    have hr4 := hr8.mono (show 4 ≤ 8 by decide)
    have hr3 := hr8.mono (show 3 ≤ 8 by decide)
    have hr2 := hr8.mono (show 2 ≤ 8 by decide)
    have hr1 := hr8.mono (show 1 ≤ 8 by decide)
    have hr := hr8
    obtain ⟨u5, p5, r5⟩ := tEquR (f := f) (cdv := cdv) (outer := outer) (H0 := H) (E := E) (A := A) (s0 := s) hr8 dD dM dLT dLF hQ hN hI TE FE nfT nfF nfFT nfS neFT mkF mkT
    refine ⟨_, PSs.nox (pss_cons (ps_par (i := 2) (j := 3) rfl scE.nd rfl rfl (by decide) rfl rfl (pa_cons (pe_call dP.ok hr3 (by rfl) dP.gl dP.kp dP.bi .nil pass0 (pa_cons (pv 0) (pa_cons (pv 1) pa_nil))) (pa_cons (pe_call dP.ok hr3 (by rfl) dP.gl dP.kp dP.bi .nil pass0 (pa_cons (pv 0) (pa_cons (pv 1) pa_nil))) pa_nil)) rfl)
    (pss_cons (ps_if (pt_cmpR op_ne (pe_cmpR (op_eqB (rcB_cnd hQ pass0) hr1) (pe_call dM.ok hr5 (by rfl) dM.gl dM.kp dM.bi .nil passX0 (pa_cons (pv 2) pa_nil)) (pe_call dM.ok hr5 (by rfl) dM.gl dM.kp dM.bi .nil passX0 (pa_cons (pv 3) pa_nil)) (nomark _)) (pe_cmpR (op_eqD hr.units) (pv 2) (pv 3) (nomark _)) (nomark _))
      (pss_one (ps_ret pe_bl))
      pss_nil)
    (pss_cons (ps_set (i := 4) scE.nd rfl (.inl rfl) (pe_call dP.ok hr3 (by rfl) dP.gl dP.kp dP.bi .nil pass0 (pa_cons (pv 0) (pa_cons (pe_lst (pa_cons pe_str (pa_cons pe_str pa_nil))) pa_nil))))
    (pss_cons (ps_set (i := 5) scE.nd rfl (.inl rfl) (pe_slice sl_list (pe_lst (pa_cons (pv 2) (pa_cons (pv 3) pa_nil))) po_none (po_some (pe_call dD.ok hr2 (by rfl) dD.gl dD.kp dD.bi .nil pass0 (pa_cons (pv 0) (pa_cons pe_int pa_nil))))))
    (pss_cons (ps_set (i := 6) scE.nd rfl (.inl rfl) (pe_ix ix_list (pe_lst (pa_cons (pe_lst (pa_cons (pv 2) (pa_cons (pv 3) pa_nil))) (pa_cons (pe_lst (pa_cons (pv 3) (pa_cons (pv 2) pa_nil))) (pa_cons (pe_lst (pa_cons (pv 2) pa_nil)) (pa_cons (pv 5) pa_nil))))) (pe_call dD.ok hr2 (by rfl) dD.gl dD.kp dD.bi .nil pass0 (pa_cons (pv 0) (pa_cons pe_int pa_nil))) (fun _ _ => rfl)))
    p5))))), ?_⟩
    refine pick_row (p := p) (l := l) rfl rfl hp hg u0 u1 fun v1 r1 H1 f1 d1 k1 hp1 => ?_
    refine pick_row (p := p) (l := l) rfl rfl hp1 (hg.kept k1) u0 u1 fun v2 r2 H2 f2 d2 k2 hp2 => ⟨_, _, rfl, ?_⟩
    have d12 := d1.np_kept k2
    refine op_of (op_of (mk_cnd rfl d12 f1 fun H3 x s3 hc1 => mk_cnd rfl (d2.same s3) f2 fun H4 y s4 hc2 => ⟨PyData.eqv (r8D r1) (r8D r2), ⟨r1, r2, hc1.same s4, hc2, f1, f2, rfl⟩, fun H5 e5 => ?_⟩))
    have s25 : Same H2 H5 := (s3.trans s4).trans e5
    have d15 := d12.same s25
    have d25 := d2.same s25
    refine ⟨_, rfl, _, rfl, _, _, d15.dp, d25.dp, r8_shaped d15 f1, r8_shaped d25 f2, bl_ne rfl ⟨_, rfl, iteF (tNext_of ?_)⟩⟩
    have hp5 := hp2.same s25
    have k05 := (k1.trans k2).trans (Kept.same s25)
    dsimp only
    refine seq_of (asg_of (pick_menu (j := 0) (p := p) (l := l) (ds := [.str "f", .str "m.0"]) rfl hp5 (deL (daK (deS (by decide +kernel)) (daK (deS (by decide +kernel)) daN)) (by decide)) (by decide) (by decide) fun sv sd H6 hd hv k6 hp6 => ?_))
    obtain ⟨z, rfl, hz, hs⟩ : ∃ z : Str, sv = .str z ∧ okS z = true ∧ srcV (.str z) = true := by
      simp only [List.mem_cons, List.not_mem_nil, or_false] at hd
      rcases hd with rfl | rfl
      · cases hv with
        | str x _ _ => exact ⟨_, rfl, by decide +kernel, by decide +kernel⟩
      · cases hv with
        | str x _ _ => exact ⟨_, rfl, by decide +kernel, by decide +kernel⟩
    dsimp only [gName]
    have d16 := d15.np_kept k6
    have d26 := d25.np_kept k6
    have k06 := k05.trans k6
    refine seq_of (asg_of ?_)
    refine ⟨_, rfl, _, rfl, (by show 2 ≤ sizeLine; decide), fun a na => ?_⟩
    have sa := same_upd (o := .lst [v1, v2]) na
    refine draw_lt (p := p) (l := l) rfl (hp6.same sa) (by decide) (by decide +kernel) fun n H7 n3 k7 hp7 => ⟨_, rfl, a, _, rfl, SqL.of (k7 _ _ (hp6.nn na) upd_same), fun b nb => ?_⟩
    rw [cut_toA]
    have sb := same_upd (o := .lst ([v1, v2].take n)) nb
    have k68 := ((Kept.same sa).trans k7).trans (Kept.same sb)
    have d18 := d16.np_kept k68
    have d28 := d26.np_kept k68
    have hp8 := hp7.same sb
    have nbp : b ≠ p := hp7.nn nb
    have hb : upd H7 b (.lst ([v1, v2].take n)) b = some (.lst ([v1, v2].take n)) := upd_same
    have k08 := k06.trans k68
    generalize upd H7 b (.lst ([v1, v2].take n)) = H8 at d18 d28 hp8 hb k08 ⊢
    have hB : RowsP p H8 b ([v1, v2].take n) ([r1, r2].take n) := ⟨nbp, hb, by
      rw [List.map_take]
      exact (DtAll.cons d18 (.cons d28 .nil)).take n, fun r hr => by
      have := List.mem_of_mem_take hr
      simp only [List.mem_cons, List.not_mem_nil, or_false] at this
      rcases this with rfl | rfl
      · exact f1
      · exact f2⟩
    have l2 : ([v1, v2].take n).length ≤ 4 := Nat.le_trans (List.length_take_le' _ _) (by show 2 ≤ 4; decide)
    dsimp only [gName]
    refine seq_of (asg_of (op_of (lst_of ?_)))
    refine cons_of ⟨_, rfl, _, rfl, (by show 2 ≤ sizeLine; decide), fun a1 n1 => ?_⟩
    refine cons_of ⟨_, rfl, _, rfl, (by show 2 ≤ sizeLine; decide), fun a2 n2 => ?_⟩
    refine cons_of ⟨_, rfl, (by show 1 ≤ sizeLine; decide), fun a3 n3 => ?_⟩
    refine ⟨_, rfl, (by show 4 ≤ sizeLine; decide), fun a4 n4 => ?_⟩
    have s1 := same_upd (o := .lst [v1, v2]) n1
    have s2 := same_upd (o := .lst [v2, v1]) n2
    have s3' := same_upd (o := .lst [v1]) n3
    have s4' := same_upd (o := .lst [V.ref a1, .ref a2, .ref a3, .ref b]) n4
    have s89 := ((s1.trans s2).trans s3').trans s4'
    have hp9 := hp8.same s89
    have nn1 : a1 ≠ p := hp8.nn n1
    have nn2 : a2 ≠ p := (hp8.same s1).nn n2
    have nn3 : a3 ≠ p := ((hp8.same s1).same s2).nn n3
    have nn4 : a4 ≠ p := (((hp8.same s1).same s2).same s3').nn n4
    have d19 := d18.same s89
    have d29 := d28.same s89
    have hB9 := hB.kept (Kept.same s89)
    have f12 : ∀ r ∈ [r1, r2], fltR r = none := fun r hr => by
      simp only [List.mem_cons, List.not_mem_nil, or_false] at hr
      rcases hr with rfl | rfl
      · exact f1
      · exact f2
    have hR1 : RowsP p _ a1 [v1, v2] [r1, r2] := ⟨nn1, ((s2.trans s3').trans s4') _ _ upd_same, .cons d19 (.cons d29 .nil), f12⟩
    have hR2 : RowsP p _ a2 [v2, v1] [r2, r1] := ⟨nn2, (s3'.trans s4') _ _ upd_same, .cons d29 (.cons d19 .nil), fun r hr => f12 r (by simp only [List.mem_cons, List.not_mem_nil, or_false] at hr ⊢; exact hr.symm)⟩
    have hR3 : RowsP p _ a3 [v1] [r1] := ⟨nn3, s4' _ _ upd_same, .cons d19 .nil, fun r hr => f12 r (by simp only [List.mem_cons, List.not_mem_nil, or_false] at hr ⊢; exact .inl hr)⟩
    have h4 : upd (upd (upd (upd H8 a1 (.lst [v1, v2])) a2 (.lst [v2, v1])) a3 (.lst [v1])) a4 (.lst [V.ref a1, .ref a2, .ref a3, .ref b]) a4 = some (.lst [V.ref a1, .ref a2, .ref a3, .ref b]) := upd_same
    have k09 := k08.trans (Kept.same s89)
    generalize upd (upd (upd (upd H8 a1 (.lst [v1, v2])) a2 (.lst [v2, v1])) a3 (.lst [v1])) a4 (.lst [V.ref a1, .ref a2, .ref a3, .ref b]) = H9 at hp9 d19 d29 hB9 hR1 hR2 hR3 h4 k09 ⊢
    refine draw_lt (p := p) (l := l) rfl hp9 (by decide) (by decide +kernel) fun m H10 m4 k10 hp10 => ?_
    have k010 := k09.trans k10
    have d10 := d19.np_kept k10
    have fin : ∀ (T' : Ends) (R : Addr) (usR : List V) (rsR : List R8), T'.rt = Q → RowsP p H9 R usR rsR → usR.length ≤ 4 → u5 T' [some (.ref p), some (.ref g), some v1, some v2, some (.str z), some (.ref b), some (.ref R), none, none, none, none] H10 := fun T' R usR rsR eT hR lR =>
      r5 _ H10 T' p l b R z v1 r1 _ usR _ rsR _ _ _ _ _ _ rfl hp10 hz hs d10 f1 (hB9.kept k10).rows (hR.kept k10).rows l2 lR fun H11 k11 hp11 => by rw [eT]; exact q H11 (k010.trans k11) hp11
    have h4' := k10 _ _ nn4 h4
    have m4 : m < 4 := by omega
    match m, m4 with
    | 0, _ => exact ⟨a4, _, _, _, rfl, rfl, SqL.of h4', atI_nat (j := 0) rfl, fin _ a1 _ _ rfl hR1 (by show 2 ≤ 4; decide)⟩
    | 1, _ => exact ⟨a4, _, _, _, rfl, rfl, SqL.of h4', atI_nat (j := 1) rfl, fin _ a2 _ _ rfl hR2 (by show 2 ≤ 4; decide)⟩
    | 2, _ => exact ⟨a4, _, _, _, rfl, rfl, SqL.of h4', atI_nat (j := 2) rfl, fin _ a3 _ _ rfl hR3 (by show 1 ≤ 4; decide)⟩
    | 3, _ => exact ⟨a4, _, _, _, rfl, rfl, SqL.of h4', atI_nat (j := 3) rfl, fin _ b _ _ rfl hB9 l2⟩
    | m + 4, h => exact absurd h (by omega)
end
end K08

/-! C(k = v, ..) of a plain __init__; conditions made of written parts; != of two conditions -/
namespace K08
open PySem PySem.Spec PyProof.Rows L2
section
variable {K : PySem.W.Frag} {x qual : Str} {params : Arguments} {body : List Stmt} {scope : Scope} {f : Addr} {fd : FuncData} {ps : List Str}
theorem kbindsN (F : FunD K x qual params body scope [] [] f fd) (n : Nat) (ks : List Str)
    (h : ∀ (kV doc pm : Value) (an : Option Addr) (cdv ct : Value) (us ws : List Value), us.length = n → ws.length = ks.length → bindArgs (PySem.W.fnOf x qual params body scope .none kV doc pm an cdv ct) ⟨us, ks.zip ws⟩ = pure (ps.zip (us ++ ws))) : KBn K fd ps n ks (fun us ws => us ++ ws) (fun vs zs => vs ++ zs) := by
  obtain ⟨oc, od, dV, kV, doc, pm, an, cdv, ct, osl, rfl, lk, hcd, hD, hK⟩ := F.ex
  rcases hD with ⟨_, rfl⟩ | ⟨e, _⟩
  · exact ⟨fun s us ws X l1 l2 => .of_eq (h kV doc pm an cdv ct us ws l1 l2), fun r1 r2 => r1.append r2⟩
  · exact absurd rfl e
end
theorem ini_run {C CE : Addr} {n : Nat} {ok : List V → Bool} {fs : List V → List (Str × V)} {z : Str} {us : List V} {H : Hp} {Q : VK} {E : XK} (hl : us.length = n) (ho : ∀ u ∈ us, ∃ t, Odd H u t) (hk : ok us = true) (q : ∀ (H' : Hp) (x dx : Addr), Same H H' → H' x = some (.ins C dx (fs us)) → Q (.ref x) H') :
    ∀ x dx, H x = none → H dx = none → dx ≠ x → spIni C CE n fs ok z (.ref x :: us) (upd (upd H dx (.own x)) x (.ins C dx [])) (fun v H2 => v = .non ∧ Q (.ref x) H2) E := by
  intro x dx nx nd ne
  refine ⟨x, dx, us, rfl, hl, upd_same, fun u h => ?_, fun h H' hx k => ⟨rfl, q H' x dx (same_mk nx nd k) hx⟩, fun h => by rw [hk] at h; cases h⟩
  obtain ⟨t, o⟩ := ho u h
  exact ⟨t, o.same (same_ins nx nd ne)⟩
section
variable {C CE : Addr} {ok : List V → Bool} {fs : List V → List (Str × V)} {z : Str} {u u2 : V} {t t2 : String} {σ : L2.St} {H : Hp} {Q : VK}
theorem mkK1 (o : Odd H u t) (hk : ok [u] = true) (q : ∀ (H' : Hp) (x dx : Addr), Same H H' → H' x = some (.ins C dx (fs [u])) → Q (.ref x) H') : tMakeK C 0 1 (spIni C CE 1 fs ok z) (fun vs zs => vs ++ zs) E0 tNil (tCons (tC u) tNil) σ H Q :=
  ⟨rfl, rfl, ini_run (Q := Q) (us := [u]) rfl (fun v hv => by rw [List.mem_singleton.mp hv]; exact ⟨t, o⟩) hk q⟩
theorem mkK2 (o : Odd H u t) (o2 : Odd H u2 t2) (hk : ok [u, u2] = true) (q : ∀ (H' : Hp) (x dx : Addr), Same H H' → H' x = some (.ins C dx (fs [u, u2])) → Q (.ref x) H') : tMakeK C 0 2 (spIni C CE 2 fs ok z) (fun vs zs => vs ++ zs) E0 tNil (tCons (tC u) (tCons (tC u2) tNil)) σ H Q :=
  ⟨rfl, rfl, ini_run (Q := Q) (us := [u, u2]) rfl (fun v hv => by
    simp only [List.mem_cons, List.not_mem_nil, or_false] at hv
    rcases hv with rfl | rfl
    · exact ⟨t, o⟩
    · exact ⟨t2, o2⟩) hk q⟩
theorem mkS1 (o : Odd H u t) (hk : ok [u] = true) (q : ∀ (H' : Hp) (x dx : Addr), Same H H' → H' x = some (.ins C dx (fs [u])) → Q (.ref x) H') : tMakeS C (spIni C CE 1 fs ok z) (fun _ => E0) (tCons (tC u) tNil) σ H Q :=
  ini_run (Q := Q) (us := [u]) rfl (fun v hv => by rw [List.mem_singleton.mp hv]; exact ⟨t, o⟩) hk q
theorem mkS2 (o : Odd H u t) (o2 : Odd H u2 t2) (hk : ok [u, u2] = true) (q : ∀ (H' : Hp) (x dx : Addr), Same H H' → H' x = some (.ins C dx (fs [u, u2])) → Q (.ref x) H') : tMakeS C (spIni C CE 2 fs ok z) (fun _ => E0) (tCons (tC u) (tCons (tC u2) tNil)) σ H Q :=
  ini_run (Q := Q) (us := [u, u2]) rfl (fun v hv => by
    simp only [List.mem_cons, List.not_mem_nil, or_false] at hv
    rcases hv with rfl | rfl
    · exact ⟨t, o⟩
    · exact ⟨t2, o2⟩) hk q
theorem mkB (q : ∀ (H' : Hp) (x dx : Addr), Same H H' → H' x = some (.ins C dx []) → Q (.ref x) H') : tBare C σ H Q := fun x dx nx nd ne => q _ x dx (same_ins nx nd ne) upd_same
end
theorem op_neC2 {X : Cx} {Cs : C6} (hQ : CndEq X.prog X.w X.K X.mg X.base Cs) (hN : CndNe X.K Cs) (hr : Room 2 X.A) : OpR X (compareOp .NotEq) (fun x y H Q => ∃ (r s : R8), Cnd Cs H x r ∧ fltR r = none ∧ Cnd Cs H y s ∧ fltR s = none ∧ Q (.bl (!PyData.eqv (r8D r) (r8D s))) H) := by
  intro pins st σ H x y u v Q I rx ry h
  obtain ⟨r, s, hc, hf, hc2, hf2, q⟩ := h
  obtain ⟨a, dx, rfl, ha⟩ := cnd_at hc hf
  obtain ⟨b, dy, rfl, hb'⟩ := cnd_at hc2 hf2
  have k6 := k8_lt r
  obtain ⟨f, fd, F, hs, hfn, hb⟩ := hQ.eq _ k6
  refine op_neB F ⟨hN.ne _ k6, hs, hfn, hN.ob _ k6⟩ hb hr pins st σ H _ _ u v Q I rx ry ⟨a, dx, _, _, rfl, ha, .ins hb', hQ.nf _ _ k6 (k8_lt s), a, dx, _, _, rfl, ha, fs_ns r, ?_⟩
  rw [e8_eq] at q
  by_cases hk : k8 r = k8 s
  · obtain ⟨g1, g2⟩ := e8_fs hf hf2 hk
    rw [decide_eq_true hk, Bool.true_and, g2] at q
    exact .inl ⟨b, dy, fsR s, rfl, by rw [hk]; exact hb', g1, _, rfl, q⟩
  · rw [decide_eq_false hk, Bool.false_and] at q
    exact .inr ⟨.ins hb' (fun z => hk (hQ.inj _ _ k6 (k8_lt s) z)) (hQ.mks _ k6) (hQ.mks _ (k8_lt s)), _, rfl, q⟩
end K08

/-! the law's own body -/
namespace K08
open PySem PySem.Spec PyProof.Rows L2
theorem seqIf_of {c : TT} {t u rest : TS} {D : Ends} {σ : L2.St} {H : Hp} (h : c σ H fun b H1 => if b = true then t { D with nx := rest D } σ H1 else u { D with nx := rest D } σ H1) : tSeq (tIfS c t u) rest D σ H := h
theorem or_of {t u : TT} {σ : L2.St} {H : Hp} {Q : Bool → Hp → Prop} (h : t σ H fun c H1 => if c = true then Q true H1 else u σ H1 Q) : tOr t u σ H Q := h
theorem test_of {e : TE} {σ : L2.St} {H : Hp} {Q : Bool → Hp → Prop} (h : e σ H fun x H1 => ∃ c, x = .bl c ∧ Q c H1) : tTest e σ H Q := h
theorem andV_of {a b : TE} {σ : L2.St} {H : Hp} {Q : VK} (h : a σ H fun x H1 => ∃ c, x = .bl c ∧ if c = true then b σ H1 Q else Q (.bl false) H1) : tAndV a b σ H Q := h
abbrev nmL : List Str := ["_law_script", "_law_hand_here", "_law_rows_here", "_law_k", "_law_row_here", "_law_good"]
theorem scL : FnScope nmL ["_law_script"] (defScope sLaw) := ⟨rfl, rfl, rfl, by decide +kernel, rfl, by decide +kernel, by decide +kernel⟩
def spLaw (K : PySem.W.Frag) : Sp := fun vs H Q _ => ∃ (a : Addr) (ns : List Int), vs = [.ref a] ∧ SqL K H a (ns.map V.int) ∧ ns.length ≤ 63 ∧ ∀ H', Q (.bl true) H'
abbrev mkN (Cs : C6) (CE : Addr) : Sp := spIni Cs.n CE 1 (fun us => [("n", us.getD 0 .non)]) (fun us => wholeV (us.getD 0 .non) 1 4) "number"
abbrev mkA (Cs : C6) (CE : Addr) : Sp := spIni Cs.a CE 1 (fun us => [("way", us.getD 0 .non)]) (fun us => wayV (us.getD 0 .non) 1 3) "way"
abbrev mkD (Cs : C6) (CE : Addr) : Sp := spIni Cs.d CE 1 (fun us => [("way", us.getD 0 .non)]) (fun us => wayV (us.getD 0 .non) 1 3) "way"
abbrev mkU (Cs : C6) (CE : Addr) : Sp := spIni Cs.u CE 2 (fun us => [("one", us.getD 0 .non), ("other", us.getD 1 .non)]) (fun us => srcV (us.getD 0 .non) && srcV (us.getD 1 .non)) "source"
theorem odd_s {H : Hp} (x : Str) (h : okS x = true) : Odd H (.str x) "str" := .str x (okS_len h) (Bool.and_eq_true_iff.mp h).2
abbrev kAp : List Value → List Value → List Value := fun us ws => us ++ ws
abbrev kApV : List V → List V → List V := fun vs zs => vs ++ zs
/-- any rows drawn -/
structure AnyL (p D : Addr) (i : Nat) (acc : List V) (H : Hp) : Prop where
  len : acc.length = i
  ex : ∃ rs : List R8, DtAll (fun a => a ≠ p ∧ a ≠ D) H acc (rs.map r8D)
theorem anyL_lc {p D : Addr} : LcR D (AnyL p D) := ⟨fun i acc H H' ys h e k => ⟨h.len, let ⟨rs, h1⟩ := h.ex; ⟨rs, h1.to (fun _ z => z) fun a o s e' => k a o s.2 e'⟩⟩, fun i acc H h => Nat.le_of_eq h.len⟩
theorem AnyL.add {p D : Addr} {i : Nat} {acc : List V} {H H' : Hp} {v : V} {r : R8} (h : AnyL p D i acc H) (k : Kept p H H') (hd : Dt (fun a => a ≠ p ∧ a ≠ D) H' v (r8D r)) : AnyL p D (i + 1) (acc ++ [v]) H' := by
  obtain ⟨rs, h1⟩ := h.ex
  refine ⟨by rw [List.length_append, h.len]; rfl, rs ++ [r], ?_⟩
  rw [List.map_append]
  exact (h1.kept (fun n => n.1 rfl) k).app (.cons hd .nil)
/-- the right ones -/
structure GoodL (p D : Addr) (i : Nat) (acc : List V) (H : Hp) : Prop where
  len : acc.length ≤ i
  ex : ∃ rs : List R8, DtAll (fun a => a ≠ p ∧ a ≠ D) H acc (rs.map r8D) ∧ ∀ r ∈ rs, fltR r = none
theorem goodL_lc {p D : Addr} : LcR D (GoodL p D) := ⟨fun i acc H H' ys h e k => ⟨h.len, let ⟨rs, h1, h2⟩ := h.ex; ⟨rs, h1.to (fun _ z => z) (fun a o s e' => k a o s.2 e'), h2⟩⟩, fun i acc H h => h.len⟩
theorem mE_row : MonoE (tCall spRow [] E0 (tCons (tVar 1) tNil)) := mE_call (fun vs H Q Q' h ⟨p, l, e, hp, q⟩ => ⟨p, l, e, hp, fun H' v r k1 k2 k3 k4 => h _ _ (q H' v r k1 k2 k3 k4)⟩) (mA_cons mE_var mA_nil)
theorem mT_flt : MonoT (tTest (tOp (fun x y H Q => y = V.non ∧ Q (.bl (decide (x = V.non))) H) (tCall spFlt [] E0 (tCons (tVar 4) tNil)) (tC .non))) :=
  mT_test (mE_op (mR_isN (f := fun x => .bl (decide (x = V.non)))) (mE_call (fun vs H Q Q' h ⟨v, r, e, hd, q⟩ => ⟨v, r, e, hd, fun H' s => h _ _ (q H' s)⟩) (mA_cons mE_var mA_nil)) mE_c)
section
variable {P : Program} {w : World} {K : PySem.W.Frag} {mg : Str → Option Value} {base : Heap}
theorem tLast {f CE f1 f2 f3 f4 : Addr} {fd1 fd2 fd3 fd4 : FuncData} {Cs : C6} {cdv : Value} {A : Around} {outer : List Env} {s0 : Shared} {H0 : Hp} {E : XK} (hr9 : Room 9 (A.deeper (envOfC "law" (defScope sLaw) s0.heap.objs.size f cdv)))
    (hQ : CndEq P w K mg base Cs) (hN : CndNe K Cs) (MN : MkI P w K mg base "Number" 3 ["self", "n"] (mkN Cs CE) Cs.n f1 fd1) (MA : MkI P w K mg base "Alive" 3 ["self", "way"] (mkA Cs CE) Cs.a f2 fd2) (MD : MkI P w K mg base "Dead" 3 ["self", "way"] (mkD Cs CE) Cs.d f3 fd3)
    (MU : MkI P w K mg base "Unlike" 3 ["self", "one", "other"] (mkU Cs CE) Cs.u f4 fd4) (MB : MkO K mg "Unborne" Cs.b) (MV : MkO K mg "Never" Cs.v)
    (kbN : KBn K fd1 ["self", "n"] 1 ["n"] kAp kApV) (kbA : KBn K fd2 ["self", "way"] 1 ["way"] kAp kApV) (kbD : KBn K fd3 ["self", "way"] 1 ["way"] kAp kApV) (kbU : KBn K fd4 ["self", "one", "other"] 1 ["one", "other"] kAp kApV) :
    ∃ u, PSs (cxOf CX0 P w K mg base nmL "law" (defScope sLaw) f cdv A outer s0 H0 E).nox ((defBody sLaw).drop 6) u ∧ ∀ (σ : L2.St) (H : Hp) (T : Ends), (∀ H', T.rt (.bl true) H') → u T σ H := by
  have hr4 := hr9.mono (show 4 ≤ 9 by decide)
  have hr2 := hr9.mono (show 2 ≤ 9 by decide)
  have hr1 := hr9.mono (show 1 ≤ 9 by decide)
  refine ⟨_, (pss_cons (ps_if (PW.pt (pw_or (pt_cmpR (op_neC2 hQ hN hr2) (pe_makeK0 MN.mks MN.ok hr4 (by rfl) MN.gl kbN passX0 (pk_cons pe_int pk_nil)) (pe_makeS MN.mks MN.ok hr4 (by rfl) MN.gl MN.bi (fun σ => passAt0 σ) (pa_cons pe_int pa_nil)) (nomark _)) (pw_or (pt_cmpR (op_eqB (rcB_cnd hQ pass0) hr1) (pe_makeK0 MD.mks MD.ok hr4 (by rfl) MD.gl kbD passX0 (pk_cons pe_str pk_nil)) (pe_makeK0 MA.mks MA.ok hr4 (by rfl) MA.gl kbA passX0 (pk_cons pe_str pk_nil)) (nomark _)) (pw_or1 (pt_cmpR (op_eqB (rcB_cnd hQ pass0) hr1) (pe_bare MV.bare (by rfl) MV.gl) (pe_bare MB.bare (by rfl) MB.gl) (nomark _))))))
      (pss_one (ps_ret pe_bl))
      pss_nil)
    (pss_one (ps_ret (pe_and (pe_cmpR (op_eqB (rcB_cnd hQ pass0) hr1) (pe_bare MV.bare (by rfl) MV.gl) (pe_bare MV.bare (by rfl) MV.gl) (nomark _)) (pe_one (pe_cmpR (op_neC2 hQ hN hr2) (pe_makeK0 MU.mks MU.ok hr4 (by rfl) MU.gl kbU passX0 (pk_cons pe_str (pk_cons pe_str pk_nil))) (pe_makeS MU.mks MU.ok hr4 (by rfl) MU.gl MU.bi (fun σ => passAt0 σ) (pa_cons pe_str (pa_cons pe_str pa_nil))) (nomark _))))))), ?_⟩
  intro σ H T q
  have of : okS "f" = true := by decide +kernel
  have om : okS "m" = true := by decide +kernel
  have wf : wayV (.str "f") 1 3 = true := by decide +kernel
  have sf : (srcV (.str "f") && srcV (.str "m")) = true := by decide +kernel
  have sm : (srcV (.str "m") && srcV (.str "f")) = true := by decide +kernel
  have dtf : ∀ {H : Hp}, Dt Any H (.str "f") (.str "f") := okS_dt of
  have dtm : ∀ {H : Hp}, Dt Any H (.str "m") (.str "m") := okS_dt om
  have fN : fltR (.num (.int 4)) = none := by decide +kernel
  have fD : fltR (.dead (.str "f")) = none := by decide +kernel
  have fA : fltR (.alive (.str "f")) = none := by decide +kernel
  have fU : fltR (.unl (.str "f") (.str "m")) = none := by decide +kernel
  have fU2 : fltR (.unl (.str "m") (.str "f")) = none := by decide +kernel
  refine seqIf_of (or_of (test_of (op_of ?_)))
  refine mkK1 (.int 4) (by decide) fun H1 x dx s1 hx => ?_
  refine mkS1 (.int 4) (by decide) fun H2 y dy s2 hy => ?_
  refine ⟨.num (.int 4), .num (.int 4), .num (s2 _ _ hx) (.int 4), fN, .num hy (.int 4), fN, _, rfl, ?_⟩
  rw [show (!PyData.eqv (r8D (.num (.int 4))) (r8D (.num (.int 4)))) = false by decide +kernel]
  refine iteF (or_of (test_of (op_of ?_)))
  refine mkK1 (odd_s _ of) wf fun H3 x3 dx3 s3 hx3 => ?_
  refine mkK1 (odd_s _ of) wf fun H4 y4 dy4 s4 hy4 => ?_
  refine ⟨_, ⟨.dead (.str "f"), .alive (.str "f"), .dead (s4 _ _ hx3) dtf, .alive hy4 dtf, fD, fA, rfl⟩, fun H5 e5 => ⟨_, rfl, ?_⟩⟩
  rw [show PyData.eqv (r8D (.dead (.str "f"))) (r8D (.alive (.str "f"))) = false by decide +kernel]
  refine iteF (test_of (op_of ?_))
  refine mkB fun H6 x6 dx6 s6 hx6 => ?_
  refine mkB fun H7 y7 dy7 s7 hy7 => ?_
  refine ⟨_, ⟨.never, .unborne, .never (s7 _ _ hx6), .unborne hy7, rfl, rfl, rfl⟩, fun H8 e8 => ⟨_, rfl, ?_⟩⟩
  rw [show PyData.eqv (r8D .never) (r8D .unborne) = false by decide +kernel]
  refine iteF (tNext_of ?_)
  dsimp only
  refine ret_of (andV_of (op_of ?_))
  refine mkB fun H9 x9 dx9 s9 hx9 => ?_
  refine mkB fun H10 y10 dy10 s10 hy10 => ?_
  refine ⟨_, ⟨.never, .never, .never (s10 _ _ hx9), .never hy10, rfl, rfl, rfl⟩, fun H11 e11 => ⟨_, rfl, ?_⟩⟩
  rw [show PyData.eqv (r8D .never) (r8D .never) = true by decide +kernel]
  refine iteT (op_of ?_)
  refine mkK2 (odd_s _ of) (odd_s _ om) sf fun H12 x12 dx12 s12 hx12 => ?_
  refine mkS2 (odd_s _ om) (odd_s _ of) sm fun H13 y13 dy13 s13 hy13 => ?_
  refine ⟨.unl (.str "f") (.str "m"), .unl (.str "m") (.str "f"), .unl (s13 _ _ hx12) dtf dtm, fU, .unl hy13 dtm dtf, fU2, ?_⟩
  rw [show (!PyData.eqv (r8D (.unl (.str "f") (.str "m"))) (r8D (.unl (.str "m") (.str "f")))) = true by decide +kernel]
  exact q _
theorem ok_law {f CE f1 f2 f3 f4 fH fD fP fW fR fCR fFl fTR fFR fEq : Addr} {fd fd1 fd2 fd3 fd4 fdH fdD fdP fdW fdR fdCR fdFl fdTR fdFR fdEq : FuncData} {Cs : C6} (F : FnP K "law" sLaw f fd) (z_range : mg "range" = none)
    (hQ : CndEq P w K mg base Cs) (hN : CndNe K Cs) (MN : MkI P w K mg base "Number" 3 ["self", "n"] (mkN Cs CE) Cs.n f1 fd1) (MA : MkI P w K mg base "Alive" 3 ["self", "way"] (mkA Cs CE) Cs.a f2 fd2) (MD : MkI P w K mg base "Dead" 3 ["self", "way"] (mkD Cs CE) Cs.d f3 fd3)
    (MU : MkI P w K mg base "Unlike" 3 ["self", "one", "other"] (mkU Cs CE) Cs.u f4 fd4) (MB : MkO K mg "Unborne" Cs.b) (MV : MkO K mg "Never" Cs.v)
    (kbN : KBn K fd1 ["self", "n"] 1 ["n"] kAp kApV) (kbA : KBn K fd2 ["self", "way"] 1 ["way"] kAp kApV) (kbD : KBn K fd3 ["self", "way"] 1 ["way"] kAp kApV) (kbU : KBn K fd4 ["self", "one", "other"] 1 ["one", "other"] kAp kApV)
    (dH : Df P w K mg base "_law_hand" 1 ["_law_script"] (spHand K) fH fdH) (dD : Df P w K mg base "_law_draw" 2 ["_law_hand_here", "_law_many"] spDr fD fdD) (dP : Df P w K mg base "_law_pick" 3 ["_law_hand_here", "_law_things"] spPk fP fdP) (dW : Df P w K mg base "_law_ways" 1 ["_law_least", "_law_most"] spWays fW fdW)
    (dR : Df P w K mg base "_law_row" 5 ["_law_hand_here"] spRow fR fdR) (dCR : Df P w K mg base "_law_condition_right" 7 ["_law_row_here"] spCnr fCR fdCR) (dFl : Df P w K mg base "_law_fault" 4 ["_law_row_here"] spFlt fFl fdFl)
    (dTR : Df P w K mg base "_law_take_right" 9 ["_law_hand_here", "_law_good"] spTkr fTR fdTR) (dFR : Df P w K mg base "_law_free_right" 9 ["_law_hand_here"] spFrr fFR fdFR) (dEq : Df P w K mg base "_law_equal" 9 ["_law_hand_here", "_law_good"] spTkr fEq fdEq) : FnOk P w K mg base CX0 10 f fd ["_law_script"] (spLaw K) := by
  refine F.ok scL (fun vs H Q E h => ?_) (fun cdv A outer s0 H vs Q E hr9 h => ?_)
  · obtain ⟨a, ns, rfl, _⟩ := h
    rfl
  · obtain ⟨a, ns, rfl, hS, hlen, q⟩ := h
    have hr7 := hr9.mono (show 7 ≤ 9 by decide)
    have hr5 := hr9.mono (show 5 ≤ 9 by decide)
    have hr4 := hr9.mono (show 4 ≤ 9 by decide)
    have hr3 := hr9.mono (show 3 ≤ 9 by decide)
    have hr2 := hr9.mono (show 2 ≤ 9 by decide)
    have hr1 := hr9.mono (show 1 ≤ 9 by decide)
    obtain ⟨u6, p6, r6⟩ := tLast (f := f) (cdv := cdv) (outer := outer) (H0 := H) (E := E) (A := A) (s0 := s0) hr9 hQ hN MN MA MD MU MB MV kbN kbA kbD kbU
    refine ⟨_, PSs.nox (pss_cons (ps_set (i := 1) scL.nd rfl (.inr rfl) (pe_call dH.ok hr1 (by rfl) dH.gl dH.kp dH.bi .nil pass0 (pa_cons (pv 0) pa_nil)))
    (pss_cons (ps_setLc (i := 2) (own := [("_law_k", 3)]) (g := gName 3) (tt := tYes) (te := tCall spRow [] E0 (tCons (tVar 1) tNil)) rfl scL.nd rfl rfl (sw_true rfl rfl rfl (by decide +kernel)) (pi_range1 (by rfl) z_range (pa_cons pe_int pa_nil)) (blkOk_by (N := ["_law_script", "_law_hand_here", "_law_rows_here", "_law_k", "_law_row_here", "_law_good"]) (sc := defScope sLaw) (by decide +kernel)) (fun _ _ _ _ _ => pg_name (i := 3) scL.nd rfl (Or.inl rfl)) (fun _ _ _ _ _ => pts_nil) (fun _ _ _ _ _ => (pe_call dR.ok hr5 (by rfl) dR.gl dR.kp dR.bi .nil pass0 (pa_cons (pv 1) pa_nil))))
    (pss_cons (ps_for PassesOwn.never rfl (pi_list (pv 2)) (pg_name (i := 4) scL.nd rfl (.inl rfl))
      (pss_one (ps_if (pt_not (pt_val (pe_call dCR.ok hr7 (by rfl) dCR.gl dCR.kp dCR.bi .nil pass0 (pa_cons (pv 4) pa_nil))))
        (pss_one (ps_ret pe_bl))
        pss_nil)))
    (pss_cons (ps_setLc (i := 5) (own := [("_law_row_here", 4)]) (g := gName 4) (tt := tTest (tOp (fun x y H Q => y = V.non ∧ Q (.bl (decide (x = V.non))) H) (tCall spFlt [] E0 (tCons (tVar 4) tNil)) (tC .non))) (te := tVar 4) rfl scL.nd rfl rfl (sw_true rfl rfl rfl (by decide +kernel)) (pi_list (pv 2)) (blkOk_by (N := ["_law_script", "_law_hand_here", "_law_rows_here", "_law_k", "_law_row_here", "_law_good"]) (sc := defScope sLaw) (by decide +kernel)) (fun _ _ _ _ _ => pg_name (i := 4) scL.nd rfl (Or.inl rfl)) (fun _ _ _ _ _ => pts_one (pt_cmpR op_isN (pe_call dFl.ok hr4 (by rfl) dFl.gl dFl.kp dFl.bi .nil pass0 (pa_cons (pv 4) pa_nil)) pe_non (nomark _))) (fun _ _ _ _ _ => (pv 4)))
    (pss_cons (ps_set (i := 5) scL.nd rfl (.inl rfl) (pe_op op_cat (pv 5) (pe_lst (pa_cons (pe_tup (pa_cons pe_str pa_nil)) (pa_cons (pe_tup (pa_cons pe_str pa_nil)) (pa_cons (pe_tup (pa_cons pe_str (pa_cons (pe_op op_add pe_int (pe_call dD.ok hr2 (by rfl) dD.gl dD.kp dD.bi .nil pass0 (pa_cons (pv 1) (pa_cons pe_int pa_nil)))) pa_nil))) (pa_cons (pe_tup (pa_cons pe_str (pa_cons (pe_call dP.ok hr3 (by rfl) dP.gl dP.kp dP.bi .nil pass0 (pa_cons (pv 1) (pa_cons (pe_call dW.ok hr1 (by rfl) dW.gl dW.kp dW.bi .nil pass0 (pa_cons pe_int (pa_cons pe_int pa_nil))) pa_nil))) pa_nil))) pa_nil)))))))
    (pss_cons (ps_for PassesOwn.never rfl (pi_range1 (by rfl) z_range (pa_cons pe_int pa_nil)) (pg_name (i := 3) scL.nd rfl (.inl rfl))
      (pss_one (ps_if (PW.pt (pw_or (pt_not (pt_val (pe_call dTR.ok hr9 (by rfl) dTR.gl dTR.kp dTR.bi .nil pass0 (pa_cons (pv 1) (pa_cons (pv 5) pa_nil))))) (pw_or (pt_not (pt_val (pe_call dFR.ok hr9 (by rfl) dFR.gl dFR.kp dFR.bi .nil pass0 (pa_cons (pv 1) pa_nil)))) (pw_or1 (pt_not (pt_val (pe_call dEq.ok hr9 (by rfl) dEq.gl dEq.kp dEq.bi .nil pass0 (pa_cons (pv 1) (pa_cons (pv 5) pa_nil)))))))))
        (pss_one (ps_ret pe_bl))
        pss_nil)))
    p6)))))), ?_⟩
    refine ⟨_, rfl, a, ns, rfl, hS, hlen, fun H1 p l t s1 np hh1 => ?_⟩
    have hp1 : Hand p l H1 := ⟨_, _, _, _, hh1⟩
    refine ⟨4, rfl, by decide, by decide, fun D nD => lc_K (walk_rangeL 4) (AnyL p D) anyL_lc hp1 nD (by rw [List.length_map, List.length_range]; decide) ⟨rfl, [], .nil⟩ (fun _ _ => trivial) (fun _ => rfl) ?_ mE_row ?_⟩
    · rintro i v acc H' ev k' hp' eD hL
      refine ⟨_, rfl, p, l, rfl, hp', fun H2 v r k2 hp2 hd _ => ⟨k2, hp2, hL.add k2 (hd.to (fun a n => ⟨hp'.nn n, Ne.symm (ne_of_none eD n)⟩) fun _ _ _ e => e)⟩⟩
    rintro H2 acc k2 hp2 eD hL
    have hlen : acc.length = 4 := by
      have z := hL.len
      rw [List.length_map, List.length_range] at z
      exact z
    obtain ⟨rs, hrs⟩ := hL.ex
    have nDp : D ≠ p := hp1.nn nD
    have rl : acc.length = rs.length := by rw [hrs.len, List.length_map]
    have row : ∀ {H' : Hp} {i : Nat} {v : V}, Same H2 H' → acc[i]? = some v → ∃ r, Dt (fun a => a ≠ p ∧ a ≠ D) H' v (r8D r) := fun {H' i v} s ev => by
      obtain ⟨d, ed, hd⟩ := hrs.get ev
      rw [List.getElem?_map] at ed
      cases e : rs[i]? with
      | none => rw [e] at ed; cases ed
      | some r =>
        rw [e] at ed
        obtain rfl := Option.some.inj ed
        exact ⟨r, hd.same s⟩
    refine ⟨_, rfl, D, rfl, ⟨_, SqL.of eD⟩, for_it walk_list (fun i σ H' => ∃ x4 : Option V, σ = [some (.ref a), some (.ref p), some (.ref D), none, x4, none] ∧ Same H2 H') ⟨none, rfl, Same.refl _⟩ (fun i σ H' _ ⟨_, _, s⟩ => SqL.of (s _ _ eD)) ?_ ?_⟩
    · rintro i y σ H3 H4 hi ⟨x4, rfl, sm⟩ ⟨rfl, ev⟩
      obtain ⟨r, hd⟩ := row sm ev
      refine ⟨_, rfl, y, r, rfl, hd.any, fun H5 s5 => ⟨_, rfl, iteF ⟨_, rfl, sm.trans s5⟩⟩⟩
    rintro σ H3 ⟨x4, rfl, s3⟩
    have eD3 := s3 _ _ eD
    have hp3 := hp2.same s3
    refine ⟨_, rfl, D, rfl, ⟨_, SqL.of eD3⟩, fun G nG => lc_N walk_list (GoodL p G) goodL_lc nG (by rw [hlen]; decide) ⟨Nat.le_refl _, [], .nil, fun r hr => by cases hr⟩ (fun H' s' => SqL.of (s' _ _ eD3)) (fun _ => rfl) ?_ mT_flt mE_var ?_⟩
    · rintro i v acc2 H' ev s' eG hG
      obtain ⟨r, hd⟩ := row (s3.trans s') ev
      obtain ⟨r0, hd3⟩ := row s3 ev
      have hr0 : ∃ r, Dt (fun a => a ≠ p ∧ a ≠ G) H' v (r8D r) := ⟨r0, (hd3.off nG).to (fun a h => ⟨h.1.1, h.2⟩) fun a o _ e => s' _ _ e⟩
      obtain ⟨r, hd⟩ := hr0
      refine ⟨_, rfl, v, r, rfl, hd.any, fun H5 s5 => ⟨rfl, _, rfl, ?_⟩⟩
      refine ⟨s5, ?_⟩
      cases hf : fltR r with
      | none =>
        refine iteT ⟨_, rfl, Same.refl _, ?_⟩
        obtain ⟨rs2, h1, h2⟩ := hG.ex
        refine ⟨by rw [List.length_append]; have := hG.len; show acc2.length + 1 ≤ _; omega, rs2 ++ [r], ?_, fun q hq => ?_⟩
        · rw [List.map_append]
          exact (h1.same s5).app (.cons (hd.same s5) .nil)
        · rcases List.mem_append.mp hq with hq | hq
          · exact h2 q hq
          · obtain rfl := List.mem_singleton.mp hq
            exact hf
      | some z =>
        refine iteF ?_
        obtain ⟨rs2, h1, h2⟩ := hG.ex
        exact ⟨Nat.le_succ_of_le hG.len, rs2, h1.same s5, h2⟩
    rintro H4 acc2 s4 eG hG
    have hp4 := hp3.same s4
    have nGp : G ≠ p := hp3.nn nG
    obtain ⟨rs2, hg1, hg2⟩ := hG.ex
    have gl : acc2.length ≤ 4 := by have := hG.len; omega
    have k4 : Kept p H1 H4 := (k2.trans (Kept.same s3)).trans (Kept.same s4)
    dsimp only
    refine seq_of (asg_of (op_of ⟨_, rfl, lst_of ?_⟩))
    refine cons_of (tup_of (cons_of (c_of ⟨(by show 1 ≤ sizeLine; decide), fun t1 n1 => ?_⟩)))
    have sA := same_upd (o := .tup [V.str "never"]) n1
    have hpA := hp4.same sA
    have e1 : upd H4 t1 (.tup [V.str "never"]) t1 = some (.tup [V.str "never"]) := upd_same
    have n1p : t1 ≠ p := hp4.nn n1
    generalize upd H4 t1 (.tup [V.str "never"]) = HA at sA hpA e1 ⊢
    refine cons_of (tup_of (cons_of (c_of ⟨(by show 1 ≤ sizeLine; decide), fun t2 n2 => ?_⟩)))
    have sB := same_upd (o := .tup [V.str "unborne"]) n2
    have hpB := hpA.same sB
    have e2 : upd HA t2 (.tup [V.str "unborne"]) t2 = some (.tup [V.str "unborne"]) := upd_same
    have n2p : t2 ≠ p := hpA.nn n2
    generalize upd HA t2 (.tup [V.str "unborne"]) = HB at sB hpB e2 ⊢
    refine cons_of (tup_of (cons_of (c_of (cons_of (op_of (c_of (draw_lt (p := p) (l := l) rfl hpB (by decide) (by decide +kernel) fun dn HC d4 kC hpC => ⟨_, _, rfl, rfl, ⟨(by show 2 ≤ sizeLine; decide), fun t3 n3 => ?_⟩⟩)))))))
    have sD := same_upd (o := .tup [V.str "number", .int (1 + (dn : Int))]) n3
    have hpD := hpC.same sD
    have e3 : upd HC t3 (.tup [V.str "number", .int (1 + (dn : Int))]) t3 = some (.tup [V.str "number", .int (1 + (dn : Int))]) := upd_same
    have n3p : t3 ≠ p := hpC.nn n3
    generalize upd HC t3 (.tup [V.str "number", .int (1 + (dn : Int))]) = HD at sD hpD e3 ⊢
    refine cons_of (tup_of (cons_of (c_of (cons_of ?_))))
    refine ⟨_, rfl, rfl, fun HE z sE nz ez => ⟨p, l, z, sV (foundN 4), rfl, hpD.same sE, ez, hpD.nn nz, by decide +kernel, by decide +kernel, fun v HF hv kF hpF => ⟨(by show 2 ≤ sizeLine; decide), fun t4 n4 => ?_⟩⟩⟩
    obtain ⟨y, hy, rfl⟩ := List.mem_map.mp hv
    have sG := same_upd (o := .tup [V.str "dead", .str y]) n4
    have hpG := hpF.same sG
    have e4 : upd HF t4 (.tup [V.str "dead", .str y]) t4 = some (.tup [V.str "dead", .str y]) := upd_same
    have n4p : t4 ≠ p := hpF.nn n4
    generalize upd HF t4 (.tup [V.str "dead", .str y]) = HG at sG hpG e4 ⊢
    have kDG : Kept p HD HG := ((Kept.same sE).trans kF).trans (Kept.same sG)
    have kBG : Kept p HB HG := (kC.trans (Kept.same sD)).trans kDG
    have kAG : Kept p HA HG := (Kept.same sB).trans kBG
    have k4G : Kept p H4 HG := (Kept.same sA).trans kAG
    refine ⟨(by show 4 ≤ sizeLine; decide), fun b nb => ?_⟩
    have sb := same_upd (o := .lst [V.ref t1, .ref t2, .ref t3, .ref t4]) nb
    refine ⟨G, b, acc2, _, rfl, rfl, sb _ _ (k4G _ _ nGp eG), upd_same, by show acc2.length + 4 ≤ sizeLine; exact Nat.le_trans (show acc2.length + 4 ≤ 8 by omega) (by decide), fun G2 nG2 => ?_⟩
    have sG2 := same_upd (o := .lst (acc2 ++ [V.ref t1, .ref t2, .ref t3, .ref t4])) nG2
    have hpF2 := (hpG.same sb).same sG2
    have nG2p : G2 ≠ p := (hpG.same sb).nn nG2
    have eG2 : upd (upd HG b (.lst [V.ref t1, .ref t2, .ref t3, .ref t4])) G2 (.lst (acc2 ++ [V.ref t1, .ref t2, .ref t3, .ref t4])) G2 = some (.lst (acc2 ++ [V.ref t1, .ref t2, .ref t3, .ref t4])) := upd_same
    have sGf := sb.trans sG2
    generalize upd (upd HG b (.lst [V.ref t1, .ref t2, .ref t3, .ref t4])) G2 (.lst (acc2 ++ [V.ref t1, .ref t2, .ref t3, .ref t4])) = HI at hpF2 eG2 sGf ⊢
    have k4I : Kept p H4 HI := k4G.trans (Kept.same sGf)
    have okn : okS "never" = true := by decide +kernel
    have oku : okS "unborne" = true := by decide +kernel
    have okm : okS "number" = true := by decide +kernel
    have okd : okS "dead" = true := by decide +kernel
    have oky : okS y = true := by
      have z : ((foundN 4).all okS) = true := by decide +kernel
      exact List.all_eq_true.mp z y hy
    have wy : wayV (.str y) 1 3 = true := by
      rw [← way_same, in_strs]
      exact decide_eq_true hy
    have hRG : RowsP p HI G2 (acc2 ++ [V.ref t1, .ref t2, .ref t3, .ref t4]) (rs2 ++ [.never, .unborne, .num (.int (1 + (dn : Int))), .dead (.str y)]) := by
      refine ⟨nG2p, eG2, ?_, fun r hr => ?_⟩
      · rw [List.map_append]
        refine DtAll.app ((hg1.kept (fun n => n.1 rfl) k4I).to (fun a h => h.1) fun _ _ _ e => e) ?_
        refine .cons (.tup n1p (sGf _ _ (kAG _ _ n1p e1)) (.cons (okS_dt okn) .nil)) ?_
        refine .cons (.tup n2p (sGf _ _ (kBG _ _ n2p e2)) (.cons (okS_dt oku) .nil)) ?_
        refine .cons (.tup n3p (sGf _ _ (kDG _ _ n3p e3)) (.cons (okS_dt okm) (.cons (.int _) .nil))) ?_
        exact .cons (.tup n4p (sGf _ _ e4) (.cons (okS_dt okd) (.cons (okS_dt oky) .nil))) .nil
      · rcases List.mem_append.mp hr with hr | hr
        · exact hg2 r hr
        · simp only [List.mem_cons, List.not_mem_nil, or_false] at hr
          rcases hr with rfl | rfl | rfl | rfl
          · rfl
          · rfl
          · refine if_pos ?_
            show (decide ((1 : Int) ≤ 1 + (dn : Int)) && decide (1 + (dn : Int) ≤ 4)) = true
            rw [decide_eq_true (by omega), decide_eq_true (by omega)]
            rfl
          · exact if_pos wy
    have glen : (acc2 ++ [V.ref t1, .ref t2, .ref t3, .ref t4]).length = acc2.length + 4 := by rw [List.length_append]; rfl
    dsimp only [gName]
    refine ⟨2, rfl, by decide, by decide, for_it (walk_range (lo := 0) (n := 2)) (fun i σ H' => ∃ x3 : Option V, σ = [some (.ref a), some (.ref p), some (.ref D), x3, x4, some (.ref G2)] ∧ Kept p HI H' ∧ Hand p l H') ⟨none, rfl, Kept.refl, hpF2⟩ (fun _ _ _ _ _ => trivial) ?_ ?_⟩
    · rintro i yy σ H5 H6 hi ⟨x3, rfl, k5, hp5⟩ ⟨rfl, rfl⟩
      refine ⟨_, rfl, _, rfl, p, l, G2, _, _, rfl, hp5, hRG.kept k5, by rw [glen]; omega, by rw [glen]; omega, fun H7 k7 hp7 => ⟨_, rfl, iteF ?_⟩⟩
      refine ⟨_, rfl, p, l, rfl, hp7, fun H8 k8 hp8 => ⟨_, rfl, iteF ?_⟩⟩
      refine ⟨_, rfl, _, rfl, p, l, G2, _, _, rfl, hp8, hRG.kept ((k5.trans k7).trans k8), by rw [glen]; omega, by rw [glen]; omega, fun H9 k9 hp9 => ⟨_, rfl, iteF ?_⟩⟩
      exact ⟨_, rfl, ((k5.trans k7).trans k8).trans k9, hp9⟩
    · rintro σ H5 ⟨x3, rfl, k5, hp5⟩
      exact r6 _ _ _ q
end
end K08

/-! the table of the parents' kinds, for any sign -/
namespace K08
open PySem PySem.Spec PyProof.Rows L2
theorem key_of {e : DictEntry} {k : Str} {i : Int} (h : He.keyOf e = some (k, i)) : ∃ t, e.key = .str k t := by
  unfold He.keyOf at h
  split at h
  · rename_i x t q
    have h4 := Option.some.inj h
    obtain ⟨h5, _⟩ := Prod.mk.inj h4
    exact ⟨t, by rw [q, h5]⟩
  · cases h
theorem sign_eq {c d : Nat} : ((⟨#[c]⟩ : Str) = ⟨#[d]⟩) ↔ c = d := ⟨fun e => by injection e with e; injection e with e; injection e, fun e => by rw [e]⟩
theorem two_keys {P : Params} : ∀ {l : List DictEntry}, l.map He.keyOf = He.keysIn P ["f", "m"] → ∃ e1 e2 t1 t2, l = [e1, e2] ∧ e1.key = .str "f" t1 ∧ e2.key = .str "m" t2
  | [], h => by cases h
  | [_], h => by
    have z := congrArg List.length h
    cases z
  | [e1, e2], h => by
    have h1 : He.keyOf e1 :: [He.keyOf e2] = some (("f" : Str), PyData.keyHash P "f") :: [some (("m" : Str), PyData.keyHash P "m")] := h
    injection h1 with a1 a2
    injection a2 with a3 _
    obtain ⟨t1, k1⟩ := key_of a1
    obtain ⟨t2, k2⟩ := key_of a3
    exact ⟨e1, e2, t1, t2, rfl, k1, k2⟩
  | _ :: _ :: _ :: _, h => by
    have z := congrArg List.length h
    have z2 : ∀ n : Nat, n + 3 = 2 → False := fun n e => by omega
    exact (z2 _ z).elim
theorem pk_ns {K : PySem.W.Frag} {w : World} {d : Addr} (h : He.dicW K d = some (He.keysIn w.params ["f", "m"])) (c : Nat) : ∃ r, PySem.W.nsIn K d ⟨#[c]⟩ = some r ∧ r.isSome = fmC c := by
  obtain ⟨es, n, D⟩ := He.dicW_ok h
  have e : es.toList.map He.keyOf = He.keysIn w.params ["f", "m"] := by
    unfold He.dicW at h
    rw [D.at_] at h
    have z : (match decide (("dict" : String) = "dict") && (((#[] : Array (Option Value)).isEmpty) && !(d == sysModules)) with
      | true => some (es.toList.map He.keyOf)
      | false => none) = some (He.keysIn w.params ["f", "m"]) := h
    rw [D.low] at z
    exact Option.some.inj z
  unfold PySem.W.nsIn
  rw [D.at_]
  obtain ⟨l⟩ := es
  obtain ⟨e1, e2, t1, t2, el, k1, k2⟩ := two_keys e
  have el2 : l = [e1, e2] := el
  subst el2
  · skip
    have f1 : (e1.key.isStr ⟨#[c]⟩) = decide (c = 102) := by
      rw [k1]
      show ((("f" : Str) == ⟨#[c]⟩) : Bool) = _
      rw [show (("f" : Str) == (⟨#[c]⟩ : Str)) = decide (("f" : Str) = ⟨#[c]⟩) from rfl]
      refine decide_eq_decide.mpr ⟨fun z => (sign_eq (c := 102) (d := c)).mp z |>.symm, fun z => by rw [z]; rfl⟩
    have f2 : (e2.key.isStr ⟨#[c]⟩) = decide (c = 109) := by
      rw [k2]
      show ((("m" : Str) == ⟨#[c]⟩) : Bool) = _
      rw [show (("m" : Str) == (⟨#[c]⟩ : Str)) = decide (("m" : Str) = ⟨#[c]⟩) from rfl]
      refine decide_eq_decide.mpr ⟨fun z => (sign_eq (c := 109) (d := c)).mp z |>.symm, fun z => by rw [z]; rfl⟩
    show ∃ r, (match [e1, e2].find? (·.key.isStr ⟨#[c]⟩) with
      | some e => some (some e.val)
      | none => if [e1, e2].any (·.refKey) then none else some none) = some r ∧ r.isSome = fmC c
    have r1 : e1.refKey = false := by
      unfold DictEntry.refKey
      rw [k1]
    have r2 : e2.refKey = false := by
      unfold DictEntry.refKey
      rw [k2]
    rw [List.find?_cons, f1]
    unfold fmC
    by_cases h1 : c = 102
    · rw [decide_eq_true h1, decide_eq_true (.inl h1)]
      exact ⟨_, rfl, rfl⟩
    · rw [decide_eq_false h1]
      dsimp only
      rw [List.find?_cons, f2]
      by_cases h2 : c = 109
      · rw [decide_eq_true h2, decide_eq_true (.inr h2)]
        exact ⟨_, rfl, rfl⟩
      · rw [decide_eq_false h2, decide_eq_false (fun z => z.elim h1 h2)]
        refine ⟨none, ?_, rfl⟩
        show (if [e1, e2].any (·.refKey) then none else some none) = some none
        rw [List.any_cons, List.any_cons, List.any_nil, r1, r2]
        rfl
end K08

set_option maxHeartbeats 8000000
/-! the facts by the head, the end -/
namespace K08
open PySem PySem.Spec PyProof.Rows L2
theorem oexB_ok {K : PySem.W.Frag} {C : Addr} (h : oexB K C = true) : ∃ nm q N bs bm sn sub ab col dd k0 k1 k2 k3 k5, K.lookup C = some (excClassObj nm q C N bs bm true sn sub ab col dd k0 k1 k2 k3 k5 "ValueError.__new__") ∧ PySem.HandSPX.refsVE bm = true := by
  unfold oexB at h
  split at h
  · rename_i t dd cd sl e
    obtain ⟨h1, h2⟩ := Bool.and_eq_true_iff.mp h
    have et := of_decide_eq_true h1
    split at h2
    · rename_i C' bm k0 k1 k2 k3 n k5 hm hs
      obtain ⟨h3, h4⟩ := Bool.and_eq_true_iff.mp h2
      obtain ⟨h5, h6⟩ := Bool.and_eq_true_iff.mp h4
      obtain ⟨h7, h8⟩ := Bool.and_eq_true_iff.mp h6
      obtain ⟨h9, h10⟩ := Bool.and_eq_true_iff.mp h8
      have eC := of_decide_eq_true h3
      have en := of_decide_eq_true h5
      obtain ⟨nm, bs, mro, ns, qn, hd, sn, sb, ab, col, del⟩ := cd
      dsimp only at hm h7 h9
      have e9 : del = false := by
        cases del with
        | false => rfl
        | true => cases h9
      have es : sl = #[k0, k1, k2, k3, some (.builtin n), k5] := by
        cases sl
        exact congrArg Array.mk hs
      subst et eC en e9 hm es h7
      exact ⟨nm, qn, ns, bs, bm, sn, sb, ab, col, dd, k0, k1, k2, k3, k5, e, h10⟩
    · cases h2
  · cases h
theorem b2 {a b : Bool} (h : (a && b) = true) : a = true ∧ b = true := Bool.and_eq_true_iff.mp h
/-- what the head says of an error -/
structure BadF (K : PySem.W.Frag) (D : Addr) : Prop where
  ox : OexC K D
  xf : XfC K D
  cl : PySem.W.findIn K (.ref D) "__class__" = some (some (.builtin "object.__class__"))
  ob : PySem.W.mroIn K D (.type "object") = some true
  ini : PySem.W.findIn K (.ref D) "__init__" = some (some (.ref (He.ma K D "__init__")))
  ty : PySem.W.typeIn K (.ref (He.ma K D "__init__")) = some (.type "function")
theorem badE_ok {K : PySem.W.Frag} {D : Addr} (h : badE K D = true) : BadF K D := by
  obtain ⟨x1, h⟩ := b2 h
  obtain ⟨x2, h⟩ := b2 h
  obtain ⟨x3, x4⟩ := b2 h
  obtain ⟨h1, h⟩ := b2 x2
  obtain ⟨h2, h⟩ := b2 h
  obtain ⟨h3, h⟩ := b2 h
  obtain ⟨h4, h⟩ := b2 h
  obtain ⟨h5, h⟩ := b2 h
  obtain ⟨h6, h⟩ := b2 h
  obtain ⟨h7, h⟩ := b2 h
  obtain ⟨h8, h9⟩ := b2 h
  have xf : XfC K D := ⟨of_decide_eq_true h1, of_decide_eq_true h2, of_decide_eq_true h3, h4⟩
  exact ⟨⟨oexB_ok x1, of_decide_eq_true h7, xf.exC, of_decide_eq_true h8, h9⟩, xf, of_decide_eq_true h5, of_decide_eq_true h6, of_decide_eq_true x3, of_decide_eq_true x4⟩
theorem BadF.xc {K : PySem.W.Frag} {D : Addr} (e : BadF K D) (d : dunB K = true) : ExcC K D := by
  obtain ⟨h1, h2⟩ := b2 d
  exact ⟨e.xf.ga, e.xf.gg, e.xf.exC, e.xf.hdC, e.cl, of_decide_eq_true h1, of_decide_eq_true h2, e.ob⟩
structure CiF (K : PySem.W.Frag) (b : Bool) (x : Str) : Prop where
  cls : PySem.W.findIn K (.ref (He.ga K x)) "__class__" = some (some (.builtin "object.__class__"))
  ob : PySem.W.mroIn K (He.ga K x) (.type "object") = some true
  kS : PySem.W.kitOne K (.ref (He.ga K x)) (.type "str") = some false
  kT : PySem.W.kitOne K (.ref (He.ga K x)) (.type "tuple") = some false
  kC : PySem.W.kitOne K (.ref (He.ga K x)) (.ref (He.ga K "Condition")) = some b
  eq : PySem.W.findIn K (.ref (He.ga K x)) "__eq__" = some (some (.ref (He.ma K (He.ga K x) "__eq__")))
  ef : PySem.W.isFn K (.ref (He.ma K (He.ga K x) "__eq__")) = true
  ne : PySem.W.findIn K (.ref (He.ga K x)) "__ne__" = some (some (.builtin "object.__ne__"))
  nt : PySem.W.notFirst K (He.ga K x) (.type "tuple") = true
  st : PySem.W.findIn K (.ref (He.ga K x)) "__str__" = some (some (.ref (He.ma K (He.ga K x) "__str__")))
  sf : PySem.W.isFn K (.ref (He.ma K (He.ga K x) "__str__")) = true
  mks : PySem.W.makesIn K (He.ga K x) = true
theorem ciB_ok {K : PySem.W.Frag} {b : Bool} {x : Str} (h : ciB K b x = true) : CiF K b x := by
  obtain ⟨h1, h⟩ := b2 h
  obtain ⟨h2, h⟩ := b2 h
  obtain ⟨h3, h⟩ := b2 h
  obtain ⟨h4, h⟩ := b2 h
  obtain ⟨h5, h⟩ := b2 h
  obtain ⟨h6, h⟩ := b2 h
  obtain ⟨h7, h⟩ := b2 h
  obtain ⟨h8, h⟩ := b2 h
  obtain ⟨h9, h⟩ := b2 h
  obtain ⟨h10, h⟩ := b2 h
  obtain ⟨h11, h12⟩ := b2 h
  exact ⟨of_decide_eq_true h1, of_decide_eq_true h2, of_decide_eq_true h3, of_decide_eq_true h4, of_decide_eq_true h5, of_decide_eq_true h6, h7, of_decide_eq_true h8, h9, of_decide_eq_true h10, h11, h12⟩
theorem CiF.clsI {K : PySem.W.Frag} {b : Bool} {x : Str} (h : CiF K b x) (d : dunB K = true) (cl : Cls K (He.ga K x)) : ClsI K (He.ga K "Condition") b (He.ga K x) := by
  obtain ⟨h1, h2⟩ := b2 d
  exact ⟨cl, h.cls, of_decide_eq_true h1, of_decide_eq_true h2, h.ob, h.kS, h.kT, h.kC⟩
theorem CiF.nec {K : PySem.W.Frag} {b : Bool} {x : Str} (h : CiF K b x) : NeC K (He.ga K x) (He.ma K (He.ga K x) "__eq__") := ⟨h.ne, h.eq, h.ef, h.ob⟩
theorem bareB_ok {K : PySem.W.Frag} {b : Bool} {x : Str} (h : bareB K x = true) (c : CiF K b x) : MkB K (He.ga K x) := by
  obtain ⟨h1, h⟩ := b2 h
  obtain ⟨h2, h3⟩ := b2 h
  exact ⟨c.mks, of_decide_eq_true h1, of_decide_eq_true h2, c.ob, h3⟩
theorem manB_ok {K : PySem.W.Frag} {x z : Str} (h : manB K x z = true) : ManC K (He.ga K x) z := by
  obtain ⟨h1, h⟩ := b2 h
  obtain ⟨h2, h⟩ := b2 h
  obtain ⟨h3, h4⟩ := b2 h
  refine ⟨?_, ?_⟩
  · split at h1
    · rename_i y t e
      obtain ⟨g1, g2⟩ := b2 h1
      have g1 := of_decide_eq_true g1
      subst g1
      exact ⟨_, e, ⟨t, rfl⟩, of_decide_eq_true g2, by decide +kernel⟩
    · cases h1
  · split at h4
    · rename_i y t e
      have g1 := of_decide_eq_true h4
      subst g1
      exact ⟨.type "type", _, ⟨h2, of_decide_eq_true h3⟩, ⟨e, ⟨t, rfl⟩⟩⟩
    · cases h4
theorem cauB_ok {K : PySem.W.Frag} {x y : Str} (h : cauB K x y = true) : PySem.W.kitOne K (.ref (He.ga K x)) (.ref (He.ga K "CustomError")) = some true ∧ PySem.W.kitOne K (.ref (He.ga K x)) (.type "ValueError") = some true ∧ PySem.W.kitOne K (.ref (He.ga K x)) (.ref (He.ga K y)) = some false := by
  obtain ⟨h1, h⟩ := b2 h
  obtain ⟨h2, h3⟩ := b2 h
  exact ⟨of_decide_eq_true h1, of_decide_eq_true h2, of_decide_eq_true h3⟩
/-- the six classes -/
def csK (K : PySem.W.Frag) : C6 := ⟨He.ga K "Number", He.ga K "Alive", He.ga K "Dead", He.ga K "Unlike", He.ga K "Unborne", He.ga K "Never"⟩
theorem cs_name (K : PySem.W.Frag) : ∀ k, k < 6 → (csK K).at k = He.ga K (six.getD k "") ∧ six.getD k "" ∈ six
  | 0, _ => ⟨rfl, by simp [six]⟩
  | 1, _ => ⟨rfl, by simp [six]⟩
  | 2, _ => ⟨rfl, by simp [six]⟩
  | 3, _ => ⟨rfl, by simp [six]⟩
  | 4, _ => ⟨rfl, by simp [six]⟩
  | 5, _ => ⟨rfl, by simp [six]⟩
  | k + 6, h => absurd h (by omega)
theorem cs_inj {K : PySem.W.Frag} (h : (six.map (He.ga K)).Nodup) : ∀ i j, i < 6 → j < 6 → (csK K).at i = (csK K).at j → i = j := by
  intro i j hi hj e
  have e1 : ∀ k, k < 6 → (six.map (He.ga K))[k]? = some ((csK K).at k) := fun k hk => by
    match k, hk with
    | 0, _ => rfl
    | 1, _ => rfl
    | 2, _ => rfl
    | 3, _ => rfl
    | 4, _ => rfl
    | 5, _ => rfl
    | k + 6, h => exact absurd h (by omega)
  have a := e1 i hi
  rw [e, ← e1 j hj] at a
  exact (List.getElem?_inj (show i < (six.map (He.ga K)).length from hi) h).mp a
section
variable {P : Program} {w : World} {K : PySem.W.Frag} {mg : Str → Option Value} {base : Heap}
theorem SaysM.all (c : SaysM w K) : ((fa.all fun f => f.ok K) && (restB K && fn.all fun d => d.ok K)) = true := congrArg (fun z : AlM => z.1) c
theorem SaysM.fact_ (c : SaysM w K) (i : Nat) {f : He.Fa} (h : fa[i]? = some f) : f.ok K = true := List.all_eq_true.mp (b2 c.all).1 f (List.mem_of_getElem? h)
theorem SaysM.rest (c : SaysM w K) : restB K = true := (b2 (b2 c.all).2).1
theorem SaysM.tab (c : SaysM w K) : He.dicW K (He.ga K "PARENT_KIND") = some (He.keysIn w.params ["f", "m"]) := congrArg (fun z : AlM => z.2.2) c
theorem SaysM.def_ (c : SaysM w K) (i : Nat) {d : He.DefD} (h : fn[i]? = some d) : ∃ fd, FunD K d.name d.qual d.params d.body d.scope (d.dvs K) (d.kws K) (He.fAd K d.at_) fd := by
  have c2 := (b2 (b2 c.all).2).2
  have e : fn.map (fun d => He.fnW K d.at_) = fn.map He.DefD.val := congrArg (fun z : AlM => z.2.1) c
  have e2 : (fn.map fun d => He.fnW K d.at_)[i]? = (fn.map He.DefD.val)[i]? := by rw [e]
  rw [List.getElem?_map, List.getElem?_map, h] at e2
  exact He.DefD.funD (Option.some.inj e2) (List.all_eq_true.mp c2 d (List.mem_of_getElem? h))
theorem facts {h : Heap} {f : Addr} (X : K.In h) (G : h.Ns mainGlobals mg) (hfa : mg ("law" : Str) = some (.ref f)) (c : SaysM w K) :
    ∃ fd : FuncData, (∀ (s : Shared) (v : Value), BindsTo s fd ⟨[v], []⟩ [("_law_script", v)]) ∧ ∀ base : Heap, K.In base → base.Ns mainGlobals mg → FnOk P w K mg base CX0 10 f fd ["_law_script"] (spLaw K) := by
  have z_int : mg "int" = none := He.free_ok X G (c.fact_ 0 (f := .free "int") rfl)
  have z_bool : mg "bool" = none := He.free_ok X G (c.fact_ 1 (f := .free "bool") rfl)
  have z_isinstance : mg "isinstance" = none := He.free_ok X G (c.fact_ 2 (f := .free "isinstance") rfl)
  have z_str : mg "str" = none := He.free_ok X G (c.fact_ 3 (f := .free "str") rfl)
  have z_len : mg "len" = none := He.free_ok X G (c.fact_ 4 (f := .free "len") rfl)
  have z_all : mg "all" = none := He.free_ok X G (c.fact_ 5 (f := .free "all") rfl)
  have z_list : mg "list" = none := He.free_ok X G (c.fact_ 6 (f := .free "list") rfl)
  have z_tuple : mg "tuple" = none := He.free_ok X G (c.fact_ 7 (f := .free "tuple") rfl)
  have z_enumerate : mg "enumerate" = none := He.free_ok X G (c.fact_ 8 (f := .free "enumerate") rfl)
  have z_range : mg "range" = none := He.free_ok X G (c.fact_ 9 (f := .free "range") rfl)
  have z_abs : mg "abs" = none := He.free_ok X G (c.fact_ 10 (f := .free "abs") rfl)
  have z_type : mg "type" = none := He.free_ok X G (c.fact_ 11 (f := .free "type") rfl)
  have z_ValueError : mg "ValueError" = none := He.free_ok X G (c.fact_ 12 (f := .free "ValueError") rfl)
  have g_is_whole : mg "is_whole" = some (.ref (He.ga K "is_whole")) := He.glo_ok X G (c.fact_ 13 (f := .glo "is_whole") rfl)
  have g_is_way : mg "is_way" = some (.ref (He.ga K "is_way")) := He.glo_ok X G (c.fact_ 14 (f := .glo "is_way") rfl)
  have g_is_source : mg "is_source" = some (.ref (He.ga K "is_source")) := He.glo_ok X G (c.fact_ 15 (f := .glo "is_source") rfl)
  have g_is_bar : mg "is_bar" = some (.ref (He.ga K "is_bar")) := He.glo_ok X G (c.fact_ 16 (f := .glo "is_bar") rfl)
  have g_listed : mg "listed" = some (.ref (He.ga K "listed")) := He.glo_ok X G (c.fact_ 17 (f := .glo "listed") rfl)
  have g__law_mix : mg "_law_mix" = some (.ref (He.ga K "_law_mix")) := He.glo_ok X G (c.fact_ 18 (f := .glo "_law_mix") rfl)
  have g__law_hand : mg "_law_hand" = some (.ref (He.ga K "_law_hand")) := He.glo_ok X G (c.fact_ 19 (f := .glo "_law_hand") rfl)
  have g__law_draw : mg "_law_draw" = some (.ref (He.ga K "_law_draw")) := He.glo_ok X G (c.fact_ 20 (f := .glo "_law_draw") rfl)
  have g__law_pick : mg "_law_pick" = some (.ref (He.ga K "_law_pick")) := He.glo_ok X G (c.fact_ 21 (f := .glo "_law_pick") rfl)
  have g__law_ways : mg "_law_ways" = some (.ref (He.ga K "_law_ways")) := He.glo_ok X G (c.fact_ 22 (f := .glo "_law_ways") rfl)
  have g__law_sources : mg "_law_sources" = some (.ref (He.ga K "_law_sources")) := He.glo_ok X G (c.fact_ 23 (f := .glo "_law_sources") rfl)
  have g__law_houses : mg "_law_houses" = some (.ref (He.ga K "_law_houses")) := He.glo_ok X G (c.fact_ 24 (f := .glo "_law_houses") rfl)
  have g__law_make_condition : mg "_law_make_condition" = some (.ref (He.ga K "_law_make_condition")) := He.glo_ok X G (c.fact_ 25 (f := .glo "_law_make_condition") rfl)
  have g__law_free : mg "_law_free" = some (.ref (He.ga K "_law_free")) := He.glo_ok X G (c.fact_ 26 (f := .glo "_law_free") rfl)
  have g__law_take : mg "_law_take" = some (.ref (He.ga K "_law_take")) := He.glo_ok X G (c.fact_ 27 (f := .glo "_law_take") rfl)
  have g__law_condition_text : mg "_law_condition_text" = some (.ref (He.ga K "_law_condition_text")) := He.glo_ok X G (c.fact_ 28 (f := .glo "_law_condition_text") rfl)
  have g__law_clause_text : mg "_law_clause_text" = some (.ref (He.ga K "_law_clause_text")) := He.glo_ok X G (c.fact_ 29 (f := .glo "_law_clause_text") rfl)
  have g__law_thing : mg "_law_thing" = some (.ref (He.ga K "_law_thing")) := He.glo_ok X G (c.fact_ 30 (f := .glo "_law_thing") rfl)
  have g__law_is_way : mg "_law_is_way" = some (.ref (He.ga K "_law_is_way")) := He.glo_ok X G (c.fact_ 31 (f := .glo "_law_is_way") rfl)
  have g__law_is_source : mg "_law_is_source" = some (.ref (He.ga K "_law_is_source")) := He.glo_ok X G (c.fact_ 32 (f := .glo "_law_is_source") rfl)
  have g__law_row : mg "_law_row" = some (.ref (He.ga K "_law_row")) := He.glo_ok X G (c.fact_ 33 (f := .glo "_law_row") rfl)
  have g__law_fault : mg "_law_fault" = some (.ref (He.ga K "_law_fault")) := He.glo_ok X G (c.fact_ 34 (f := .glo "_law_fault") rfl)
  have g__law_told : mg "_law_told" = some (.ref (He.ga K "_law_told")) := He.glo_ok X G (c.fact_ 35 (f := .glo "_law_told") rfl)
  have g__law_parts : mg "_law_parts" = some (.ref (He.ga K "_law_parts")) := He.glo_ok X G (c.fact_ 36 (f := .glo "_law_parts") rfl)
  have g__law_condition_right : mg "_law_condition_right" = some (.ref (He.ga K "_law_condition_right")) := He.glo_ok X G (c.fact_ 37 (f := .glo "_law_condition_right") rfl)
  have g__law_take_of : mg "_law_take_of" = some (.ref (He.ga K "_law_take_of")) := He.glo_ok X G (c.fact_ 38 (f := .glo "_law_take_of") rfl)
  have g__law_free_of : mg "_law_free_of" = some (.ref (He.ga K "_law_free_of")) := He.glo_ok X G (c.fact_ 39 (f := .glo "_law_free_of") rfl)
  have g__law_first : mg "_law_first" = some (.ref (He.ga K "_law_first")) := He.glo_ok X G (c.fact_ 40 (f := .glo "_law_first") rfl)
  have g__law_take_right : mg "_law_take_right" = some (.ref (He.ga K "_law_take_right")) := He.glo_ok X G (c.fact_ 41 (f := .glo "_law_take_right") rfl)
  have g__law_free_right : mg "_law_free_right" = some (.ref (He.ga K "_law_free_right")) := He.glo_ok X G (c.fact_ 42 (f := .glo "_law_free_right") rfl)
  have g__law_equal : mg "_law_equal" = some (.ref (He.ga K "_law_equal")) := He.glo_ok X G (c.fact_ 43 (f := .glo "_law_equal") rfl)
  have g_law : mg "law" = some (.ref (He.ga K "law")) := He.glo_ok X G (c.fact_ 44 (f := .glo "law") rfl)
  have g_Condition : mg "Condition" = some (.ref (He.ga K "Condition")) := He.glo_ok X G (c.fact_ 45 (f := .glo "Condition") rfl)
  have g_Number : mg "Number" = some (.ref (He.ga K "Number")) := He.glo_ok X G (c.fact_ 46 (f := .glo "Number") rfl)
  have g_Alive : mg "Alive" = some (.ref (He.ga K "Alive")) := He.glo_ok X G (c.fact_ 47 (f := .glo "Alive") rfl)
  have g_Dead : mg "Dead" = some (.ref (He.ga K "Dead")) := He.glo_ok X G (c.fact_ 48 (f := .glo "Dead") rfl)
  have g_Unlike : mg "Unlike" = some (.ref (He.ga K "Unlike")) := He.glo_ok X G (c.fact_ 49 (f := .glo "Unlike") rfl)
  have g_Unborne : mg "Unborne" = some (.ref (He.ga K "Unborne")) := He.glo_ok X G (c.fact_ 50 (f := .glo "Unborne") rfl)
  have g_Never : mg "Never" = some (.ref (He.ga K "Never")) := He.glo_ok X G (c.fact_ 51 (f := .glo "Never") rfl)
  have g_Take : mg "Take" = some (.ref (He.ga K "Take")) := He.glo_ok X G (c.fact_ 52 (f := .glo "Take") rfl)
  have g_Free : mg "Free" = some (.ref (He.ga K "Free")) := He.glo_ok X G (c.fact_ 53 (f := .glo "Free") rfl)
  have g_BadCondition : mg "BadCondition" = some (.ref (He.ga K "BadCondition")) := He.glo_ok X G (c.fact_ 54 (f := .glo "BadCondition") rfl)
  have g_BadClause : mg "BadClause" = some (.ref (He.ga K "BadClause")) := He.glo_ok X G (c.fact_ 55 (f := .glo "BadClause") rfl)
  have g_CustomError : mg "CustomError" = some (.ref (He.ga K "CustomError")) := He.glo_ok X G (c.fact_ 56 (f := .glo "CustomError") rfl)
  have g_SOURCES : mg "SOURCES" = some (.ref (He.ga K "SOURCES")) := He.glo_ok X G (c.fact_ 57 (f := .glo "SOURCES") rfl)
  have g_BAR_WORDS : mg "BAR_WORDS" = some (.ref (He.ga K "BAR_WORDS")) := He.glo_ok X G (c.fact_ 58 (f := .glo "BAR_WORDS") rfl)
  have g_PARENT_KIND : mg "PARENT_KIND" = some (.ref (He.ga K "PARENT_KIND")) := He.glo_ok X G (c.fact_ 59 (f := .glo "PARENT_KIND") rfl)
  have g_MOST : ∃ t, mg "MOST_CONDITIONS" = some (.int 4 t) := He.int_ok X G (c.fact_ 60 (f := .int "MOST_CONDITIONS" 4) rfl)
  obtain ⟨d_is_whole, F_is_whole⟩ := c.def_ 0 rfl
  obtain ⟨d_is_way, F_is_way⟩ := c.def_ 1 rfl
  obtain ⟨d_is_source, F_is_source⟩ := c.def_ 2 rfl
  obtain ⟨d_is_bar, F_is_bar⟩ := c.def_ 3 rfl
  obtain ⟨d_listed, F_listed⟩ := c.def_ 4 rfl
  obtain ⟨d__law_mix, F__law_mix⟩ := c.def_ 5 rfl
  obtain ⟨d__law_hand, F__law_hand⟩ := c.def_ 6 rfl
  obtain ⟨d__law_draw, F__law_draw⟩ := c.def_ 7 rfl
  obtain ⟨d__law_pick, F__law_pick⟩ := c.def_ 8 rfl
  obtain ⟨d__law_ways, F__law_ways⟩ := c.def_ 9 rfl
  obtain ⟨d__law_sources, F__law_sources⟩ := c.def_ 10 rfl
  obtain ⟨d__law_houses, F__law_houses⟩ := c.def_ 11 rfl
  obtain ⟨d__law_make_condition, F__law_make_condition⟩ := c.def_ 12 rfl
  obtain ⟨d__law_free, F__law_free⟩ := c.def_ 13 rfl
  obtain ⟨d__law_take, F__law_take⟩ := c.def_ 14 rfl
  obtain ⟨d__law_condition_text, F__law_condition_text⟩ := c.def_ 15 rfl
  obtain ⟨d__law_clause_text, F__law_clause_text⟩ := c.def_ 16 rfl
  obtain ⟨d__law_thing, F__law_thing⟩ := c.def_ 17 rfl
  obtain ⟨d__law_is_way, F__law_is_way⟩ := c.def_ 18 rfl
  obtain ⟨d__law_is_source, F__law_is_source⟩ := c.def_ 19 rfl
  obtain ⟨d__law_row, F__law_row⟩ := c.def_ 20 rfl
  obtain ⟨d__law_fault, F__law_fault⟩ := c.def_ 21 rfl
  obtain ⟨d__law_told, F__law_told⟩ := c.def_ 22 rfl
  obtain ⟨d__law_parts, F__law_parts⟩ := c.def_ 23 rfl
  obtain ⟨d__law_condition_right, F__law_condition_right⟩ := c.def_ 24 rfl
  obtain ⟨d__law_take_of, F__law_take_of⟩ := c.def_ 25 rfl
  obtain ⟨d__law_free_of, F__law_free_of⟩ := c.def_ 26 rfl
  obtain ⟨d__law_first, F__law_first⟩ := c.def_ 27 rfl
  obtain ⟨d__law_take_right, F__law_take_right⟩ := c.def_ 28 rfl
  obtain ⟨d__law_free_right, F__law_free_right⟩ := c.def_ 29 rfl
  obtain ⟨d__law_equal, F__law_equal⟩ := c.def_ 30 rfl
  obtain ⟨d_law, F_law⟩ := c.def_ 31 rfl
  obtain ⟨d_BadCondition__init__, F_BadCondition__init__⟩ := c.def_ 32 rfl
  obtain ⟨d_BadClause__init__, F_BadClause__init__⟩ := c.def_ 33 rfl
  obtain ⟨d_Number__init__, F_Number__init__⟩ := c.def_ 34 rfl
  obtain ⟨d_Alive__init__, F_Alive__init__⟩ := c.def_ 35 rfl
  obtain ⟨d_Dead__init__, F_Dead__init__⟩ := c.def_ 36 rfl
  obtain ⟨d_Unlike__init__, F_Unlike__init__⟩ := c.def_ 37 rfl
  obtain ⟨d_Take__init__, F_Take__init__⟩ := c.def_ 38 rfl
  obtain ⟨d_Free__init__, F_Free__init__⟩ := c.def_ 39 rfl
  obtain ⟨d_Number__eq__, F_Number__eq__⟩ := c.def_ 40 rfl
  obtain ⟨d_Alive__eq__, F_Alive__eq__⟩ := c.def_ 41 rfl
  obtain ⟨d_Dead__eq__, F_Dead__eq__⟩ := c.def_ 42 rfl
  obtain ⟨d_Unlike__eq__, F_Unlike__eq__⟩ := c.def_ 43 rfl
  obtain ⟨d_Unborne__eq__, F_Unborne__eq__⟩ := c.def_ 44 rfl
  obtain ⟨d_Never__eq__, F_Never__eq__⟩ := c.def_ 45 rfl
  obtain ⟨d_Take__eq__, F_Take__eq__⟩ := c.def_ 46 rfl
  obtain ⟨d_Free__eq__, F_Free__eq__⟩ := c.def_ 47 rfl
  obtain ⟨d_Number__str__, F_Number__str__⟩ := c.def_ 48 rfl
  obtain ⟨d_Alive__str__, F_Alive__str__⟩ := c.def_ 49 rfl
  obtain ⟨d_Dead__str__, F_Dead__str__⟩ := c.def_ 50 rfl
  obtain ⟨d_Unlike__str__, F_Unlike__str__⟩ := c.def_ 51 rfl
  obtain ⟨d_Unborne__str__, F_Unborne__str__⟩ := c.def_ 52 rfl
  obtain ⟨d_Never__str__, F_Never__str__⟩ := c.def_ 53 rfl
  obtain ⟨d_Take__str__, F_Take__str__⟩ := c.def_ 54 rfl
  obtain ⟨d_Free__str__, F_Free__str__⟩ := c.def_ 55 rfl
  have b_is_whole : Binds K d_is_whole ["thing", "low", "high"] [] := FunD.bindsN F_is_whole fun _ _ _ _ _ _ us hl => match us, hl with | [_, _, _], _ => rfl
  have b_is_way : Binds K d_is_way ["thing", "least", "most"] [] := FunD.bindsN F_is_way fun _ _ _ _ _ _ us hl => match us, hl with | [_, _, _], _ => rfl
  have b_is_source : Binds K d_is_source ["thing"] [] := FunD.bindsN F_is_source fun _ _ _ _ _ _ us hl => match us, hl with | [_], _ => rfl
  have b_is_bar : Binds K d_is_bar ["thing"] [] := FunD.bindsN F_is_bar fun _ _ _ _ _ _ us hl => match us, hl with | [_], _ => rfl
  have b_listed : Binds K d_listed ["things"] [] := FunD.bindsN F_listed fun _ _ _ _ _ _ us hl => match us, hl with | [_], _ => rfl
  have b__law_mix : Binds K d__law_mix ["_law_number", "_law_turn"] [] := FunD.bindsN F__law_mix fun _ _ _ _ _ _ us hl => match us, hl with | [_, _], _ => rfl
  have b__law_hand : Binds K d__law_hand ["_law_script"] [] := FunD.bindsN F__law_hand fun _ _ _ _ _ _ us hl => match us, hl with | [_], _ => rfl
  have b__law_draw : Binds K d__law_draw ["_law_hand_here", "_law_many"] [] := FunD.bindsN F__law_draw fun _ _ _ _ _ _ us hl => match us, hl with | [_, _], _ => rfl
  have b__law_pick : Binds K d__law_pick ["_law_hand_here", "_law_things"] [] := FunD.bindsN F__law_pick fun _ _ _ _ _ _ us hl => match us, hl with | [_, _], _ => rfl
  have b__law_ways : Binds K d__law_ways ["_law_least", "_law_most"] [] := FunD.bindsN F__law_ways fun _ _ _ _ _ _ us hl => match us, hl with | [_, _], _ => rfl
  have b__law_sources : Binds K d__law_sources ["_law_width"] [] := FunD.bindsN F__law_sources fun _ _ _ _ _ _ us hl => match us, hl with | [_], _ => rfl
  have b__law_houses : Binds K d__law_houses ["_law_width"] [] := FunD.bindsN F__law_houses fun _ _ _ _ _ _ us hl => match us, hl with | [_], _ => rfl
  have b__law_make_condition : Binds K d__law_make_condition ["_law_row_here"] [] := FunD.bindsN F__law_make_condition fun _ _ _ _ _ _ us hl => match us, hl with | [_], _ => rfl
  have b__law_free : Binds K d__law_free ["_law_bars"] [] := FunD.bindsN F__law_free fun _ _ _ _ _ _ us hl => match us, hl with | [_], _ => rfl
  have b__law_take : Binds K d__law_take ["_law_source", "_law_made"] [] := FunD.bindsN F__law_take fun _ _ _ _ _ _ us hl => match us, hl with | [_, _], _ => rfl
  have b__law_condition_text : Binds K d__law_condition_text ["_law_row_here"] [] := FunD.bindsN F__law_condition_text fun _ _ _ _ _ _ us hl => match us, hl with | [_], _ => rfl
  have b__law_clause_text : Binds K d__law_clause_text ["_law_row_here"] [] := FunD.bindsN F__law_clause_text fun _ _ _ _ _ _ us hl => match us, hl with | [_], _ => rfl
  have b__law_thing : Binds K d__law_thing ["_law_hand_here", "_law_good"] [] := FunD.bindsN F__law_thing fun _ _ _ _ _ _ us hl => match us, hl with | [_, _], _ => rfl
  have b__law_is_way : Binds K d__law_is_way ["_law_thing_here"] [] := FunD.bindsN F__law_is_way fun _ _ _ _ _ _ us hl => match us, hl with | [_], _ => rfl
  have b__law_is_source : Binds K d__law_is_source ["_law_thing_here"] [] := FunD.bindsN F__law_is_source fun _ _ _ _ _ _ us hl => match us, hl with | [_], _ => rfl
  have b__law_row : Binds K d__law_row ["_law_hand_here"] [] := FunD.bindsN F__law_row fun _ _ _ _ _ _ us hl => match us, hl with | [_], _ => rfl
  have b__law_fault : Binds K d__law_fault ["_law_row_here"] [] := FunD.bindsN F__law_fault fun _ _ _ _ _ _ us hl => match us, hl with | [_], _ => rfl
  have b__law_told : Binds K d__law_told ["_law_row_here"] [] := FunD.bindsN F__law_told fun _ _ _ _ _ _ us hl => match us, hl with | [_], _ => rfl
  have b__law_parts : Binds K d__law_parts ["_law_made", "_law_row_here"] [] := FunD.bindsN F__law_parts fun _ _ _ _ _ _ us hl => match us, hl with | [_, _], _ => rfl
  have b__law_condition_right : Binds K d__law_condition_right ["_law_row_here"] [] := FunD.bindsN F__law_condition_right fun _ _ _ _ _ _ us hl => match us, hl with | [_], _ => rfl
  have b__law_take_of : Binds K d__law_take_of ["_law_source", "_law_parts_here"] [] := FunD.bindsN F__law_take_of fun _ _ _ _ _ _ us hl => match us, hl with | [_, _], _ => rfl
  have b__law_free_of : Binds K d__law_free_of ["_law_bars"] [] := FunD.bindsN F__law_free_of fun _ _ _ _ _ _ us hl => match us, hl with | [_], _ => rfl
  have b__law_first : Binds K d__law_first ["_law_parts_here", "_law_word", "_law_fine"] [] := FunD.bindsN F__law_first fun _ _ _ _ _ _ us hl => match us, hl with | [_, _, _], _ => rfl
  have b__law_take_right : Binds K d__law_take_right ["_law_hand_here", "_law_good"] [] := FunD.bindsN F__law_take_right fun _ _ _ _ _ _ us hl => match us, hl with | [_, _], _ => rfl
  have b__law_free_right : Binds K d__law_free_right ["_law_hand_here"] [] := FunD.bindsN F__law_free_right fun _ _ _ _ _ _ us hl => match us, hl with | [_], _ => rfl
  have b__law_equal : Binds K d__law_equal ["_law_hand_here", "_law_good"] [] := FunD.bindsN F__law_equal fun _ _ _ _ _ _ us hl => match us, hl with | [_, _], _ => rfl
  have b_BadCondition__init__ : Binds K d_BadCondition__init__ ["self", "what"] [] := FunD.bindsN F_BadCondition__init__ fun _ _ _ _ _ _ us hl => match us, hl with | [_, _], _ => rfl
  have b_BadClause__init__ : Binds K d_BadClause__init__ ["self", "index", "what"] [] := FunD.bindsN F_BadClause__init__ fun _ _ _ _ _ _ us hl => match us, hl with | [_, _, _], _ => rfl
  have b_Number__init__ : Binds K d_Number__init__ ["self", "n"] [] := FunD.bindsN F_Number__init__ fun _ _ _ _ _ _ us hl => match us, hl with | [_, _], _ => rfl
  have b_Alive__init__ : Binds K d_Alive__init__ ["self", "way"] [] := FunD.bindsN F_Alive__init__ fun _ _ _ _ _ _ us hl => match us, hl with | [_, _], _ => rfl
  have b_Dead__init__ : Binds K d_Dead__init__ ["self", "way"] [] := FunD.bindsN F_Dead__init__ fun _ _ _ _ _ _ us hl => match us, hl with | [_, _], _ => rfl
  have b_Unlike__init__ : Binds K d_Unlike__init__ ["self", "one", "other"] [] := FunD.bindsN F_Unlike__init__ fun _ _ _ _ _ _ us hl => match us, hl with | [_, _, _], _ => rfl
  have b_Number__eq__ : Binds K d_Number__eq__ ["self", "other"] [] := FunD.bindsN F_Number__eq__ fun _ _ _ _ _ _ us hl => match us, hl with | [_, _], _ => rfl
  have b_Alive__eq__ : Binds K d_Alive__eq__ ["self", "other"] [] := FunD.bindsN F_Alive__eq__ fun _ _ _ _ _ _ us hl => match us, hl with | [_, _], _ => rfl
  have b_Dead__eq__ : Binds K d_Dead__eq__ ["self", "other"] [] := FunD.bindsN F_Dead__eq__ fun _ _ _ _ _ _ us hl => match us, hl with | [_, _], _ => rfl
  have b_Unlike__eq__ : Binds K d_Unlike__eq__ ["self", "other"] [] := FunD.bindsN F_Unlike__eq__ fun _ _ _ _ _ _ us hl => match us, hl with | [_, _], _ => rfl
  have b_Unborne__eq__ : Binds K d_Unborne__eq__ ["self", "other"] [] := FunD.bindsN F_Unborne__eq__ fun _ _ _ _ _ _ us hl => match us, hl with | [_, _], _ => rfl
  have b_Never__eq__ : Binds K d_Never__eq__ ["self", "other"] [] := FunD.bindsN F_Never__eq__ fun _ _ _ _ _ _ us hl => match us, hl with | [_, _], _ => rfl
  have b_Take__eq__ : Binds K d_Take__eq__ ["self", "other"] [] := FunD.bindsN F_Take__eq__ fun _ _ _ _ _ _ us hl => match us, hl with | [_, _], _ => rfl
  have b_Free__eq__ : Binds K d_Free__eq__ ["self", "other"] [] := FunD.bindsN F_Free__eq__ fun _ _ _ _ _ _ us hl => match us, hl with | [_, _], _ => rfl
  have b_Number__str__ : Binds K d_Number__str__ ["self"] [] := FunD.bindsN F_Number__str__ fun _ _ _ _ _ _ us hl => match us, hl with | [_], _ => rfl
  have b_Alive__str__ : Binds K d_Alive__str__ ["self"] [] := FunD.bindsN F_Alive__str__ fun _ _ _ _ _ _ us hl => match us, hl with | [_], _ => rfl
  have b_Dead__str__ : Binds K d_Dead__str__ ["self"] [] := FunD.bindsN F_Dead__str__ fun _ _ _ _ _ _ us hl => match us, hl with | [_], _ => rfl
  have b_Unlike__str__ : Binds K d_Unlike__str__ ["self"] [] := FunD.bindsN F_Unlike__str__ fun _ _ _ _ _ _ us hl => match us, hl with | [_], _ => rfl
  have b_Unborne__str__ : Binds K d_Unborne__str__ ["self"] [] := FunD.bindsN F_Unborne__str__ fun _ _ _ _ _ _ us hl => match us, hl with | [_], _ => rfl
  have b_Never__str__ : Binds K d_Never__str__ ["self"] [] := FunD.bindsN F_Never__str__ fun _ _ _ _ _ _ us hl => match us, hl with | [_], _ => rfl
  have b_Take__str__ : Binds K d_Take__str__ ["self"] [] := FunD.bindsN F_Take__str__ fun _ _ _ _ _ _ us hl => match us, hl with | [_], _ => rfl
  have b_Free__str__ : Binds K d_Free__str__ ["self"] [] := FunD.bindsN F_Free__str__ fun _ _ _ _ _ _ us hl => match us, hl with | [_], _ => rfl
  have kb_Number : KBn K d_Number__init__ ["self", "n"] 1 ["n"] kAp kApV := kbindsN F_Number__init__ 1 ["n"] fun _ _ _ _ _ _ us ws h1 h2 => match us, h1, ws, h2 with | [_], _, [_], _ => rfl
  have kb_Alive : KBn K d_Alive__init__ ["self", "way"] 1 ["way"] kAp kApV := kbindsN F_Alive__init__ 1 ["way"] fun _ _ _ _ _ _ us ws h1 h2 => match us, h1, ws, h2 with | [_], _, [_], _ => rfl
  have kb_Dead : KBn K d_Dead__init__ ["self", "way"] 1 ["way"] kAp kApV := kbindsN F_Dead__init__ 1 ["way"] fun _ _ _ _ _ _ us ws h1 h2 => match us, h1, ws, h2 with | [_], _, [_], _ => rfl
  have kb_Unlike : KBn K d_Unlike__init__ ["self", "one", "other"] 1 ["one", "other"] kAp kApV := kbindsN F_Unlike__init__ 1 ["one", "other"] fun _ _ _ _ _ _ us ws h1 h2 => match us, h1, ws, h2 with | [_], _, [_, _], _ => rfl
  have T_Number : ConC K (He.ga K "Number") ["n"] := ⟨(He.cls_ok (c.fact_ 61 (f := .cls "Number") rfl)), fun n h => by rw [List.mem_singleton.mp h]; exact (He.noat_ok (c.fact_ 63 (f := .noat "Number" "n") rfl))⟩
  have T_Alive : ConC K (He.ga K "Alive") ["way"] := ⟨(He.cls_ok (c.fact_ 64 (f := .cls "Alive") rfl)), fun n h => by rw [List.mem_singleton.mp h]; exact (He.noat_ok (c.fact_ 66 (f := .noat "Alive" "way") rfl))⟩
  have T_Dead : ConC K (He.ga K "Dead") ["way"] := ⟨(He.cls_ok (c.fact_ 67 (f := .cls "Dead") rfl)), fun n h => by rw [List.mem_singleton.mp h]; exact (He.noat_ok (c.fact_ 69 (f := .noat "Dead" "way") rfl))⟩
  have T_Unlike : ConC K (He.ga K "Unlike") ["one", "other"] := ⟨(He.cls_ok (c.fact_ 70 (f := .cls "Unlike") rfl)), fun n h => by
    rcases List.mem_cons.mp h with rfl | h
    · exact (He.noat_ok (c.fact_ 72 (f := .noat "Unlike" "one") rfl))
    · rw [List.mem_singleton.mp h]
      exact (He.noat_ok (c.fact_ 73 (f := .noat "Unlike" "other") rfl))⟩
  have T_Unborne : ConC K (He.ga K "Unborne") [] := ⟨(He.cls_ok (c.fact_ 74 (f := .cls "Unborne") rfl)), fun n h => by cases h⟩
  have T_Never : ConC K (He.ga K "Never") [] := ⟨(He.cls_ok (c.fact_ 75 (f := .cls "Never") rfl)), fun n h => by cases h⟩
  have T_Take : ConC K (He.ga K "Take") ["source", "conditions"] := ⟨(He.cls_ok (c.fact_ 76 (f := .cls "Take") rfl)), fun n h => by
    rcases List.mem_cons.mp h with rfl | h
    · exact (He.noat_ok (c.fact_ 78 (f := .noat "Take" "source") rfl))
    · rw [List.mem_singleton.mp h]
      exact (He.noat_ok (c.fact_ 79 (f := .noat "Take" "conditions") rfl))⟩
  have T_Free : ConC K (He.ga K "Free") ["bars"] := ⟨(He.cls_ok (c.fact_ 80 (f := .cls "Free") rfl)), fun n h => by rw [List.mem_singleton.mp h]; exact (He.noat_ok (c.fact_ 82 (f := .noat "Free" "bars") rfl))⟩
  obtain ⟨r1, r⟩ := b2 c.rest
  obtain ⟨r2, r⟩ := b2 r
  obtain ⟨r3, r⟩ := b2 r
  obtain ⟨r4, r⟩ := b2 r
  obtain ⟨r5, r⟩ := b2 r
  obtain ⟨r6, r⟩ := b2 r
  obtain ⟨r7, r⟩ := b2 r
  obtain ⟨r8, r⟩ := b2 r
  obtain ⟨r9, r⟩ := b2 r
  obtain ⟨r10, r⟩ := b2 r
  obtain ⟨r11, r⟩ := b2 r
  obtain ⟨r12, r⟩ := b2 r
  obtain ⟨r13, r⟩ := b2 r
  obtain ⟨r14, r⟩ := b2 r
  obtain ⟨r15, r16⟩ := b2 r
  have bC := badE_ok r1
  have bL := badE_ok r2
  obtain ⟨q1, q2, q3⟩ := cauB_ok r4
  obtain ⟨q4, q5, q6⟩ := cauB_ok r5
  have ci : ∀ x ∈ six, CiF K true x := fun x hx => ciB_ok (List.all_eq_true.mp r6 x hx)
  have i_Number := ci "Number" (by simp [six])
  have i_Alive := ci "Alive" (by simp [six])
  have i_Dead := ci "Dead" (by simp [six])
  have i_Unlike := ci "Unlike" (by simp [six])
  have i_Unborne := ci "Unborne" (by simp [six])
  have i_Never := ci "Never" (by simp [six])
  have i_Take := ciB_ok r7
  have i_Free := ciB_ok r8
  obtain ⟨n1, n⟩ := b2 r13
  obtain ⟨n2, n⟩ := b2 n
  obtain ⟨n3, n⟩ := b2 n
  obtain ⟨n4, n⟩ := b2 n
  obtain ⟨n5, n⟩ := b2 n
  obtain ⟨n6, n7⟩ := b2 n
  have hB : ∀ t ∈ ["NoneType", "str", "int", "bool", "tuple"], PySem.W.kitOne K (.type t) (.ref (He.ga K "Condition")) = some false := fun t ht => of_decide_eq_true (List.all_eq_true.mp r14 t ht)
  have hS1 : ∀ H, SqT K H (He.ga K "SOURCES") (srcs.map V.str) := fun H => He.tupB_ok r15 H
  have hS2 : ∀ H, SqT K H (He.ga K "BAR_WORDS") (wordsB.map V.str) := fun H => He.tupB_ok r16 H
  have e := hfa.symm.trans g_law
  cases e
  have b_law := FunD.bindsA (ps := ["_law_script"]) F_law fun _ _ _ _ _ _ us hl => match us, hl with | [_], _ => rfl
  obtain ⟨es, nk, KD⟩ := He.dicW_ok c.tab
  refine ⟨d_law, fun s v => b_law s [v] rfl, fun base KX KG => ?_⟩
  have D_is_whole : Df P w K mg base "is_whole" 1 ["thing", "low", "high"] spWhole (He.ga K "is_whole") d_is_whole := ⟨g_is_whole, ok_whole F_is_whole z_int z_bool z_isinstance, b_is_whole, F_is_whole.kp⟩
  have D_is_way : Df P w K mg base "is_way" 1 ["thing", "least", "most"] spWay (He.ga K "is_way") d_is_way := ⟨g_is_way, ok_way F_is_way z_str z_isinstance z_len z_all g_PARENT_KIND KD (pk_ns c.tab), b_is_way, F_is_way.kp⟩
  have D_is_source : Df P w K mg base "is_source" 1 ["thing"] (spSrc srcV) (He.ga K "is_source") d_is_source := ⟨g_is_source, ok_src F_is_source z_str z_isinstance g_SOURCES hS1, b_is_source, F_is_source.kp⟩
  have D_is_bar : Df P w K mg base "is_bar" 2 ["thing"] (spSrc barV) (He.ga K "is_bar") d_is_bar := ⟨g_is_bar, ok_bar F_is_bar z_str z_isinstance g_BAR_WORDS hS2 D_is_source, b_is_bar, F_is_bar.kp⟩
  have X1 : ErrC P w K mg base "BadCondition" ["self", "what"] spMtErr (He.ga K "BadCondition") _ d_BadCondition__init__ := ⟨bC.ox, bC.ini, bC.ty, g_BadCondition, ok_mtErr F_BadCondition__init__ bC.ox (He.noat_ok (c.fact_ 83 (f := .noat "BadCondition" "what") rfl)), b_BadCondition__init__⟩
  have X2 : ErrC P w K mg base "BadClause" ["self", "index", "what"] spPatErr (He.ga K "BadClause") _ d_BadClause__init__ := ⟨bL.ox, bL.ini, bL.ty, g_BadClause, ok_patErr F_BadClause__init__ bL.ox (He.noat_ok (c.fact_ 84 (f := .noat "BadClause" "index") rfl)) (He.noat_ok (c.fact_ 85 (f := .noat "BadClause" "what") rfl)), b_BadClause__init__⟩
  have MN : MkI P w K mg base "Number" 3 ["self", "n"] (mkN (csK K) (He.ga K "BadCondition")) (csK K).n _ d_Number__init__ := ⟨(He.mkr_ok (c.fact_ 62 (f := .mkr "Number") rfl)), g_Number, ok_numC F_Number__init__ T_Number D_is_whole X1, b_Number__init__⟩
  have MA : MkI P w K mg base "Alive" 3 ["self", "way"] (mkA (csK K) (He.ga K "BadCondition")) (csK K).a _ d_Alive__init__ := ⟨(He.mkr_ok (c.fact_ 65 (f := .mkr "Alive") rfl)), g_Alive, ok_aliveC F_Alive__init__ T_Alive D_is_way X1, b_Alive__init__⟩
  have MD : MkI P w K mg base "Dead" 3 ["self", "way"] (mkD (csK K) (He.ga K "BadCondition")) (csK K).d _ d_Dead__init__ := ⟨(He.mkr_ok (c.fact_ 68 (f := .mkr "Dead") rfl)), g_Dead, ok_deadC F_Dead__init__ T_Dead D_is_way X1, b_Dead__init__⟩
  have MU : MkI P w K mg base "Unlike" 3 ["self", "one", "other"] (mkU (csK K) (He.ga K "BadCondition")) (csK K).u _ d_Unlike__init__ := ⟨(He.mkr_ok (c.fact_ 71 (f := .mkr "Unlike") rfl)), g_Unlike, ok_unlikeC F_Unlike__init__ T_Unlike D_is_source X1, b_Unlike__init__⟩
  have MB : MkO K mg "Unborne" (csK K).b := ⟨bareB_ok r9 i_Unborne, g_Unborne⟩
  have MV : MkO K mg "Never" (csK K).v := ⟨bareB_ok r10 i_Never, g_Never⟩
  have MT : MkR P w K mg base "Take" (spTake K (He.ga K "Take") (He.ga K "Condition") (He.ga K "BadClause")) (He.ga K "Take") _ := ⟨(He.mkr_ok (c.fact_ 77 (f := .mkr "Take") rfl)), g_Take, ok_take F_Take__init__ T_Take z_len z_enumerate z_isinstance g_MOST g_Condition D_is_source X2⟩
  have MF : MkR P w K mg base "Free" (spFree (He.ga K "Free") (He.ga K "BadClause")) (He.ga K "Free") _ := ⟨(He.mkr_ok (c.fact_ 81 (f := .mkr "Free") rfl)), g_Free, ok_free F_Free__init__ T_Free z_len z_enumerate g_MOST D_is_bar X2⟩
  have hS : ∀ p ∈ csOf (csK K), StrOk P w K mg base p := fun p hp => by
    simp only [csOf, List.mem_cons, List.not_mem_nil, or_false] at hp
    rcases hp with rfl | rfl | rfl | rfl | rfl | rfl
    · exact ⟨_, _, ok_numS F_Number__str__ T_Number, i_Number.st, i_Number.sf, b_Number__str__⟩
    · exact ⟨_, _, ok_aliveS F_Alive__str__ T_Alive, i_Alive.st, i_Alive.sf, b_Alive__str__⟩
    · exact ⟨_, _, ok_deadS F_Dead__str__ T_Dead, i_Dead.st, i_Dead.sf, b_Dead__str__⟩
    · exact ⟨_, _, ok_unlikeS F_Unlike__str__ T_Unlike, i_Unlike.st, i_Unlike.sf, b_Unlike__str__⟩
    · exact ⟨_, _, ok_unborneS F_Unborne__str__, i_Unborne.st, i_Unborne.sf, b_Unborne__str__⟩
    · exact ⟨_, _, ok_neverS F_Never__str__, i_Never.st, i_Never.sf, b_Never__str__⟩
  have hQ : CndEq P w K mg base (csK K) := by
    refine ⟨fun k hk => ?_, fun k hk => ?_, fun i j hi hj => ?_, cs_inj (of_decide_eq_true n6)⟩
    · match k, hk with
      | 0, _ => exact ⟨_, _, ok_numE F_Number__eq__ T_Number z_type, i_Number.eq, i_Number.ef, b_Number__eq__⟩
      | 1, _ => exact ⟨_, _, ok_aliveE F_Alive__eq__ T_Alive z_type, i_Alive.eq, i_Alive.ef, b_Alive__eq__⟩
      | 2, _ => exact ⟨_, _, ok_deadE F_Dead__eq__ T_Dead z_type, i_Dead.eq, i_Dead.ef, b_Dead__eq__⟩
      | 3, _ => exact ⟨_, _, ok_unlikeE F_Unlike__eq__ T_Unlike z_type, i_Unlike.eq, i_Unlike.ef, b_Unlike__eq__⟩
      | 4, _ => exact ⟨_, _, ok_unborneE F_Unborne__eq__ z_type, i_Unborne.eq, i_Unborne.ef, b_Unborne__eq__⟩
      | 5, _ => exact ⟨_, _, ok_neverE F_Never__eq__ z_type, i_Never.eq, i_Never.ef, b_Never__eq__⟩
      | k + 6, h => exact absurd h (by omega)
    · rw [(cs_name K k hk).1]
      exact (ci _ (cs_name K k hk).2).mks
    · rw [(cs_name K i hi).1, (cs_name K j hj).1]
      exact List.all_eq_true.mp (List.all_eq_true.mp n1 _ (cs_name K i hi).2) _ (cs_name K j hj).2
  have hN : CndNe K (csK K) := by
    refine ⟨fun k hk => ?_, fun k hk => ?_, fun k hk => ?_⟩
    · rw [(cs_name K k hk).1]
      exact (ci _ (cs_name K k hk).2).ne
    · rw [(cs_name K k hk).1]
      exact (ci _ (cs_name K k hk).2).ob
    · rw [(cs_name K k hk).1]
      exact (ci _ (cs_name K k hk).2).nt
  have hI : ∀ C ∈ (csK K).all, ClsI K (He.ga K "Condition") true C := fun C hC => by
    simp only [C6.all, csK, List.mem_cons, List.not_mem_nil, or_false] at hC
    rcases hC with rfl | rfl | rfl | rfl | rfl | rfl
    · exact i_Number.clsI r3 T_Number.cl
    · exact i_Alive.clsI r3 T_Alive.cl
    · exact i_Dead.clsI r3 T_Dead.cl
    · exact i_Unlike.clsI r3 T_Unlike.cl
    · exact i_Unborne.clsI r3 T_Unborne.cl
    · exact i_Never.clsI r3 T_Never.cl
  have TI : ClsI K (He.ga K "Condition") false (He.ga K "Take") := i_Take.clsI r3 T_Take.cl
  have FI : ClsI K (He.ga K "Condition") false (He.ga K "Free") := i_Free.clsI r3 T_Free.cl
  have Y1 : CauX K mg "BadCondition" "BadClause" ["what"] (He.ga K "BadCondition") (He.ga K "CustomError") (He.ga K "BadClause") := ⟨g_BadCondition, bC.xf, bC.xc r3, fun n h => by rw [List.mem_singleton.mp h]; exact (He.noat_ok (c.fact_ 83 (f := .noat "BadCondition" "what") rfl)), (He.exm_ok (c.fact_ 86 (f := .exm "BadCondition" "BadCondition" true) rfl)), g_CustomError, q1, q2, g_BadClause, q3⟩
  have Y2 : CauX K mg "BadClause" "BadCondition" ["index", "what"] (He.ga K "BadClause") (He.ga K "CustomError") (He.ga K "BadCondition") := ⟨g_BadClause, bL.xf, bL.xc r3, fun n h => by
    rcases List.mem_cons.mp h with rfl | h
    · exact (He.noat_ok (c.fact_ 84 (f := .noat "BadClause" "index") rfl))
    · rw [List.mem_singleton.mp h]
      exact (He.noat_ok (c.fact_ 85 (f := .noat "BadClause" "what") rfl)), (He.exm_ok (c.fact_ 87 (f := .exm "BadClause" "BadClause" true) rfl)), g_CustomError, q4, q5, g_BadCondition, q6⟩
  have D_listed : Df P w K mg base "listed" 5 ["things"] (spListed (csOf (csK K))) (He.ga K "listed") d_listed := ⟨g_listed, ok_listed F_listed z_str hS, b_listed, F_listed.kp⟩
  have TS : StrC P w K mg base (He.ga K "Take") 6 (spTakS (csOf (csK K)) (He.ga K "Take")) _ d_Take__str__ := ⟨ok_takeS F_Take__str__ T_Take D_listed, i_Take.st, i_Take.sf, b_Take__str__⟩
  have FS : StrC P w K mg base (He.ga K "Free") 6 (spFreS (csOf (csK K)) (He.ga K "Free")) _ d_Free__str__ := ⟨ok_freeS F_Free__str__ T_Free D_listed, i_Free.st, i_Free.sf, b_Free__str__⟩
  have TE : EqC P w K mg base (He.ga K "Take") 3 (spTakE K (csK K) (He.ga K "Take")) _ d_Take__eq__ := ⟨ok_takeE F_Take__eq__ T_Take z_type hQ, i_Take.nec, b_Take__eq__⟩
  have FE : EqC P w K mg base (He.ga K "Free") 3 (spFreE K (He.ga K "Free")) _ d_Free__eq__ := ⟨ok_freeE F_Free__eq__ T_Free z_type, i_Free.nec, b_Free__eq__⟩
  have D_draw0 : Df P w K mg base "_law_draw" 2 ["_law_hand_here", "_law_many"] spDraw (He.ga K "_law_draw") d__law_draw := ⟨g__law_draw, ok_draw F__law_draw z_int z_len F__law_mix g__law_mix, b__law_draw, F__law_draw.kp⟩
  have D__law_hand : Df P w K mg base "_law_hand" 1 ["_law_script"] (spHand K) (He.ga K "_law_hand") d__law_hand := ⟨g__law_hand, ok_hand F__law_hand z_int z_abs z_enumerate, b__law_hand, F__law_hand.kp⟩
  have D_pick0 : Df P w K mg base "_law_pick" 3 ["_law_hand_here", "_law_things"] (spPick K) (He.ga K "_law_pick") d__law_pick := ⟨g__law_pick, ok_pick F__law_pick z_len D_draw0, b__law_pick, F__law_pick.kp⟩
  have D__law_draw := D_draw0.draw
  have D__law_pick := D_pick0.pick
  have D__law_ways : Df P w K mg base "_law_ways" 1 ["_law_least", "_law_most"] spWays (He.ga K "_law_ways") d__law_ways := ⟨g__law_ways, ok_ways F__law_ways z_range, b__law_ways, F__law_ways.kp⟩
  have D__law_houses : Df P w K mg base "_law_houses" 1 ["_law_width"] spHou (He.ga K "_law_houses") d__law_houses := ⟨g__law_houses, ok_hou F__law_houses z_range, b__law_houses, F__law_houses.kp⟩
  have D__law_sources : Df P w K mg base "_law_sources" 2 ["_law_width"] spLsr (He.ga K "_law_sources") d__law_sources := ⟨g__law_sources, ok_lsr F__law_sources D__law_ways D__law_houses, b__law_sources, F__law_sources.kp⟩
  have D__law_is_way : Df P w K mg base "_law_is_way" 2 ["_law_thing_here"] (spAsk fun v => wayV v 1 3) (He.ga K "_law_is_way") d__law_is_way := ⟨g__law_is_way, ok_isWay F__law_is_way z_str z_isinstance D__law_ways, b__law_is_way, F__law_is_way.kp⟩
  have D__law_is_source : Df P w K mg base "_law_is_source" 3 ["_law_thing_here"] (spAsk srcV) (He.ga K "_law_is_source") d__law_is_source := ⟨g__law_is_source, ok_isSrc F__law_is_source z_str z_isinstance D__law_sources, b__law_is_source, F__law_is_source.kp⟩
  have D__law_thing : Df P w K mg base "_law_thing" 4 ["_law_hand_here", "_law_good"] spThg (He.ga K "_law_thing") d__law_thing := ⟨g__law_thing, ok_thg F__law_thing D__law_draw D__law_pick, b__law_thing, F__law_thing.kp⟩
  have D__law_row : Df P w K mg base "_law_row" 5 ["_law_hand_here"] spRow (He.ga K "_law_row") d__law_row := ⟨g__law_row, ok_row F__law_row D__law_draw D__law_pick D__law_thing D__law_ways D__law_sources, b__law_row, F__law_row.kp⟩
  have D__law_fault : Df P w K mg base "_law_fault" 4 ["_law_row_here"] spFlt (He.ga K "_law_fault") d__law_fault := ⟨g__law_fault, ok_flt F__law_fault z_int z_bool z_isinstance D__law_is_way D__law_is_source, b__law_fault, F__law_fault.kp⟩
  have D__law_make_condition : DfX P w K mg base "_law_make_condition" 5 ["_law_row_here"] (spMkc (csK K) (He.ga K "BadCondition")) (He.ga K "_law_make_condition") d__law_make_condition := ⟨g__law_make_condition, ok_mkc F__law_make_condition MN MA MD MU MB MV, b__law_make_condition, F__law_make_condition.kp⟩
  have D__law_condition_text : Df P w K mg base "_law_condition_text" 1 ["_law_row_here"] spCtx (He.ga K "_law_condition_text") d__law_condition_text := ⟨g__law_condition_text, ok_ctx F__law_condition_text z_len z_str, b__law_condition_text, F__law_condition_text.kp⟩
  have D__law_parts : Df P w K mg base "_law_parts" 1 ["_law_made", "_law_row_here"] (spPar (csK K)) (He.ga K "_law_parts") d__law_parts := ⟨g__law_parts, ok_par F__law_parts T_Number T_Alive T_Dead T_Unlike, b__law_parts, F__law_parts.kp⟩
  have D__law_told : Df P w K mg base "_law_told" 6 ["_law_row_here"] (spTold (csK K)) (He.ga K "_law_told") d__law_told := ⟨g__law_told, ok_told F__law_told z_isinstance z_ValueError Y1 D__law_make_condition.gl D__law_make_condition.ok D__law_make_condition.bi D__law_make_condition.kp, b__law_told, F__law_told.kp⟩
  have D__law_condition_right : Df P w K mg base "_law_condition_right" 7 ["_law_row_here"] spCnr (He.ga K "_law_condition_right") d__law_condition_right := ⟨g__law_condition_right, ok_cnr F__law_condition_right z_isinstance z_str g_Condition hI hS D__law_fault D__law_told D__law_parts D__law_condition_text, b__law_condition_right, F__law_condition_right.kp⟩
  have D__law_free : DfX P w K mg base "_law_free" 5 ["_law_bars"] (spLFr (He.ga K "Free") (He.ga K "BadClause")) (He.ga K "_law_free") d__law_free := ⟨g__law_free, ok_lfr F__law_free z_len MF, b__law_free, F__law_free.kp⟩
  have D__law_take : DfX P w K mg base "_law_take" 5 ["_law_source", "_law_made"] (spLTk K (He.ga K "Take") (He.ga K "Condition") (He.ga K "BadClause")) (He.ga K "_law_take") d__law_take := ⟨g__law_take, ok_ltk F__law_take z_len MT, b__law_take, F__law_take.kp⟩
  have D__law_take_of : Df P w K mg base "_law_take_of" 6 ["_law_source", "_law_parts_here"] (spTof K (He.ga K "Take") (He.ga K "Condition")) (He.ga K "_law_take_of") d__law_take_of := ⟨g__law_take_of, ok_tof F__law_take_of z_len z_isinstance Y2 MT D__law_take.gl D__law_take.ok D__law_take.bi D__law_take.kp, b__law_take_of, F__law_take_of.kp⟩
  have D__law_free_of : Df P w K mg base "_law_free_of" 6 ["_law_bars"] (spFof (He.ga K "Free")) (He.ga K "_law_free_of") d__law_free_of := ⟨g__law_free_of, ok_fof F__law_free_of z_len z_isinstance Y2 MF D__law_free.gl D__law_free.ok D__law_free.bi D__law_free.kp, b__law_free_of, F__law_free_of.kp⟩
  have D__law_first : Df P w K mg base "_law_first" 1 ["_law_parts_here", "_law_word", "_law_fine"] spFst (He.ga K "_law_first") d__law_first := ⟨g__law_first, ok_fst F__law_first z_len z_enumerate, b__law_first, F__law_first.kp⟩
  have D__law_clause_text : Df P w K mg base "_law_clause_text" 2 ["_law_row_here"] spClt (He.ga K "_law_clause_text") d__law_clause_text := ⟨g__law_clause_text, ok_clt F__law_clause_text D__law_condition_text, b__law_clause_text, F__law_clause_text.kp⟩
  have D__law_take_right : Df P w K mg base "_law_take_right" 9 ["_law_hand_here", "_law_good"] spTkr (He.ga K "_law_take_right") d__law_take_right := ⟨g__law_take_right, ok_tkr F__law_take_right z_isinstance z_len z_tuple z_str z_range D__law_draw D__law_pick D__law_thing D__law_sources D__law_is_source D__law_first D__law_take_of D__law_clause_text D__law_condition_text TS hS MT MF D__law_make_condition.gl D__law_make_condition.ok D__law_make_condition.bi D__law_make_condition.kp T_Take TI FI (manB_ok r11) hI hB, b__law_take_right, F__law_take_right.kp⟩
  have D__law_free_right : Df P w K mg base "_law_free_right" 9 ["_law_hand_here"] spFrr (He.ga K "_law_free_right") d__law_free_right := ⟨g__law_free_right, ok_frr F__law_free_right z_isinstance z_tuple z_str z_range D__law_draw D__law_thing D__law_sources D__law_is_source D__law_first D__law_free_of D__law_clause_text FS g_Free T_Free FI (manB_ok r12), b__law_free_right, F__law_free_right.kp⟩
  have D__law_equal : Df P w K mg base "_law_equal" 9 ["_law_hand_here", "_law_good"] spTkr (He.ga K "_law_equal") d__law_equal := ⟨g__law_equal, ok_equ F__law_equal D__law_draw D__law_pick D__law_make_condition D__law_take D__law_free hQ hN hI TE FE n2 n3 n4 n5 (of_decide_eq_true n7) i_Free.mks i_Take.mks, b__law_equal, F__law_equal.kp⟩
  exact ok_law F_law z_range hQ hN MN MA MD MU MB MV kb_Number kb_Alive kb_Dead kb_Unlike D__law_hand D__law_draw D__law_pick D__law_ways D__law_row D__law_condition_right D__law_fault D__law_take_right D__law_free_right D__law_equal
end
end K08
open PySem PySem.W PySem.Calls PyProof.Rows
set_option maxRecDepth 100000 in
set_option maxHeartbeats 0 in
theorem PySem.Challenge.cw_namesakes_k08_clauses_made_and_refused_holds : PySem.Challenge.rw_namesakes_k08_clauses_made_and_refused.Holds := by
  w_on; o_law
  refine HandSHeadRun.head_any (r := OpenLaw.row PySem.Challenge.rw_namesakes_k08_clauses_made_and_refused) (q := view (OpenLaw.row PySem.Challenge.rw_namesakes_k08_clauses_made_and_refused).prog [54]) (H := K08.hookM) (ob := K08.ob) (M := 20000) (loose := K08.looseL)
    (d := HandSHeadRun.topDef (OpenLaw.row PySem.Challenge.rw_namesakes_k08_clauses_made_and_refused).prog 54) (kwd := []) K08.ob_eq
    (by kernel_rfl) (fun s => by kernel_rfl) K08.run (by kernel_rfl) (by kernel_rfl) (by kernel_rfl) (by rfl) (by first | assumption | decide +kernel) (by decide +kernel) ⟨rfl, rfl, rfl, rfl, rfl, by decide +kernel⟩ ?hw ?hc
  case hw => w_witness2
  case hc =>
    refine L2.walk_ofE (l := PySem.Challenge.rw_namesakes_k08_clauses_made_and_refused) (n := 63) (k := 10) (x := "_law_script") (CX := L2.CX0) rfl (by decide) (by kernel_rfl) ⟨rfl, by decide, by decide⟩ ?F (fun _ _ _ _ z => z)
    intro w mg fa h Y G hmg0
    obtain ⟨K, KX, c⟩ := Y
    have hmg : mg ("law" : PySem.Str) = some (.ref fa) := by
      have e : (HandSHeadRun.topDef (OpenLaw.row PySem.Challenge.rw_namesakes_k08_clauses_made_and_refused).prog 54).name = ("law" : PySem.Str) := by kernel_rfl
      rw [← e]
      exact hmg0
    obtain ⟨fd, hb, hF⟩ := K08.facts (P := (PySem.Challenge.rw_namesakes_k08_clauses_made_and_refused).prog) (w := w) KX G hmg c
    exact ⟨K, fd, K08.spLaw K, KX, hb, fun H a ns hl _ hS => ⟨a, ns, rfl, hS, hl, fun _ => rfl⟩, hF⟩
