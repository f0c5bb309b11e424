import PyProof.Rows.All
import Wide.All
import OpenK.AllK
import Wide.FinOn
import KE.KStateDown
import KE.KExcIs
import HandS.ForMost
import HandS.Exc
import HandS.ExcOwn
import HandS.ExcInit
import HandS.ExcField
import HandS.ExcValue
import HandS.IsInst
import HandS.ExcIs
import HandS.Deep
import HandS.Wide
import HandS.Walk
import HandS.Flow
import HandS.Defaults
import HandS.Words
import HandS.WordsList
import HandS.Head0
import HandS.Head1
import HandS.Head2
import HandS.HeadEnd
import HandS.HeadHook1
import HandS.HeadHook2
import PySem.Challenge.RW_namesakes_k00_errors_side_by_side
set_option Elab.async false
set_option linter.all false
set_option maxRecDepth 100000
set_option maxHeartbeats 4000000
namespace K00
open PySem PySem.Spec PyProof.Rows L2
def top (i : Nat) : Stmt := PySem.Challenge.pw_namesakes_k00_errors_side_by_side.main.body.getD i (.Pass ⟨0, 0, 0, 0⟩)
abbrev sMix : Stmt := top 56
abbrev sHand : Stmt := top 57
abbrev sDraw : Stmt := top 58
abbrev sPick : Stmt := top 59
abbrev sThing : Stmt := top 60
abbrev sKinds : Stmt := top 61
abbrev sMade : Stmt := top 62
abbrev sFields : Stmt := top 63
abbrev sLaw : Stmt := top 64
abbrev FnP (K : PySem.W.Frag) (x : Str) (st : Stmt) (f : Addr) (fd : FuncData) : Prop := FunD K x x (defArgs st) (defBody st) (defScope st) [] [] f fd
end K00

namespace K00
open PySem PySem.Spec PyProof.Rows L2
/-! ### the classes: name, place in the text, fields -/
structure ClsD where
  name : Str
  at_ : Nat
  fields : List Str

def clsL : List ClsD := [⟨"BadRecord", 2, ["index", "what"]⟩,
  ⟨"NoPerson", 3, ["label"]⟩,
  ⟨"BadWay", 4, ["way"]⟩,
  ⟨"NoRow", 5, ["number"]⟩,
  ⟨"BadWidth", 6, ["width"]⟩,
  ⟨"BadText", 7, ["row", "what"]⟩,
  ⟨"BadPairs", 8, ["what"]⟩,
  ⟨"BadCondition", 9, ["what"]⟩,
  ⟨"BadClause", 10, ["index", "what"]⟩,
  ⟨"BadCustom", 11, ["part", "index", "what"]⟩,
  ⟨"BadKind", 12, ["kind"]⟩,
  ⟨"TooWide", 13, ["what"]⟩,
  ⟨"BadChoice", 14, ["label", "name", "bar"]⟩,
  ⟨"NoCouple", 15, ["father", "mother"]⟩,
  ⟨"NoPlace", 16, ["what"]⟩,
  ⟨"NoRoot", 17, ["root"]⟩,
  ⟨"BadOrder", 18, ["position", "what"]⟩,
  ⟨"BadPattern", 19, ["index", "what"]⟩,
  ⟨"BadNames", 20, ["index", "what"]⟩,
  ⟨"BadPlaces", 21, ["index", "what"]⟩,
  ⟨"BadClass", 22, ["number"]⟩,
  ⟨"BadMatch", 23, ["what"]⟩,
  ⟨"BadCount", 24, ["number"]⟩,
  ⟨"BadIndex", 25, ["index"]⟩,
  ⟨"BadJoining", 26, ["index", "what"]⟩,
  ⟨"NoRenaming", 27, ["place"]⟩,
  ⟨"BadScope", 28, ["what"]⟩,
  ⟨"BadState", 29, ["what"]⟩,
  ⟨"BadTable", 30, ["index", "what"]⟩,
  ⟨"BadPlay", 31, ["index"]⟩,
  ⟨"NeverComes", 32, ["state"]⟩,
  ⟨"NotUnwed", 33, ["label"]⟩,
  ⟨"BadAsked", 34, ["what"]⟩,
  ⟨"TooLong", 35, ["times"]⟩,
  ⟨"NoWays", 36, ["what"]⟩,
  ⟨"NoState", 37, ["state"]⟩,
  ⟨"BadWord", 38, ["word"]⟩,
  ⟨"BadLength", 39, ["length"]⟩,
  ⟨"BadOrigin", 40, ["origin"]⟩,
  ⟨"NotLet", 41, ["one", "other"]⟩,
  ⟨"BadNumber", 42, ["number"]⟩,
  ⟨"BadLine", 43, ["index", "what"]⟩,
  ⟨"BadGeneration", 44, ["n"]⟩,
  ⟨"UnlikePlans", 45, []⟩,
  ⟨"BadPair", 46, ["index", "what"]⟩,
  ⟨"BadLand", 47, ["what"]⟩,
  ⟨"BadSecond", 48, ["index", "what"]⟩,
  ⟨"BadPage", 49, ["index", "what"]⟩,
  ⟨"BadSeen", 50, ["index", "what"]⟩,
  ⟨"BadFilling", 51, ["what"]⟩,
  ⟨"BadNotice", 52, ["what"]⟩,
  ⟨"BadChange", 53, ["index", "what"]⟩,
  ⟨"BadPrices", 54, ["index"]⟩]

def oexB (K : PySem.W.Frag) (C : Addr) : Bool := match K.lookup C with
  | some ⟨.type t, _, .cls cd, sl⟩ => decide (t = "type") && (match cd.mro, sl.toList with
    | .ref C' :: bm, [_, _, _, _, some (.builtin n), _] => decide (C' = C) && (decide (n = "ValueError.__new__") && (cd.hasDict && (!cd.hasDel && PySem.HandSPX.refsVE bm)))
    | _, _ => false)
  | _ => false
/-- what isinstance and the reads of fields ask of a class -/
def excB (K : PySem.W.Frag) (D : Addr) : Bool :=
  decide (PySem.W.findIn K (.ref D) "__getattribute__" = some (some (.builtin "BaseException.__getattribute__"))) && (
  decide (PySem.W.findIn K (.ref D) "__getattr__" = some none) && (
  decide (PySem.W.subIn K (.ref D) (.type "BaseException") = some true) && (
  PySem.W.hasDictIn K D && (
  decide (PySem.W.findIn K (.ref D) "__class__" = some (some (.builtin "object.__class__"))) && (
  decide (PySem.W.mroIn K D (.type "object") = some true) && (
  decide (PySem.W.findIn K (.ref D) "__setattr__" = some (some (.builtin "object.__setattr__"))) && (
  decide (PySem.W.typeIn K (.ref D) = some (.type "type")) && (
  PySem.W.keepIn K (.ref D) && (
  decide (PySem.W.kitOne K (.ref D) (.type "ValueError") = some true))))))))))
def dunB (K : PySem.W.Frag) : Bool :=
  decide (PySem.W.specialIn K (.builtin "object.__class__") "__get__" = some (some (.builtin "getset_descriptor.__get__"))) && decide (PySem.W.takesIn K (.builtin "object.__class__") = some true)
/-- a class with an own __init__ -/
def iniB (K : PySem.W.Frag) (c : ClsD) : Bool :=
  oexB K (He.ga K c.name) && (excB K (He.ga K c.name) && (
  decide (PySem.W.findIn K (.ref (He.ga K c.name)) "__init__" = some (some (.ref (He.ma K (He.ga K c.name) "__init__")))) && (
  decide (PySem.W.typeIn K (.ref (He.ma K (He.ga K c.name) "__init__")) = some (.type "function")) && (
  c.fields.all fun f => decide (PySem.W.findIn K (.ref (He.ga K c.name)) f = some none)))))
/-- any of the classes -/
def clsB (K : PySem.W.Frag) (c : ClsD) : Bool := decide (PySem.W.nsIn K mainGlobals c.name = some (some (.ref (He.ga K c.name)))) && (
  decide ((PySem.W.clsIn K (He.ga K c.name)).map (·.mro) = some (.ref (He.ga K c.name) :: .ref (He.ga K "CustomError") :: He.veBase)) && (match c.fields with
  | [] => excB K (He.ga K c.name) && PySem.W.excIn K (He.ga K c.name) He.veBase "ValueError.__new__"
  | _ => iniB K c))
def nameAt (i : Nat) : Str := match clsL[i]? with
  | some c => c.name
  | none => "CustomError"
/-- the classes stand in the order of the text -/
def incB (K : PySem.W.Frag) : Bool := decide (He.ga K "CustomError" < He.ga K (nameAt 0)) && (List.range 52).all fun i => decide (He.ga K (nameAt i) < He.ga K (nameAt (i + 1)))
def cusB (K : PySem.W.Frag) : Bool := decide (PySem.W.nsIn K mainGlobals "CustomError" = some (some (.ref (He.ga K "CustomError")))) && (
  excB K (He.ga K "CustomError") && (PySem.W.excIn K (He.ga K "CustomError") He.veBase "ValueError.__new__" &&
  decide ((PySem.W.clsIn K (He.ga K "CustomError")).map (·.mro) = some (.ref (He.ga K "CustomError") :: He.veBase))))
def free : List Str := ["int", "abs", "len", "enumerate", "range", "isinstance", "ValueError"]
def glob : List Str := ["_law_mix", "_law_hand", "_law_draw", "_law_pick", "_law_thing", "_law_kinds", "_law_made", "_law_fields", "law"]
def allB (K : PySem.W.Frag) : Bool := (free.all fun x => decide (PySem.W.nsIn K mainGlobals x = some none)) && (
  (glob.all fun x => decide (PySem.W.nsIn K mainGlobals x = some (some (.ref (He.ga K x))))) && (
  dunB K && ((clsL.all fun c => clsB K c) && (cusB K && incB K))))
/-! ### the defs -/
def dG (x : Str) (st : Stmt) : He.DefD := ⟨(x, none), x, x, defArgs st, defBody st, defScope st, [], []⟩

def fn : List He.DefD := [dG "_law_mix" sMix,
  dG "_law_hand" sHand,
  dG "_law_draw" sDraw,
  dG "_law_pick" sPick,
  dG "_law_thing" sThing,
  dG "_law_kinds" sKinds,
  dG "_law_made" sMade,
  dG "_law_fields" sFields,
  dG "law" sLaw,
  ⟨("BadRecord", some "__init__"), "__init__", "BadRecord.__init__", defArgs (inClass (top 2) 0), defBody (inClass (top 2) 0), defScope (inClass (top 2) 0), [], []⟩,
  ⟨("NoPerson", some "__init__"), "__init__", "NoPerson.__init__", defArgs (inClass (top 3) 0), defBody (inClass (top 3) 0), defScope (inClass (top 3) 0), [], []⟩,
  ⟨("BadWay", some "__init__"), "__init__", "BadWay.__init__", defArgs (inClass (top 4) 0), defBody (inClass (top 4) 0), defScope (inClass (top 4) 0), [], []⟩,
  ⟨("NoRow", some "__init__"), "__init__", "NoRow.__init__", defArgs (inClass (top 5) 0), defBody (inClass (top 5) 0), defScope (inClass (top 5) 0), [], []⟩,
  ⟨("BadWidth", some "__init__"), "__init__", "BadWidth.__init__", defArgs (inClass (top 6) 0), defBody (inClass (top 6) 0), defScope (inClass (top 6) 0), [], []⟩,
  ⟨("BadText", some "__init__"), "__init__", "BadText.__init__", defArgs (inClass (top 7) 0), defBody (inClass (top 7) 0), defScope (inClass (top 7) 0), [], []⟩,
  ⟨("BadPairs", some "__init__"), "__init__", "BadPairs.__init__", defArgs (inClass (top 8) 0), defBody (inClass (top 8) 0), defScope (inClass (top 8) 0), [], []⟩,
  ⟨("BadCondition", some "__init__"), "__init__", "BadCondition.__init__", defArgs (inClass (top 9) 0), defBody (inClass (top 9) 0), defScope (inClass (top 9) 0), [], []⟩,
  ⟨("BadClause", some "__init__"), "__init__", "BadClause.__init__", defArgs (inClass (top 10) 0), defBody (inClass (top 10) 0), defScope (inClass (top 10) 0), [], []⟩,
  ⟨("BadCustom", some "__init__"), "__init__", "BadCustom.__init__", defArgs (inClass (top 11) 0), defBody (inClass (top 11) 0), defScope (inClass (top 11) 0), [], []⟩,
  ⟨("BadKind", some "__init__"), "__init__", "BadKind.__init__", defArgs (inClass (top 12) 0), defBody (inClass (top 12) 0), defScope (inClass (top 12) 0), [], []⟩,
  ⟨("TooWide", some "__init__"), "__init__", "TooWide.__init__", defArgs (inClass (top 13) 0), defBody (inClass (top 13) 0), defScope (inClass (top 13) 0), [], []⟩,
  ⟨("BadChoice", some "__init__"), "__init__", "BadChoice.__init__", defArgs (inClass (top 14) 0), defBody (inClass (top 14) 0), defScope (inClass (top 14) 0), [], []⟩,
  ⟨("NoCouple", some "__init__"), "__init__", "NoCouple.__init__", defArgs (inClass (top 15) 0), defBody (inClass (top 15) 0), defScope (inClass (top 15) 0), [], []⟩,
  ⟨("NoPlace", some "__init__"), "__init__", "NoPlace.__init__", defArgs (inClass (top 16) 0), defBody (inClass (top 16) 0), defScope (inClass (top 16) 0), [], []⟩,
  ⟨("NoRoot", some "__init__"), "__init__", "NoRoot.__init__", defArgs (inClass (top 17) 0), defBody (inClass (top 17) 0), defScope (inClass (top 17) 0), [], []⟩,
  ⟨("BadOrder", some "__init__"), "__init__", "BadOrder.__init__", defArgs (inClass (top 18) 0), defBody (inClass (top 18) 0), defScope (inClass (top 18) 0), [], []⟩,
  ⟨("BadPattern", some "__init__"), "__init__", "BadPattern.__init__", defArgs (inClass (top 19) 0), defBody (inClass (top 19) 0), defScope (inClass (top 19) 0), [], []⟩,
  ⟨("BadNames", some "__init__"), "__init__", "BadNames.__init__", defArgs (inClass (top 20) 0), defBody (inClass (top 20) 0), defScope (inClass (top 20) 0), [], []⟩,
  ⟨("BadPlaces", some "__init__"), "__init__", "BadPlaces.__init__", defArgs (inClass (top 21) 0), defBody (inClass (top 21) 0), defScope (inClass (top 21) 0), [], []⟩,
  ⟨("BadClass", some "__init__"), "__init__", "BadClass.__init__", defArgs (inClass (top 22) 0), defBody (inClass (top 22) 0), defScope (inClass (top 22) 0), [], []⟩,
  ⟨("BadMatch", some "__init__"), "__init__", "BadMatch.__init__", defArgs (inClass (top 23) 0), defBody (inClass (top 23) 0), defScope (inClass (top 23) 0), [], []⟩,
  ⟨("BadCount", some "__init__"), "__init__", "BadCount.__init__", defArgs (inClass (top 24) 0), defBody (inClass (top 24) 0), defScope (inClass (top 24) 0), [], []⟩,
  ⟨("BadIndex", some "__init__"), "__init__", "BadIndex.__init__", defArgs (inClass (top 25) 0), defBody (inClass (top 25) 0), defScope (inClass (top 25) 0), [], []⟩,
  ⟨("BadJoining", some "__init__"), "__init__", "BadJoining.__init__", defArgs (inClass (top 26) 0), defBody (inClass (top 26) 0), defScope (inClass (top 26) 0), [], []⟩,
  ⟨("NoRenaming", some "__init__"), "__init__", "NoRenaming.__init__", defArgs (inClass (top 27) 0), defBody (inClass (top 27) 0), defScope (inClass (top 27) 0), [], []⟩,
  ⟨("BadScope", some "__init__"), "__init__", "BadScope.__init__", defArgs (inClass (top 28) 0), defBody (inClass (top 28) 0), defScope (inClass (top 28) 0), [], []⟩,
  ⟨("BadState", some "__init__"), "__init__", "BadState.__init__", defArgs (inClass (top 29) 0), defBody (inClass (top 29) 0), defScope (inClass (top 29) 0), [], []⟩,
  ⟨("BadTable", some "__init__"), "__init__", "BadTable.__init__", defArgs (inClass (top 30) 0), defBody (inClass (top 30) 0), defScope (inClass (top 30) 0), [], []⟩,
  ⟨("BadPlay", some "__init__"), "__init__", "BadPlay.__init__", defArgs (inClass (top 31) 0), defBody (inClass (top 31) 0), defScope (inClass (top 31) 0), [], []⟩,
  ⟨("NeverComes", some "__init__"), "__init__", "NeverComes.__init__", defArgs (inClass (top 32) 0), defBody (inClass (top 32) 0), defScope (inClass (top 32) 0), [], []⟩,
  ⟨("NotUnwed", some "__init__"), "__init__", "NotUnwed.__init__", defArgs (inClass (top 33) 0), defBody (inClass (top 33) 0), defScope (inClass (top 33) 0), [], []⟩,
  ⟨("BadAsked", some "__init__"), "__init__", "BadAsked.__init__", defArgs (inClass (top 34) 0), defBody (inClass (top 34) 0), defScope (inClass (top 34) 0), [], []⟩,
  ⟨("TooLong", some "__init__"), "__init__", "TooLong.__init__", defArgs (inClass (top 35) 0), defBody (inClass (top 35) 0), defScope (inClass (top 35) 0), [], []⟩,
  ⟨("NoWays", some "__init__"), "__init__", "NoWays.__init__", defArgs (inClass (top 36) 0), defBody (inClass (top 36) 0), defScope (inClass (top 36) 0), [], []⟩,
  ⟨("NoState", some "__init__"), "__init__", "NoState.__init__", defArgs (inClass (top 37) 0), defBody (inClass (top 37) 0), defScope (inClass (top 37) 0), [], []⟩,
  ⟨("BadWord", some "__init__"), "__init__", "BadWord.__init__", defArgs (inClass (top 38) 0), defBody (inClass (top 38) 0), defScope (inClass (top 38) 0), [], []⟩,
  ⟨("BadLength", some "__init__"), "__init__", "BadLength.__init__", defArgs (inClass (top 39) 0), defBody (inClass (top 39) 0), defScope (inClass (top 39) 0), [], []⟩,
  ⟨("BadOrigin", some "__init__"), "__init__", "BadOrigin.__init__", defArgs (inClass (top 40) 0), defBody (inClass (top 40) 0), defScope (inClass (top 40) 0), [], []⟩,
  ⟨("NotLet", some "__init__"), "__init__", "NotLet.__init__", defArgs (inClass (top 41) 0), defBody (inClass (top 41) 0), defScope (inClass (top 41) 0), [.non], []⟩,
  ⟨("BadNumber", some "__init__"), "__init__", "BadNumber.__init__", defArgs (inClass (top 42) 0), defBody (inClass (top 42) 0), defScope (inClass (top 42) 0), [], []⟩,
  ⟨("BadLine", some "__init__"), "__init__", "BadLine.__init__", defArgs (inClass (top 43) 0), defBody (inClass (top 43) 0), defScope (inClass (top 43) 0), [], []⟩,
  ⟨("BadGeneration", some "__init__"), "__init__", "BadGeneration.__init__", defArgs (inClass (top 44) 0), defBody (inClass (top 44) 0), defScope (inClass (top 44) 0), [], []⟩,
  ⟨("BadPair", some "__init__"), "__init__", "BadPair.__init__", defArgs (inClass (top 46) 0), defBody (inClass (top 46) 0), defScope (inClass (top 46) 0), [], []⟩,
  ⟨("BadLand", some "__init__"), "__init__", "BadLand.__init__", defArgs (inClass (top 47) 0), defBody (inClass (top 47) 0), defScope (inClass (top 47) 0), [], []⟩,
  ⟨("BadSecond", some "__init__"), "__init__", "BadSecond.__init__", defArgs (inClass (top 48) 0), defBody (inClass (top 48) 0), defScope (inClass (top 48) 0), [], []⟩,
  ⟨("BadPage", some "__init__"), "__init__", "BadPage.__init__", defArgs (inClass (top 49) 0), defBody (inClass (top 49) 0), defScope (inClass (top 49) 0), [], []⟩,
  ⟨("BadSeen", some "__init__"), "__init__", "BadSeen.__init__", defArgs (inClass (top 50) 0), defBody (inClass (top 50) 0), defScope (inClass (top 50) 0), [], []⟩,
  ⟨("BadFilling", some "__init__"), "__init__", "BadFilling.__init__", defArgs (inClass (top 51) 0), defBody (inClass (top 51) 0), defScope (inClass (top 51) 0), [], []⟩,
  ⟨("BadNotice", some "__init__"), "__init__", "BadNotice.__init__", defArgs (inClass (top 52) 0), defBody (inClass (top 52) 0), defScope (inClass (top 52) 0), [], []⟩,
  ⟨("BadChange", some "__init__"), "__init__", "BadChange.__init__", defArgs (inClass (top 53) 0), defBody (inClass (top 53) 0), defScope (inClass (top 53) 0), [], []⟩,
  ⟨("BadPrices", some "__init__"), "__init__", "BadPrices.__init__", defArgs (inClass (top 54) 0), defBody (inClass (top 54) 0), defScope (inClass (top 54) 0), [], []⟩]

/-! ### the Hook -/
abbrev AlM : Type := Bool × List He.FnW
def obsM (K : PySem.W.Frag) : AlM := (allB K && fn.all fun d => d.ok K, fn.map fun d => He.fnW K d.at_)
def valM : AlM := (true, fn.map He.DefD.val)
def SaysM (K : PySem.W.Frag) : Prop := obsM K = valM
end K00

namespace K00
open PySem PySem.Spec PyProof.Rows L2
def refs1 (o : Obj) : List Addr := match o.data with
  | .dict es _ => es.toList.flatMap fun e => He.refV e.val
  | .func fd => He.refV fd.code ++ He.refV fd.defaults
  | .cls cd => [cd.ns]
  | _ => []
def nxt (g : Addr → Option Obj) (as : List Addr) : List Addr := as.flatMap fun a => match g a with
  | some o => refs1 o
  | none => []
def asM (g : Addr → Option Obj) : List Addr := mainGlobals :: (nxt g [mainGlobals] ++ (nxt g (nxt g [mainGlobals]) ++ (nxt g (nxt g (nxt g [mainGlobals])) ++ nxt g (nxt g (nxt g (nxt g [mainGlobals])))))) 
def obsMG (g : Addr → Option Obj) : AlM := obsM (He.frG g (asM g))
def hookM : PySem.W.Hook where
  α := AlM
  obs := fun s => obsMG s.heap.get?
  val := fun _ => valM
  says := fun _ h => ∃ K : PySem.W.Frag, K.In h ∧ SaysM K
  of := fun _ _ e => ⟨_, He.frG_in, e⟩
  keeps := fun _ _ _ ⟨K, hK, c⟩ k => ⟨K, PySem.W.Frag.In.keeps hK k, c⟩
abbrev R : PySem.W.OpenRow := PySem.W.OpenLaw.row PySem.Challenge.rw_namesakes_k00_errors_side_by_side
def ob (s : PySem.W.SharedT) : AlM := obsMG (HandSHeadRun.getT s)
theorem ob_eq (s : PySem.W.SharedT) : ob s = hookM.obs s.abs := by
  have e : HandSHeadRun.getT s = s.abs.heap.get? := funext (HandSHeadRun.getT_eq s)
  show obsMG (HandSHeadRun.getT s) = obsMG s.abs.heap.get?
  rw [e]
def loose1 : List Str := [("BadRecord" : Str), ("NoPerson" : Str), ("BadWay" : Str), ("NoRow" : Str), ("BadWidth" : Str), ("BadText" : Str), ("BadPairs" : Str), ("BadCondition" : Str), ("BadClause" : Str), ("BadCustom" : Str), ("BadKind" : Str), ("TooWide" : Str), ("BadChoice" : Str), ("NoCouple" : Str), ("NoPlace" : Str), ("NoRoot" : Str), ("BadOrder" : Str), ("BadPattern" : Str)]
def loose2 : List Str := [("BadNames" : Str), ("BadPlaces" : Str), ("BadClass" : Str), ("BadMatch" : Str), ("BadCount" : Str), ("BadIndex" : Str), ("BadJoining" : Str), ("NoRenaming" : Str), ("BadScope" : Str), ("BadState" : Str), ("BadTable" : Str), ("BadPlay" : Str), ("NeverComes" : Str), ("NotUnwed" : Str), ("BadAsked" : Str), ("TooLong" : Str), ("NoWays" : Str), ("NoState" : Str)]
def loose3 : List Str := [("BadWord" : Str), ("BadLength" : Str), ("BadOrigin" : Str), ("NotLet" : Str), ("BadNumber" : Str), ("BadLine" : Str), ("BadGeneration" : Str), ("UnlikePlans" : Str), ("BadPair" : Str), ("BadLand" : Str), ("BadSecond" : Str), ("BadPage" : Str), ("BadSeen" : Str), ("BadFilling" : Str), ("BadNotice" : Str), ("BadChange" : Str), ("BadPrices" : Str), ("CustomError" : Str), ("_law_mix" : Str), ("_law_hand" : Str), ("_law_draw" : Str), ("_law_pick" : Str), ("_law_thing" : Str), ("_law_kinds" : Str), ("_law_made" : Str), ("_law_fields" : Str)]
def looseL : List Str := loose1 ++ loose2 ++ loose3
theorem run (w : World) : HandSHeadRun.RunEq R (PySem.W.view R.prog [64]) hookM ob 20000 looseL w := by
  intro os
  kernel_rfl
end K00

namespace K00
open PySem PySem.Spec PyProof.Rows L2
/-! ### the hand from which a script is drawn -/
/-- what the hand's list holds: the cells' list, how many are taken, the rest of a great cell, the running number -/
abbrev handO (l : Addr) (i r t : Int) : HO := .lst [.ref l, .int i, .int r, .int t]
structure HandOk (cells : List Int) (i r t : Int) : Prop where
  len : cells.length ≤ 63
  pos : ∀ c ∈ cells, 0 ≤ c
  i0 : 0 ≤ i
  i1 : i ≤ 63
  r0 : 0 ≤ r
  t0 : 0 ≤ t
  t1 : t < 2147483629
def HandAt (H : Hp) (p l : Addr) (cells : List Int) (i r t : Int) : Prop := H p = some (handO l i r t) ∧ H l = some (.lst (cells.map V.int)) ∧ HandOk cells i r t
/-! ### promises -/
def spMix : Sp := fun vs H Q _ => ∃ n k : Int, vs = [.int n, .int k] ∧ 0 ≤ n ∧ n < 2147483647 ∧ 0 ≤ k ∧ k ≤ 64 ∧ ∀ d : Int, 0 ≤ d → Q (.int d) H
def spDraw : Sp := fun vs H Q _ => ∃ (p l : Addr) (cells : List Int) (i r t m : Int), vs = [.ref p, .int m] ∧ HandAt H p l cells i r t ∧ 0 < m ∧ m.natAbs < 2 ^ 8000 ∧
  ∀ d i' r' t' : Int, 0 ≤ d → d < m → HandOk cells i' r' t' → Q (.int d) (upd H p (handO l i' r' t'))
section
variable {P : Program} {w : World} {K : PySem.W.Frag} {mg : Str → Option Value} {base : Heap}
theorem scMix : FnScope ["_law_number", "_law_turn", "_law_once", "_law_twice"] ["_law_number", "_law_turn"] (defScope sMix) := ⟨rfl, rfl, rfl, by decide +kernel, rfl, by decide +kernel, by decide +kernel⟩
theorem pp31 : (2147483647 : Int) < 2 ^ 64 := by decide
theorem ok_mix {f : Addr} {fd : FuncData} (F : FnP K "_law_mix" sMix f fd) (zi : mg "int" = none) : FnOk P w K mg base CX0 1 f fd ["_law_number", "_law_turn"] spMix := by
  refine F.ok scMix (fun vs H Q E h => ?_) (fun cdv A outer s H vs Q E hr h => ?_)
  · obtain ⟨n, k, rfl, _⟩ := h
    rfl
  · obtain ⟨n, k, rfl, n0, n1, k0, k1, q⟩ := h
    refine ⟨_, PSs.nox (pss_cons (ps_set (i := 2) scMix.nd rfl (.inl rfl)
        (pe_op op_mod (pe_callTy call_int1 (by rfl) zi (by decide +kernel) (pa_cons
          (pe_op op_add (pe_op op_add (pe_op op_mul (pv 0) pe_int) (pe_op op_mul (pv 1) pe_int)) pe_int) pa_nil)) pe_int))
      (pss_cons (ps_set (i := 3) scMix.nd rfl (.inl rfl)
        (pe_op op_mod (pe_callTy call_int1 (by rfl) zi (by decide +kernel) (pa_cons
          (pe_op op_add (pe_op op_add (pe_op op_mul (pv 2) (pv 2)) (pe_op op_mul (pe_op op_fdiv (pv 2) pe_int) pe_int)) (pe_op op_mul (pv 1) pe_int)) pa_nil)) pe_int))
      (pss_one (ps_ret (pe_op op_fdiv (pe_op op_mod (pe_callTy call_int1 (by rfl) zi (by decide +kernel) (pa_cons
          (pe_op op_add (pe_op op_fdiv (pe_op op_mul (pv 3) (pv 3)) pe_int) (pv 2)) pa_nil)) pe_int) pe_int))))), ?_⟩
    refine ⟨_, rfl, _, _, rfl, rfl, .inl ⟨by omega, by omega⟩, _, rfl, _, _, rfl, rfl, .inl ⟨by omega, by omega⟩, _, _, rfl, rfl, _, _, rfl, rfl, .inl ⟨_, rfl, _, _, rfl, rfl, (by show (0 : Int) < 2147483647; decide), ?_⟩⟩
    refine ⟨_, rfl, _, rfl, _, _, rfl, rfl, .inl ⟨by omega, by omega⟩, _, rfl, _, _, rfl, rfl, ⟨by decide, by decide⟩, _, _, rfl, rfl, .inr ⟨by decide, by decide⟩, _, _, rfl, rfl, _, rfl, _, _, rfl, rfl, .inl ⟨by omega, by omega⟩, _, _, rfl, rfl, .inl ⟨_, rfl, _, _, rfl, rfl, (by show (0 : Int) < 2147483399; decide), ?_⟩⟩
    refine ⟨_, rfl, _, rfl, _, _, rfl, rfl, .inl ⟨by omega, by omega⟩, _, _, rfl, rfl, ⟨by decide, by decide⟩, _, rfl, _, _, rfl, rfl, .inl ⟨_, rfl, _, _, rfl, rfl, (by show (0 : Int) < 2147483563; decide), _, _, rfl, rfl, ⟨by decide, by decide⟩, ?_⟩⟩
    refine q _ ?_
    omega
theorem scDraw : FnScope ["_law_hand_here", "_law_many", "_law_cell", "_law_rest"] ["_law_hand_here", "_law_many"] (defScope sDraw) := ⟨rfl, rfl, rfl, by decide +kernel, rfl, by decide +kernel, by decide +kernel⟩
theorem ok_draw {f fM : Addr} {fd fdM : FuncData} (F : FnP K "_law_draw" sDraw f fd) (zi : mg "int" = none) (zl : mg "len" = none) (FM : FnP K "_law_mix" sMix fM fdM) (gM : mg "_law_mix" = some (.ref fM)) : FnOk P w K mg base CX0 2 f fd ["_law_hand_here", "_law_many"] spDraw := by
  have GM : FnOk P w K mg base CX0 1 fM fdM ["_law_number", "_law_turn"] spMix := ok_mix FM zi
  have bM : Binds K fdM ["_law_number", "_law_turn"] [] := FM.bindsN fun _ _ _ _ _ _ us hl => match us, hl with | [_, _], _ => rfl
  refine F.ok scDraw (fun vs H Q E h => ?_) (fun cdv A outer s H vs Q E hr h => ?_)
  · obtain ⟨p, l, cells, i, r, t, m, rfl, _⟩ := h
    rfl
  · obtain ⟨p, l, cells, i, r, t, m, rfl, ⟨hp, hl, ok⟩, m0, m1, q⟩ := h
    refine ⟨_, PSs.nox (pss_cons (ps_if (PW.pt (pw_and (pt_cmpR op_eq (pe_ix ix_list (pv 0) pe_int (fun _ _ => rfl)) pe_int (nomark _)) (pw_and1 (pt_cmpR op_lt (pe_ix ix_list (pv 0) pe_int (fun _ _ => rfl)) (pe_callB call_len_seq (by rfl) zl boot_len (pa_cons (pe_ix ix_list (pv 0) pe_int (fun _ _ => rfl)) pa_nil)) (nomark _)))))
          (pss_cons (ps_set (i := 2) scDraw.nd rfl (.inl rfl) (pe_ix ix_list (pe_ix ix_list (pv 0) pe_int (fun _ _ => rfl)) (pe_ix ix_list (pv 0) pe_int (fun _ _ => rfl)) (fun _ _ => rfl)))
          (pss_cons (ps_asg (pe_op op_add (pe_ix ix_list (pv 0) pe_int (fun _ _ => rfl)) pe_int) (pg_sub (pv 0) pe_int set_list))
          (pss_cons (ps_if (pt_cmpR op_lt (pv 2) (pe_op op_pow pe_int pe_int) (nomark _))
            (pss_one (ps_ret (pe_op op_mod (pe_callTy call_int1 (by rfl) zi (by decide +kernel) (pa_cons (pe_call GM hr (by rfl) gM FM.kp bM .nil pass0 (pa_cons (pe_op op_mod (pe_callTy call_int1 (by rfl) zi (by decide +kernel) (pa_cons (pv 2) pa_nil)) pe_int) (pa_cons (pe_ix ix_list (pv 0) pe_int (fun _ _ => rfl)) pa_nil))) pa_nil)) (pv 1)))) pss_nil)
          (pss_one (ps_asg (pv 2) (pg_sub (pv 0) pe_int set_list)))))) pss_nil)
      (pss_cons (ps_if (pt_cmpR op_gt (pe_ix ix_list (pv 0) pe_int (fun _ _ => rfl)) pe_int (nomark _))
          (pss_cons (ps_set (i := 3) scDraw.nd rfl (.inl rfl) (pe_ix ix_list (pv 0) pe_int (fun _ _ => rfl)))
          (pss_cons (ps_asg (pe_op op_fdivW (pv 3) (pv 1)) (pg_sub (pv 0) pe_int set_list))
          (pss_one (ps_ret (pe_op op_mod (pe_callTy call_int1 (by rfl) zi (by decide +kernel) (pa_cons (pv 3) pa_nil)) (pv 1)))))) pss_nil)
      (pss_cons (ps_asg (pe_op op_mod (pe_callTy call_int1 (by rfl) zi (by decide +kernel) (pa_cons (pe_op op_add (pe_ix ix_list (pv 0) pe_int (fun _ _ => rfl)) pe_int) pa_nil)) pe_int) (pg_sub (pv 0) pe_int set_list))
      (pss_one (ps_ret (pe_op op_mod (pe_callTy call_int1 (by rfl) zi (by decide +kernel) (pa_cons (pe_call GM hr (by rfl) gM FM.kp bM .nil pass0 (pa_cons (pe_ix ix_list (pv 0) pe_int (fun _ _ => rfl)) (pa_cons (pe_ix ix_list (pv 0) pe_int (fun _ _ => rfl)) pa_nil))) pa_nil)) (pv 1))))))), ?_⟩
    refine ⟨_, rfl, _, _, _, _, rfl, rfl, SqL.of hp, rfl, rfl, _, rfl, ?_⟩
    have mlog : m.natAbs.log2 < 9000 := Nat.lt_of_lt_of_le (PySem.Flt.log2_lt_of (by decide) m1) (by decide)
    have fin : ∀ (d i' r' t' : Int) (H2 : Hp), 0 ≤ d → d < m → HandOk cells i' r' t' → H2 = upd H p (handO l i' r' t') → Q (.int d) H2 := fun d i' r' t' H2 d0 d1 o e => by
      subst e
      exact q d i' r' t' d0 d1 o
    have npl : l ≠ p := fun z => by
      rw [z, hp] at hl
      have h2 := Option.some.inj hl
      injection h2 with h3
      have h4 := congrArg List.head? h3
      cases cells with
      | nil => cases h4
      | cons c cs => cases h4
    refine ite2 (fun e => ?_) (fun e => ?_)
    · refine ⟨_, rfl, _, _, _, _, rfl, rfl, SqL.of hp, rfl, _, rfl, _, _, _, _, rfl, rfl, SqL.of hp, rfl, _, _, rfl, .inl (SqL.of hl), _, _, rfl, rfl, _, rfl, ?_⟩
      refine ite2 (fun e1 => ?_) (fun e1 => ?_)
      · have HP0 := hp
        have hi0 : 0 ≤ i := ok.i0
        have hlen : ((cells.map V.int).length : Int) = (cells.length : Int) := by rw [List.length_map]
        have hlt : i < (cells.length : Int) := by
          have z : i < ((cells.map V.int).length : Int) := of_decide_eq_true e1
          omega
        have hnat : i.toNat < cells.length := by omega
        have hget : atI (cells.map V.int) i = some (.int cells[i.toNat]) := by
          have z := atI_nat (xs := cells.map V.int) (j := i.toNat) (v := .int cells[i.toNat]) (by rw [List.getElem?_map, List.getElem?_eq_getElem hnat]; rfl)
          rw [Int.toNat_of_nonneg hi0] at z
          exact z
        have c0 : 0 ≤ cells[i.toNat] := ok.pos _ (List.getElem_mem hnat)
        have hl63 := ok.len
        refine ⟨_, rfl, _, _, _, _, rfl, rfl, SqL.of hp, rfl, _, rfl, _, _, _, _, rfl, rfl, SqL.of hp, rfl, _, _, _, _, rfl, rfl, SqL.of hl, hget, ?_⟩
        generalize cells[i.toNat] = c at c0
        refine ⟨_, rfl, _, _, _, _, rfl, rfl, SqL.of hp, rfl, _, _, rfl, rfl, _, rfl, _, _, _, _, rfl, rfl, hp, rfl, ?_⟩
        have ok2 : HandOk cells (i + 1) c t := ⟨ok.len, ok.pos, by omega, by omega, c0, ok.t0, ok.t1⟩
        refine ⟨_, rfl, _, _, rfl, rfl, ⟨by decide, by decide, by decide⟩, _, _, rfl, rfl, _, rfl, ?_⟩
        refine ite2 (fun e2 => ?_) (fun e2 => ?_)
        · refine ⟨_, rfl, .inl ⟨_, rfl, _, _, rfl, rfl, (by show (0 : Int) < 2147483647; decide), _, rfl, _, _, _, _, rfl, rfl, SqL.of upd_same, rfl, _, _, rfl, Int.emod_nonneg _ (by decide), Int.emod_lt_of_pos _ (by decide), by omega, by omega, fun d d0 => ?_⟩⟩
          refine .inl ⟨_, rfl, _, rfl, _, _, rfl, rfl, m0, ?_⟩
          exact fin _ _ _ _ _ (Int.emod_nonneg _ (Int.ne_of_gt m0)) (Int.emod_lt_of_pos _ m0) ⟨ok.len, ok.pos, ok2.i0, ok2.i1, ok.r0, ok.t0, ok.t1⟩ (by simp only [upd_upd]; rfl)
        · refine ⟨_, rfl, _, rfl, _, _, _, _, rfl, rfl, upd_same, rfl, ?_⟩
          have HP : (upd (upd H p (.lst ([V.ref l, .int i, .int r, .int t].set 1 (.int (i + 1))))) p (.lst (([V.ref l, .int i, .int r, .int t].set 1 (.int (i + 1))).set 2 (.int c)))) p = some (handO l (i + 1) c t) := upd_same
          refine ⟨_, rfl, _, _, _, _, rfl, rfl, SqL.of HP, rfl, _, _, rfl, rfl, _, rfl, ?_⟩
          refine ite2 (fun e3 => ?_) (fun e3 => ?_)
          · refine ⟨_, rfl, _, _, _, _, rfl, rfl, SqL.of HP, rfl, ?_⟩
            refine ⟨_, rfl, _, rfl, _, _, rfl, rfl, ⟨m0, mlog⟩, _, rfl, _, _, _, _, rfl, rfl, HP, rfl, ?_⟩
            refine ⟨_, rfl, .inl ⟨_, rfl, _, rfl, _, _, rfl, rfl, m0, ?_⟩⟩
            exact fin _ _ _ _ _ (Int.emod_nonneg _ (Int.ne_of_gt m0)) (Int.emod_lt_of_pos _ m0) ⟨ok2.len, ok2.pos, ok2.i0, ok2.i1, Int.ediv_nonneg ok2.r0 (Int.le_of_lt m0), ok2.t0, ok2.t1⟩ (by simp only [upd_upd]; rfl)
          · refine ⟨_, rfl, _, _, _, _, rfl, rfl, SqL.of HP, rfl, _, _, rfl, rfl, .inl ⟨_, rfl, _, _, rfl, rfl, (by show (0 : Int) < 2147483629; decide), _, rfl, _, _, _, _, rfl, rfl, HP, rfl, ?_⟩⟩
            have u0 := ok2.i0
            have u1 := ok2.i1
            refine ⟨_, rfl, _, _, _, _, rfl, rfl, SqL.of upd_same, rfl, _, rfl, _, _, _, _, rfl, rfl, SqL.of upd_same, rfl, _, _, rfl, by omega, by omega, by omega, by omega, fun d d0 => ?_⟩
            refine .inl ⟨_, rfl, _, rfl, _, _, rfl, rfl, m0, ?_⟩
            exact fin _ _ _ _ _ (Int.emod_nonneg _ (Int.ne_of_gt m0)) (Int.emod_lt_of_pos _ m0) ⟨ok2.len, ok2.pos, ok2.i0, ok2.i1, ok2.r0, Int.emod_nonneg (t + 1) (show (2147483629 : Int) ≠ 0 by decide), Int.emod_lt_of_pos (t + 1) (show (0 : Int) < 2147483629 by decide)⟩ (by simp only [upd_upd]; rfl)
      · have HP := hp
        refine ⟨_, rfl, _, _, _, _, rfl, rfl, SqL.of HP, rfl, _, _, rfl, rfl, _, rfl, ?_⟩
        refine ite2 (fun e2 => ?_) (fun e2 => ?_)
        · refine ⟨_, rfl, _, _, _, _, rfl, rfl, SqL.of HP, rfl, ?_⟩
          refine ⟨_, rfl, _, rfl, _, _, rfl, rfl, ⟨m0, mlog⟩, _, rfl, _, _, _, _, rfl, rfl, HP, rfl, ?_⟩
          refine ⟨_, rfl, .inl ⟨_, rfl, _, rfl, _, _, rfl, rfl, m0, ?_⟩⟩
          exact fin _ _ _ _ _ (Int.emod_nonneg _ (Int.ne_of_gt m0)) (Int.emod_lt_of_pos _ m0) ⟨ok.len, ok.pos, ok.i0, ok.i1, Int.ediv_nonneg ok.r0 (Int.le_of_lt m0), ok.t0, ok.t1⟩ (by simp only [upd_upd]; rfl)
        · refine ⟨_, rfl, _, _, _, _, rfl, rfl, SqL.of HP, rfl, _, _, rfl, rfl, .inl ⟨_, rfl, _, _, rfl, rfl, (by show (0 : Int) < 2147483629; decide), _, rfl, _, _, _, _, rfl, rfl, HP, rfl, ?_⟩⟩
          have u0 := ok.i0
          have u1 := ok.i1
          refine ⟨_, rfl, _, _, _, _, rfl, rfl, SqL.of upd_same, rfl, _, rfl, _, _, _, _, rfl, rfl, SqL.of upd_same, rfl, _, _, rfl, by omega, by omega, by omega, by omega, fun d d0 => ?_⟩
          refine .inl ⟨_, rfl, _, rfl, _, _, rfl, rfl, m0, ?_⟩
          exact fin _ _ _ _ _ (Int.emod_nonneg _ (Int.ne_of_gt m0)) (Int.emod_lt_of_pos _ m0) ⟨ok.len, ok.pos, ok.i0, ok.i1, ok.r0, Int.emod_nonneg (t + 1) (show (2147483629 : Int) ≠ 0 by decide), Int.emod_lt_of_pos (t + 1) (show (0 : Int) < 2147483629 by decide)⟩ (by simp only [upd_upd]; rfl)
    · have HP := hp
      refine ⟨_, rfl, _, _, _, _, rfl, rfl, SqL.of HP, rfl, _, _, rfl, rfl, _, rfl, ?_⟩
      refine ite2 (fun e2 => ?_) (fun e2 => ?_)
      · refine ⟨_, rfl, _, _, _, _, rfl, rfl, SqL.of HP, rfl, ?_⟩
        refine ⟨_, rfl, _, rfl, _, _, rfl, rfl, ⟨m0, mlog⟩, _, rfl, _, _, _, _, rfl, rfl, HP, rfl, ?_⟩
        refine ⟨_, rfl, .inl ⟨_, rfl, _, rfl, _, _, rfl, rfl, m0, ?_⟩⟩
        exact fin _ _ _ _ _ (Int.emod_nonneg _ (Int.ne_of_gt m0)) (Int.emod_lt_of_pos _ m0) ⟨ok.len, ok.pos, ok.i0, ok.i1, Int.ediv_nonneg ok.r0 (Int.le_of_lt m0), ok.t0, ok.t1⟩ (by simp only [upd_upd]; rfl)
      · refine ⟨_, rfl, _, _, _, _, rfl, rfl, SqL.of HP, rfl, _, _, rfl, rfl, .inl ⟨_, rfl, _, _, rfl, rfl, (by show (0 : Int) < 2147483629; decide), _, rfl, _, _, _, _, rfl, rfl, HP, rfl, ?_⟩⟩
        have u0 := ok.i0
        have u1 := ok.i1
        refine ⟨_, rfl, _, _, _, _, rfl, rfl, SqL.of upd_same, rfl, _, rfl, _, _, _, _, rfl, rfl, SqL.of upd_same, rfl, _, _, rfl, by omega, by omega, by omega, by omega, fun d d0 => ?_⟩
        refine .inl ⟨_, rfl, _, rfl, _, _, rfl, rfl, m0, ?_⟩
        exact fin _ _ _ _ _ (Int.emod_nonneg _ (Int.ne_of_gt m0)) (Int.emod_lt_of_pos _ m0) ⟨ok.len, ok.pos, ok.i0, ok.i1, ok.r0, Int.emod_nonneg (t + 1) (show (2147483629 : Int) ≠ 0 by decide), Int.emod_lt_of_pos (t + 1) (show (0 : Int) < 2147483629 by decide)⟩ (by simp only [upd_upd]; rfl)
/-! ### the hand is made -/
def absI (c : Int) : Int := if c < 0 then -c else c
theorem absI_nonneg (c : Int) : 0 ≤ absI c := by
  unfold absI
  split <;> omega
theorem same_upd {H : Hp} {p : Addr} {o : HO} (h : H p = none) : Same H (upd H p o) := fun b x e => by
  rw [upd_ne (ne_of_none e h)]
  exact e
def spHand (K : PySem.W.Frag) : Sp := fun vs H Q _ => ∃ (a : Addr) (ns : List Int), vs = [.ref a] ∧ SqL K H a (ns.map V.int) ∧ ns.length ≤ 63 ∧
  ∀ (H' : Hp) (p l : Addr) (t : Int), Same H H' → H p = none → HandAt H' p l (ns.map absI) 0 0 t → Q (.ref p) H'
theorem scHand : FnScope ["_law_script", "_law_total", "_law_k", "_law_cell"] ["_law_script"] (defScope sHand) := ⟨rfl, rfl, rfl, by decide +kernel, rfl, by decide +kernel, by decide +kernel⟩
theorem ok_hand {f : Addr} {fd : FuncData} (F : FnP K "_law_hand" sHand f fd) (zi : mg "int" = none) (za : mg "abs" = none) (ze : mg "enumerate" = none) : FnOk P w K mg base CX0 1 f fd ["_law_script"] (spHand K) := by
  refine F.ok scHand (fun vs H Q E h => ?_) (fun cdv A outer s H vs Q E hr h => ?_)
  · obtain ⟨a, ns, rfl, _⟩ := h
    rfl
  · obtain ⟨a, ns, rfl, hS, hlen, q⟩ := h
    refine ⟨_, PSs.nox (pss_cons (ps_set (i := 1) scHand.nd rfl (.inl rfl) pe_int)
      (pss_cons (ps_for PassesOwn.never rfl (pi_enum (by rfl) ze (pa_cons (pv 0) pa_nil))
          (pg_tup (by rfl) (pgs_cons (pg_name (i := 2) scHand.nd rfl (.inl rfl)) (pgs_cons (pg_name (i := 3) scHand.nd rfl (.inl rfl)) pgs_nil)))
        (pss_one (ps_set (i := 1) scHand.nd rfl (.inl rfl) (pe_op op_mod (pe_callTy call_int1 (by rfl) zi (by decide +kernel) (pa_cons
          (pe_op op_add (pe_op op_mul (pv 1) pe_int) (pe_op op_mul (pe_callTy call_int1 (by rfl) zi (by decide +kernel) (pa_cons (pv 3) pa_nil)) (pe_op op_add (pv 2) pe_int))) pa_nil)) pe_int))))
      (pss_one (ps_ret (pe_lst (pa_cons
        (pe_lc (own := [("_law_cell", 3)]) (g := gName 3) (tt := tYes) rfl scHand.nd (pi_list (pv 0)) (blkOk_by (N := ["_law_script", "_law_total", "_law_k", "_law_cell"]) (sc := defScope sHand) (by decide +kernel)) (fun _ _ _ _ _ => pg_name (i := 3) scHand.nd rfl (Or.inl rfl)) (fun _ _ _ _ _ => pts_nil)
          (fun _ _ _ _ _ => pe_callB call_abs (by rfl) za (by decide +kernel) (pa_cons (pe_callTy call_int1 (by rfl) zi (by decide +kernel) (pa_cons (pv 3) pa_nil)) pa_nil)))
        (pa_cons pe_int (pa_cons pe_int (pa_cons (pv 1) pa_nil))))))))), ?_⟩
    refine ⟨_, rfl, a, _, rfl, hS, for_it walk_enum (fun _ σ H' => ∃ (t : Int) (x y : Option V), σ = [some (.ref a), some (.int t), x, y] ∧ 0 ≤ t ∧ t < 2147483629 ∧ Same H H') ⟨0, none, none, rfl, by decide, by decide, fun _ _ e => e⟩
      (fun i σ H' _ ⟨_, _, _, _, _, _, sm⟩ => sm.seq hS) ?_ ?_⟩
    · rintro i x σ H1 H2 hi ⟨t, x1, x2, rfl, t0, t1, sm⟩ ⟨T, u, v, rfl, nT, rfl, eu, ev⟩
      have hi' : i < ns.length := by
        rw [List.length_map] at hi
        exact hi
      obtain rfl : u = .int (i : Int) := (Option.some.inj eu).symm
      obtain rfl : v = .int ns[i] := by
        have e2 : (ns.map V.int)[i]? = some (.int ns[i]) := by rw [List.getElem?_map, List.getElem?_eq_getElem hi']; rfl
        exact Option.some.inj (ev.symm.trans e2)
      refine ⟨T, _, rfl, .inl (.inl upd_same), rfl, _, _, rfl, _, _, rfl, rfl, ?_⟩
      refine ⟨_, rfl, _, _, rfl, rfl, .inl ⟨by omega, by omega⟩, _, rfl, .inl ⟨_, rfl, _, rfl, _, _, rfl, rfl, _, _, rfl, rfl, .inr ⟨by omega, by omega⟩, _, _, rfl, rfl, .inl ⟨_, rfl, _, _, rfl, rfl, (by show (0 : Int) < 2147483629; decide), ?_⟩⟩⟩
      exact ⟨_, _, _, rfl, Int.emod_nonneg _ (by decide), Int.emod_lt_of_pos _ (by decide), fun b o e => same_upd nT _ _ (sm _ _ e)⟩
    · rintro σ H1 ⟨t, x1, x2, rfl, t0, t1, sm⟩
      refine ⟨_, rfl, a, rfl, ⟨_, sm.seq hS⟩, fun D nD => lc_it walk_list (fun i H' => Same H1 H' ∧ H' D = some (.lst (((ns.map absI).take i).map V.int))) ⟨same_upd nD, upd_same⟩
        (fun i H' _ ⟨s2, _⟩ => s2.seq (sm.seq hS)) ?_ ?_⟩
      · rintro i x H2 H3 hi ⟨s2, eD⟩ ⟨rfl, ex⟩
        have hi' : i < ns.length := by
          rw [List.length_map] at hi
          exact hi
        obtain rfl : x = .int ns[i] := by
          have e2 : (ns.map V.int)[i]? = some (.int ns[i]) := by rw [List.getElem?_map, List.getElem?_eq_getElem hi']; rfl
          exact Option.some.inj (ex.symm.trans e2)
        refine ⟨rfl, ?_⟩
        refine ⟨_, rfl, .inl ⟨_, rfl, _, rfl, _, eD, ?_, ?_⟩⟩
        · rw [List.length_map, List.length_take]
          exact Nat.lt_of_le_of_lt (Nat.min_le_left _ _) (Nat.lt_of_lt_of_le (Nat.lt_of_lt_of_le hi' hlen) (by decide))
        · refine ⟨fun b o e => ?_, ?_⟩
          · have nb : b ≠ D := ne_of_none e nD
            rw [upd_ne nb]
            exact s2 _ _ e
          · rw [upd_same, List.take_add_one, List.getElem?_map, List.getElem?_eq_getElem hi', List.map_append]
            rfl
      · rintro H2 ⟨s2, eD⟩
        have eall : ((ns.map absI).take (ns.map V.int).length) = ns.map absI := List.take_of_length_le (by rw [List.length_map, List.length_map]; exact Nat.le_refl _)
        rw [eall] at eD
        refine ⟨_, rfl, (by show 4 ≤ sizeLine; decide), fun p np => ?_⟩
        have npD : D ≠ p := ne_of_none eD np
        refine q _ p D t (fun b o e => same_upd np _ _ (s2 _ _ (sm _ _ e))) ?_ ⟨upd_same, ?_, ?_⟩
        · cases e : H p with
          | none => rfl
          | some o =>
            have e2 := s2 _ _ (sm _ _ e)
            rw [np] at e2
            cases e2
        · rw [upd_ne npD]
          exact eD
        · exact ⟨by rw [List.length_map]; exact hlen, fun c hc => by
            obtain ⟨y, _, rfl⟩ := List.mem_map.mp hc
            exact absI_nonneg y, by decide, by decide, by decide, t0, t1⟩
end
end K00

/-! errors as values: made by their own __init__, their fields read, isinstance asked of them -/
namespace K00
open PySem PySem.Spec PyProof.Rows L2
/-- C(e, ..) as a value: behind its __init__ the error stands at a -/
def tMkV (C : Addr) (sp : Sp) (dvs : List V) (ta : TA) : TE := fun σ H Q => ta σ H fun vs H1 => vs.length ≤ 1000 ∧ ∀ a, H1 a = none → sp (.ref a :: (vs ++ dvs)) (upd H1 a (exo a C none)) (fun v H2 => v = .non ∧ Q (.ref a) H2) (fun _ _ _ => False)
section
variable {X : Cx} {e : Expr} {es : List Expr} {ta : TA} {p pos : Pos}
theorem pe_oexv {CX : CXT} {x : Str} {C fI : Addr} {k : Nat} {fd : FuncData} {ps : List Str} {sp : Sp} {ds : List Value} {dvs : List V} (T : OexC X.K C) (iC : PySem.W.findIn X.K (.ref C) "__init__" = some (some (.ref fI))) (tI : PySem.W.typeIn X.K (.ref fI) = some (.type "function"))
    (F1 : FnOk X.prog X.w X.K X.mg X.base CX k fI fd ps sp) (hr : Room (k + 1) X.A) (hb : Binds X.K fd ps ds) (hd : Vals dvs ds) (hx : Passes CX X (fun _ _ _ => False)) (hg : Gl X x) (hm : X.mg x = some (.ref C)) (ha : PA X (e :: es) ta)
    (hdb : (x == ("__debug__" : Str)) = false) (he : starEach (e :: es) X.env = (false, eval e X.env) :: starEach es X.env) (hpl : (backTo pos (starEach es X.env)).any (·.1) = false) :
    PE X (.Call (.Name x p) (e :: es) [] pos) (tMkV C sp dvs ta) := by
  refine ⟨fun pins s σ H Q I h => ?_⟩
  obtain ⟨nm, q, N, bs, bm, sn, sub, ab, col, dd, k0, k1, k2, k3, k5, hC, hbm⟩ := T.cls
  refine wpAny_Call_Name_kw (ld_glob I hg hm ?_ hdb)
  refine PySem.W.callWith_K (h₀ := X.base) I.ok.mod.kin T.kC (thn (ha.run pos pins s σ H _ I h) fun us s1 ⟨vs, H1, I1, r1, hz, q1⟩ => ⟨I1.kIn, ?_⟩) he hpl
  show wpAny _ _ (call (.ref C) us) _ _ _
  obtain ⟨hp, g, dr, tk, os⟩ := s1
  have hsz : hp.objs.size ≤ hp.objs.size + 1 := Nat.le_succ _
  have hn : H1 (hp.objs.size + 1) = none := I1.hok.fresh hsz
  have hq := q1 (hp.objs.size + 1) hn
  have kk : ∀ b o, hp.get? b = some o → ((hp.push (PySem.W.kdv_tup us)).push (PySem.HandSPX.excO C hp.objs.size)).get? b = some o := fun b o e => Heap.get?_push_of_some _ (Heap.get?_push_of_some _ e)
  have hget : ((hp.push (PySem.W.kdv_tup us)).push (PySem.HandSPX.excO C hp.objs.size)).get? (hp.objs.size + 1) = some (PySem.HandSPX.excO C hp.objs.size) := by heap_get
  have I2 : Inv X pins σ (upd H1 (hp.objs.size + 1) (exo (hp.objs.size + 1) C none)) ⟨(hp.push (PySem.W.kdv_tup us)).push (PySem.HandSPX.excO C hp.objs.size), g, dr, tk, os⟩ :=
    I1.laid (t' := tk) (a := hp.objs.size + 1) (o := exo (hp.objs.size + 1) C none) (h' := (hp.push (PySem.W.kdv_tup us)).push (PySem.HandSPX.excO C hp.objs.size)) kk hsz (exo_ok hget)
  have r2 : Vals (V.ref (hp.objs.size + 1) :: (vs ++ dvs)) (Value.ref (hp.objs.size + 1) :: (us ++ ds)) := .cons rfl (r1.append hd)
  have hl : (Value.ref (hp.objs.size + 1) :: us ++ ds).length = ps.length := by
    have e := r2.length
    rw [F1.len _ _ _ _ hq] at e
    exact e.symm
  have hus : us.length ≤ sizeLine := by
    rw [← Paired.length r1, sizeLine_eq]
    omega
  refine wpAny_call (PySem.HandSPX.call_own F.excBase_ValueError (fun Y => PySem.HandSPX.refsVE_contains Y bm hbm) (I1.kIn _ _ hC) (PySem.W.looks_findIn I1.kIn iC) (fun self => PySem.W.bind_fn I1.kIn self tI) hus
    (codeAny_mono (F1.run _ X.stack _ _ ⟨Value.ref (hp.objs.size + 1) :: us, []⟩ (Value.ref (hp.objs.size + 1) :: (us ++ ds)) _ _ (fun _ _ _ => False) (hr.make C us []) (I2.env0.make C us []) (hb _ (Value.ref (hp.objs.size + 1) :: us) I2.kIn hl) r2 hq) fun r s' hq' => ?_))
  cases r with
  | error er => exact hx pins σ _ _ er s' I2 hq'
  | ok fl =>
    cases fl with
    | ret u =>
      obtain ⟨v, H2, os2, bare2, un2, hok2, rv, ev, q2⟩ := hq'
      subst ev
      have U : Un (frs X.stack) [] H1 H2 hp s'.heap := (Un.laid kk hsz hn).trans un2
      exact ⟨rv, .ref (hp.objs.size + 1), H2, I1.call' (s' := s') (ch := []) os2 U hok2 bare2 (fun b z => absurd z (by simp)), rfl, q2⟩
    | next => exact False.elim hq'
    | brk => exact False.elim hq'
    | cont => exact False.elim hq'
/-- X(), an own error class without own __init__, as a value -/
theorem pe_exc0 {C : Addr} {bmB : List Value} {B newId initId : String} {x : Str} (F : ExcBaseFacts B newId initId bmB) (q : PySem.W.excIn X.K C bmB newId = true) (gC : X.mg x = some (.ref C)) (kC : PySem.W.keepIn X.K (.ref C) = true) (hg : Gl X x)
    (hdb : (x == ("__debug__" : Str)) = false) :
    PE X (.Call (.Name x p) [] [] pos) (fun σ H Q => ∀ a, H a = none → Q (.ref a) (upd H a (ExO (.ref C) a))) := by
  refine ⟨fun pins s σ H Q I h => ?_⟩
  refine wpAny_Call_Name_kw (ld_glob I hg gC ?_ hdb)
  refine PySem.W.callWith_K0 I.kIn kC ?_
  show wpAny _ _ (call (.ref C) []) _ _ _
  obtain ⟨bm, N, nm, qn, bs, hdct, sn, sub, ab, col, dd, k0, k1, k2, k3, k5, mN, hC, hN, hni, T⟩ := exc_obj I.kIn q
  refine wpAny_call_exc_subT F T hC hN hni (fun h' a hm => ?_) (by show 0 ≤ sizeLine; exact Nat.zero_le _)
  have hn : H a = none := I.hok.gone hm.new
  obtain ⟨t, ht, _, _⟩ := hm.there
  exact ⟨.ref a, upd H a (ExO (.ref C) a), I.laidN hm.keeps hm.new hn (exO_ok ht ⟨rfl, rfl⟩ rfl rfl rfl (show 4 < 6 by decide)), rfl, h a hn⟩
/-! ### a field is read -/
def tFld (K : PySem.W.Frag) (f : Str) (te : TE) : TE := fun σ H Q => te σ H fun x H1 => ∃ (a C d : Addr) (fs : List (Str × V)) (v : V), x = .ref a ∧ XfC K C ∧ PySem.W.findIn K (.ref C) f = some none ∧ H1 a = some (exo a C (some d)) ∧ H1 d = some (exd d fs) ∧ fs.lookup f = some v ∧ Q v H1
theorem pe_ofld {te : TE} {n : Str} (he : PE X e te) (hb : attributeBase e n X.env (eval e X.env) = eval e X.env) : PE X (.Attribute e n pos) (tFld X.K n te) := by
  refine ⟨fun pins s σ H Q I h => ?_⟩
  refine attr_of hb (thn (he.run pins s σ H _ I h) fun u s1 hh => ?_)
  obtain ⟨x, H1, I1, rx, a, C, d, fs, v, ex, T, hno, ea, ed, l, q⟩ := hh
  subst ex
  obtain rfl : u = Value.ref a := rx
  obtain ⟨t1, ho⟩ := exo_at I1.hok ea
  obtain ⟨mA, hns, hr⟩ := exd_at I1.hok ed
  obtain ⟨od, hod, hl⟩ := lookIn_ns hns
  obtain ⟨u, hu, ru⟩ := RelO.some_of (v := v) (o := mA n) (by rw [← l]; exact hr n)
  have J : PySem.W.InstAt s1.heap a _ C (some od) := ⟨ho, rfl, rfl, hod⟩
  exact HandSPX.exc_get I1.kIn J T.ga T.gg T.exC (PySem.W.findObj_own T.hdC hno rfl (by rw [hl, hu])) (handed_of ru) ⟨v, H1, I1.tok _, ru, q⟩
/-! ### isinstance -/
/-- an error of the class at D stands at a -/
def ErrAt (H : Hp) (a D : Addr) : Prop := (∃ (d : Addr) (fs : List (Str × V)), H a = some (exo a D (some d)) ∧ H d = some (exd d fs)) ∨ H a = some (ExO (.ref D) a)
def rIsX (K : PySem.W.Frag) : List V → Hp → VK → Prop := fun xs H Q => ∃ (a D : Addr) (c : V) (cv : Value) (b : Bool), xs = [.ref a, c] ∧ ErrAt H a D ∧ ExcC K D ∧ (∀ u, RelV c u → u = cv) ∧ PySem.W.kitOne K (.ref D) cv = some b ∧ Q (.bl b) H
theorem clsIn_some {K : PySem.W.Frag} {D : Addr} (h : PySem.W.hasDictIn K D = true) : (PySem.W.clsIn K D).isSome = true := by
  obtain ⟨cd, hc, _⟩ := PySem.W.any_some h
  rw [hc]
  rfl
theorem call_isX : CallR X (.builtin "isinstance") (rIsX X.K) := by
  intro pins s σ H xs us Q I r h
  obtain ⟨a, D, c, cv, b, rfl, ea, C, hcv, e, q⟩ := h
  obtain ⟨u1, u2, rfl, r1, r2⟩ := vals2 r
  cases (show u1 = Value.ref a from r1)
  have ec := hcv _ r2
  subst ec
  have J : ∃ (oe : Obj) (od : Option Obj), PySem.W.InstAt s.heap a oe D od := by
    rcases ea with ⟨d, fs, ea, ed⟩ | ea
    · obtain ⟨t1, ho⟩ := exo_at I.hok ea
      obtain ⟨mA, hns, hr⟩ := exd_at I.hok ed
      obtain ⟨od, hod, hl⟩ := lookIn_ns hns
      exact ⟨_, some od, ho, rfl, rfl, hod⟩
    · obtain ⟨⟨oe, vs, ho, hz, hd, h1, _⟩, _, _⟩ := I.hok a _ ea
      obtain ⟨oc, od, oda, osl⟩ := oe
      obtain ⟨h1, h2⟩ := hz
      dsimp only at h1 h2 hd
      subst h1 h2 hd
      exact ⟨_, none, ho, rfl, rfl, trivial⟩
  obtain ⟨oe, od, J⟩ := J
  exact PySem.W.kia_one (PySem.W.kitx_exc (clsIn_some C.hd) C.hg C.hk C.hs C.ha C.hn C.ht C.hm) I.kIn J e (fun z => nomatch z) fun tk => ⟨.bl b, H, I.tok tk, rfl, q⟩
end
end K00

/-! each error's own __init__ keeps what it is made with under its names -/
namespace K00
open PySem PySem.Spec PyProof.Rows L2
/-- the fields fs hold ws in order -/
def Holds (fl : List (Str × V)) (fs : List Str) (ws : List V) : Prop := ∀ (i : Nat) (f : Str) (v : V), fs[i]? = some f → ws[i]? = some v → fl.lookup f = some v
def spIni (C : Addr) (fs : List Str) : Sp := fun vs H Q _ => ∃ (a : Addr) (ws : List V), vs = .ref a :: ws ∧ ws.length = fs.length ∧ H a = some (exo a C none) ∧
  ∀ (H' : Hp) (d : Addr) (fl : List (Str × V)), H d = none → H' a = some (exo a C (some d)) → H' d = some (exd d fl) → Holds fl fs ws → (∀ b o, b ≠ a → H b = some o → H' b = some o) → Q .non H'
theorem one_of {ws : List V} (h : ws.length = 1) : ∃ x, ws = [x] := match ws, h with | [x], _ => ⟨x, rfl⟩
theorem two_of {ws : List V} (h : ws.length = 2) : ∃ x y, ws = [x, y] := match ws, h with | [x, y], _ => ⟨x, y, rfl⟩
theorem three_of {ws : List V} (h : ws.length = 3) : ∃ x y z, ws = [x, y, z] := match ws, h with | [x, y, z], _ => ⟨x, y, z, rfl⟩
theorem holds1 {f : Str} {x : V} : Holds [(f, x)] [f] [x] := fun i g v hg hv => by
  match i, hg, hv with
  | 0, hg, hv =>
    cases hg
    cases hv
    rw [lookup_put, if_pos rfl]
theorem holds2 {f g : Str} {x y : V} (n : ¬ f = g) : Holds [(g, y), (f, x)] [f, g] [x, y] := fun i e v hg hv => by
  match i, hg, hv with
  | 0, hg, hv =>
    cases hg
    cases hv
    rw [lookup_put, if_neg n, lookup_put, if_pos rfl]
  | 1, hg, hv =>
    cases hg
    cases hv
    rw [lookup_put, if_pos rfl]
theorem holds3 {f g h : Str} {x y z : V} (n : ¬ f = g) (m : ¬ f = h) (k : ¬ g = h) : Holds [(h, z), (g, y), (f, x)] [f, g, h] [x, y, z] := fun i e v hg hv => by
  match i, hg, hv with
  | 0, hg, hv =>
    cases hg
    cases hv
    rw [lookup_put, if_neg m, lookup_put, if_neg n, lookup_put, if_pos rfl]
  | 1, hg, hv =>
    cases hg
    cases hv
    rw [lookup_put, if_neg k, lookup_put, if_pos rfl]
  | 2, hg, hv =>
    cases hg
    cases hv
    rw [lookup_put, if_pos rfl]
theorem keep_new {H : Hp} {a d : Addr} {o u : HO} (nd : H d = none) : ∀ b x, b ≠ a → H b = some x → (upd (upd H d u) a o) b = some x := fun b x n e => by
  rw [upd_ne n, upd_ne (ne_of_none e nd)]
  exact e
theorem keep_dict {H H1 : Hp} {a d : Addr} {o : HO} (nd : H d = none) (k : ∀ b x, b ≠ a → H b = some x → H1 b = some x) : ∀ b x, b ≠ a → H b = some x → (upd H1 d o) b = some x := fun b x n e => by
  rw [upd_ne (ne_of_none e nd)]
  exact k b x n e
section
variable {P : Program} {w : World} {K : PySem.W.Frag} {mg : Str → Option Value} {base : Heap}
abbrev NoF (K : PySem.W.Frag) (C : Addr) (f : Str) : Prop := PySem.W.findIn K (.ref C) f = some none
theorem oi_BadRecord {f C : Addr} {fd : FuncData} (F : FunD K "__init__" "BadRecord.__init__" (defArgs (inClass (top 2) 0)) (defBody (inClass (top 2) 0)) (defScope (inClass (top 2) 0)) [] [] f fd) (T : OexC K C) (n0 : NoF K C "index") (n1 : NoF K C "what") :
    FnOk P w K mg base CX0 1 f fd ["self", "index", "what"] (spIni C ["index", "what"]) := by
  have sc : FnScope ["self", "index", "what"] ["self", "index", "what"] (defScope (inClass (top 2) 0)) := ⟨rfl, rfl, rfl, by decide +kernel, rfl, by decide +kernel, by decide +kernel⟩
  refine F.ok sc (fun vs H Q E h => ?_) (fun cdv A outer s H vs Q E hr h => ?_)
  · obtain ⟨a, ws, rfl, hl, _⟩ := h
    exact congrArg (· + 1) hl
  · obtain ⟨a, ws, rfl, hl, ea, q⟩ := h
    obtain ⟨y0, y1, rfl⟩ := two_of hl
    refine ⟨_, PSs.nox (pss_cons (ps_ost (pv 0) (pv 1)) (pss_one (ps_ost (pv 0) (pv 2)))), ?_⟩
    refine ⟨_, rfl, _, rfl, a, C, rfl, T, n0, .inl ⟨ea, fun d nd ne => ?_⟩⟩
    refine ⟨_, rfl, _, rfl, a, C, rfl, T, n1, .inr ⟨d, _, upd_same, Eq.trans (upd_ne ne) upd_same, (by show 1 ≤ 900; decide), ?_⟩⟩
    exact q _ d _ nd (Eq.trans (upd_ne (Ne.symm ne)) upd_same) upd_same (holds2 (by decide +kernel)) (keep_dict nd (keep_new nd))
theorem oi_NoPerson {f C : Addr} {fd : FuncData} (F : FunD K "__init__" "NoPerson.__init__" (defArgs (inClass (top 3) 0)) (defBody (inClass (top 3) 0)) (defScope (inClass (top 3) 0)) [] [] f fd) (T : OexC K C) (n0 : NoF K C "label") :
    FnOk P w K mg base CX0 1 f fd ["self", "label"] (spIni C ["label"]) := by
  have sc : FnScope ["self", "label"] ["self", "label"] (defScope (inClass (top 3) 0)) := ⟨rfl, rfl, rfl, by decide +kernel, rfl, by decide +kernel, by decide +kernel⟩
  refine F.ok sc (fun vs H Q E h => ?_) (fun cdv A outer s H vs Q E hr h => ?_)
  · obtain ⟨a, ws, rfl, hl, _⟩ := h
    exact congrArg (· + 1) hl
  · obtain ⟨a, ws, rfl, hl, ea, q⟩ := h
    obtain ⟨y0, rfl⟩ := one_of hl
    refine ⟨_, PSs.nox (pss_one (ps_ost (pv 0) (pv 1))), ?_⟩
    refine ⟨_, rfl, _, rfl, a, C, rfl, T, n0, .inl ⟨ea, fun d nd ne => ?_⟩⟩
    exact q _ d _ nd upd_same (Eq.trans (upd_ne ne) upd_same) holds1 (keep_new nd)
theorem oi_BadWay {f C : Addr} {fd : FuncData} (F : FunD K "__init__" "BadWay.__init__" (defArgs (inClass (top 4) 0)) (defBody (inClass (top 4) 0)) (defScope (inClass (top 4) 0)) [] [] f fd) (T : OexC K C) (n0 : NoF K C "way") :
    FnOk P w K mg base CX0 1 f fd ["self", "way"] (spIni C ["way"]) := by
  have sc : FnScope ["self", "way"] ["self", "way"] (defScope (inClass (top 4) 0)) := ⟨rfl, rfl, rfl, by decide +kernel, rfl, by decide +kernel, by decide +kernel⟩
  refine F.ok sc (fun vs H Q E h => ?_) (fun cdv A outer s H vs Q E hr h => ?_)
  · obtain ⟨a, ws, rfl, hl, _⟩ := h
    exact congrArg (· + 1) hl
  · obtain ⟨a, ws, rfl, hl, ea, q⟩ := h
    obtain ⟨y0, rfl⟩ := one_of hl
    refine ⟨_, PSs.nox (pss_one (ps_ost (pv 0) (pv 1))), ?_⟩
    refine ⟨_, rfl, _, rfl, a, C, rfl, T, n0, .inl ⟨ea, fun d nd ne => ?_⟩⟩
    exact q _ d _ nd upd_same (Eq.trans (upd_ne ne) upd_same) holds1 (keep_new nd)
theorem oi_NoRow {f C : Addr} {fd : FuncData} (F : FunD K "__init__" "NoRow.__init__" (defArgs (inClass (top 5) 0)) (defBody (inClass (top 5) 0)) (defScope (inClass (top 5) 0)) [] [] f fd) (T : OexC K C) (n0 : NoF K C "number") :
    FnOk P w K mg base CX0 1 f fd ["self", "number"] (spIni C ["number"]) := by
  have sc : FnScope ["self", "number"] ["self", "number"] (defScope (inClass (top 5) 0)) := ⟨rfl, rfl, rfl, by decide +kernel, rfl, by decide +kernel, by decide +kernel⟩
  refine F.ok sc (fun vs H Q E h => ?_) (fun cdv A outer s H vs Q E hr h => ?_)
  · obtain ⟨a, ws, rfl, hl, _⟩ := h
    exact congrArg (· + 1) hl
  · obtain ⟨a, ws, rfl, hl, ea, q⟩ := h
    obtain ⟨y0, rfl⟩ := one_of hl
    refine ⟨_, PSs.nox (pss_one (ps_ost (pv 0) (pv 1))), ?_⟩
    refine ⟨_, rfl, _, rfl, a, C, rfl, T, n0, .inl ⟨ea, fun d nd ne => ?_⟩⟩
    exact q _ d _ nd upd_same (Eq.trans (upd_ne ne) upd_same) holds1 (keep_new nd)
theorem oi_BadWidth {f C : Addr} {fd : FuncData} (F : FunD K "__init__" "BadWidth.__init__" (defArgs (inClass (top 6) 0)) (defBody (inClass (top 6) 0)) (defScope (inClass (top 6) 0)) [] [] f fd) (T : OexC K C) (n0 : NoF K C "width") :
    FnOk P w K mg base CX0 1 f fd ["self", "width"] (spIni C ["width"]) := by
  have sc : FnScope ["self", "width"] ["self", "width"] (defScope (inClass (top 6) 0)) := ⟨rfl, rfl, rfl, by decide +kernel, rfl, by decide +kernel, by decide +kernel⟩
  refine F.ok sc (fun vs H Q E h => ?_) (fun cdv A outer s H vs Q E hr h => ?_)
  · obtain ⟨a, ws, rfl, hl, _⟩ := h
    exact congrArg (· + 1) hl
  · obtain ⟨a, ws, rfl, hl, ea, q⟩ := h
    obtain ⟨y0, rfl⟩ := one_of hl
    refine ⟨_, PSs.nox (pss_one (ps_ost (pv 0) (pv 1))), ?_⟩
    refine ⟨_, rfl, _, rfl, a, C, rfl, T, n0, .inl ⟨ea, fun d nd ne => ?_⟩⟩
    exact q _ d _ nd upd_same (Eq.trans (upd_ne ne) upd_same) holds1 (keep_new nd)
theorem oi_BadText {f C : Addr} {fd : FuncData} (F : FunD K "__init__" "BadText.__init__" (defArgs (inClass (top 7) 0)) (defBody (inClass (top 7) 0)) (defScope (inClass (top 7) 0)) [] [] f fd) (T : OexC K C) (n0 : NoF K C "row") (n1 : NoF K C "what") :
    FnOk P w K mg base CX0 1 f fd ["self", "row", "what"] (spIni C ["row", "what"]) := by
  have sc : FnScope ["self", "row", "what"] ["self", "row", "what"] (defScope (inClass (top 7) 0)) := ⟨rfl, rfl, rfl, by decide +kernel, rfl, by decide +kernel, by decide +kernel⟩
  refine F.ok sc (fun vs H Q E h => ?_) (fun cdv A outer s H vs Q E hr h => ?_)
  · obtain ⟨a, ws, rfl, hl, _⟩ := h
    exact congrArg (· + 1) hl
  · obtain ⟨a, ws, rfl, hl, ea, q⟩ := h
    obtain ⟨y0, y1, rfl⟩ := two_of hl
    refine ⟨_, PSs.nox (pss_cons (ps_ost (pv 0) (pv 1)) (pss_one (ps_ost (pv 0) (pv 2)))), ?_⟩
    refine ⟨_, rfl, _, rfl, a, C, rfl, T, n0, .inl ⟨ea, fun d nd ne => ?_⟩⟩
    refine ⟨_, rfl, _, rfl, a, C, rfl, T, n1, .inr ⟨d, _, upd_same, Eq.trans (upd_ne ne) upd_same, (by show 1 ≤ 900; decide), ?_⟩⟩
    exact q _ d _ nd (Eq.trans (upd_ne (Ne.symm ne)) upd_same) upd_same (holds2 (by decide +kernel)) (keep_dict nd (keep_new nd))
theorem oi_BadPairs {f C : Addr} {fd : FuncData} (F : FunD K "__init__" "BadPairs.__init__" (defArgs (inClass (top 8) 0)) (defBody (inClass (top 8) 0)) (defScope (inClass (top 8) 0)) [] [] f fd) (T : OexC K C) (n0 : NoF K C "what") :
    FnOk P w K mg base CX0 1 f fd ["self", "what"] (spIni C ["what"]) := by
  have sc : FnScope ["self", "what"] ["self", "what"] (defScope (inClass (top 8) 0)) := ⟨rfl, rfl, rfl, by decide +kernel, rfl, by decide +kernel, by decide +kernel⟩
  refine F.ok sc (fun vs H Q E h => ?_) (fun cdv A outer s H vs Q E hr h => ?_)
  · obtain ⟨a, ws, rfl, hl, _⟩ := h
    exact congrArg (· + 1) hl
  · obtain ⟨a, ws, rfl, hl, ea, q⟩ := h
    obtain ⟨y0, rfl⟩ := one_of hl
    refine ⟨_, PSs.nox (pss_one (ps_ost (pv 0) (pv 1))), ?_⟩
    refine ⟨_, rfl, _, rfl, a, C, rfl, T, n0, .inl ⟨ea, fun d nd ne => ?_⟩⟩
    exact q _ d _ nd upd_same (Eq.trans (upd_ne ne) upd_same) holds1 (keep_new nd)
theorem oi_BadCondition {f C : Addr} {fd : FuncData} (F : FunD K "__init__" "BadCondition.__init__" (defArgs (inClass (top 9) 0)) (defBody (inClass (top 9) 0)) (defScope (inClass (top 9) 0)) [] [] f fd) (T : OexC K C) (n0 : NoF K C "what") :
    FnOk P w K mg base CX0 1 f fd ["self", "what"] (spIni C ["what"]) := by
  have sc : FnScope ["self", "what"] ["self", "what"] (defScope (inClass (top 9) 0)) := ⟨rfl, rfl, rfl, by decide +kernel, rfl, by decide +kernel, by decide +kernel⟩
  refine F.ok sc (fun vs H Q E h => ?_) (fun cdv A outer s H vs Q E hr h => ?_)
  · obtain ⟨a, ws, rfl, hl, _⟩ := h
    exact congrArg (· + 1) hl
  · obtain ⟨a, ws, rfl, hl, ea, q⟩ := h
    obtain ⟨y0, rfl⟩ := one_of hl
    refine ⟨_, PSs.nox (pss_one (ps_ost (pv 0) (pv 1))), ?_⟩
    refine ⟨_, rfl, _, rfl, a, C, rfl, T, n0, .inl ⟨ea, fun d nd ne => ?_⟩⟩
    exact q _ d _ nd upd_same (Eq.trans (upd_ne ne) upd_same) holds1 (keep_new nd)
theorem oi_BadClause {f C : Addr} {fd : FuncData} (F : FunD K "__init__" "BadClause.__init__" (defArgs (inClass (top 10) 0)) (defBody (inClass (top 10) 0)) (defScope (inClass (top 10) 0)) [] [] f fd) (T : OexC K C) (n0 : NoF K C "index") (n1 : NoF K C "what") :
    FnOk P w K mg base CX0 1 f fd ["self", "index", "what"] (spIni C ["index", "what"]) := by
  have sc : FnScope ["self", "index", "what"] ["self", "index", "what"] (defScope (inClass (top 10) 0)) := ⟨rfl, rfl, rfl, by decide +kernel, rfl, by decide +kernel, by decide +kernel⟩
  refine F.ok sc (fun vs H Q E h => ?_) (fun cdv A outer s H vs Q E hr h => ?_)
  · obtain ⟨a, ws, rfl, hl, _⟩ := h
    exact congrArg (· + 1) hl
  · obtain ⟨a, ws, rfl, hl, ea, q⟩ := h
    obtain ⟨y0, y1, rfl⟩ := two_of hl
    refine ⟨_, PSs.nox (pss_cons (ps_ost (pv 0) (pv 1)) (pss_one (ps_ost (pv 0) (pv 2)))), ?_⟩
    refine ⟨_, rfl, _, rfl, a, C, rfl, T, n0, .inl ⟨ea, fun d nd ne => ?_⟩⟩
    refine ⟨_, rfl, _, rfl, a, C, rfl, T, n1, .inr ⟨d, _, upd_same, Eq.trans (upd_ne ne) upd_same, (by show 1 ≤ 900; decide), ?_⟩⟩
    exact q _ d _ nd (Eq.trans (upd_ne (Ne.symm ne)) upd_same) upd_same (holds2 (by decide +kernel)) (keep_dict nd (keep_new nd))
theorem oi_BadCustom {f C : Addr} {fd : FuncData} (F : FunD K "__init__" "BadCustom.__init__" (defArgs (inClass (top 11) 0)) (defBody (inClass (top 11) 0)) (defScope (inClass (top 11) 0)) [] [] f fd) (T : OexC K C) (n0 : NoF K C "part") (n1 : NoF K C "index") (n2 : NoF K C "what") :
    FnOk P w K mg base CX0 1 f fd ["self", "part", "index", "what"] (spIni C ["part", "index", "what"]) := by
  have sc : FnScope ["self", "part", "index", "what"] ["self", "part", "index", "what"] (defScope (inClass (top 11) 0)) := ⟨rfl, rfl, rfl, by decide +kernel, rfl, by decide +kernel, by decide +kernel⟩
  refine F.ok sc (fun vs H Q E h => ?_) (fun cdv A outer s H vs Q E hr h => ?_)
  · obtain ⟨a, ws, rfl, hl, _⟩ := h
    exact congrArg (· + 1) hl
  · obtain ⟨a, ws, rfl, hl, ea, q⟩ := h
    obtain ⟨y0, y1, y2, rfl⟩ := three_of hl
    refine ⟨_, PSs.nox (pss_cons (ps_ost (pv 0) (pv 1)) (pss_cons (ps_ost (pv 0) (pv 2)) (pss_one (ps_ost (pv 0) (pv 3))))), ?_⟩
    refine ⟨_, rfl, _, rfl, a, C, rfl, T, n0, .inl ⟨ea, fun d nd ne => ?_⟩⟩
    refine ⟨_, rfl, _, rfl, a, C, rfl, T, n1, .inr ⟨d, _, upd_same, Eq.trans (upd_ne ne) upd_same, (by show 1 ≤ 900; decide), ?_⟩⟩
    refine ⟨_, rfl, _, rfl, a, C, rfl, T, n2, .inr ⟨d, _, Eq.trans (upd_ne (Ne.symm ne)) upd_same, upd_same, (by show 2 ≤ 900; decide), ?_⟩⟩
    exact q _ d _ nd (Eq.trans (upd_ne (Ne.symm ne)) (Eq.trans (upd_ne (Ne.symm ne)) upd_same)) upd_same (holds3 (by decide +kernel) (by decide +kernel) (by decide +kernel)) (keep_dict nd (keep_dict nd (keep_new nd)))
theorem oi_BadKind {f C : Addr} {fd : FuncData} (F : FunD K "__init__" "BadKind.__init__" (defArgs (inClass (top 12) 0)) (defBody (inClass (top 12) 0)) (defScope (inClass (top 12) 0)) [] [] f fd) (T : OexC K C) (n0 : NoF K C "kind") :
    FnOk P w K mg base CX0 1 f fd ["self", "kind"] (spIni C ["kind"]) := by
  have sc : FnScope ["self", "kind"] ["self", "kind"] (defScope (inClass (top 12) 0)) := ⟨rfl, rfl, rfl, by decide +kernel, rfl, by decide +kernel, by decide +kernel⟩
  refine F.ok sc (fun vs H Q E h => ?_) (fun cdv A outer s H vs Q E hr h => ?_)
  · obtain ⟨a, ws, rfl, hl, _⟩ := h
    exact congrArg (· + 1) hl
  · obtain ⟨a, ws, rfl, hl, ea, q⟩ := h
    obtain ⟨y0, rfl⟩ := one_of hl
    refine ⟨_, PSs.nox (pss_one (ps_ost (pv 0) (pv 1))), ?_⟩
    refine ⟨_, rfl, _, rfl, a, C, rfl, T, n0, .inl ⟨ea, fun d nd ne => ?_⟩⟩
    exact q _ d _ nd upd_same (Eq.trans (upd_ne ne) upd_same) holds1 (keep_new nd)
theorem oi_TooWide {f C : Addr} {fd : FuncData} (F : FunD K "__init__" "TooWide.__init__" (defArgs (inClass (top 13) 0)) (defBody (inClass (top 13) 0)) (defScope (inClass (top 13) 0)) [] [] f fd) (T : OexC K C) (n0 : NoF K C "what") :
    FnOk P w K mg base CX0 1 f fd ["self", "what"] (spIni C ["what"]) := by
  have sc : FnScope ["self", "what"] ["self", "what"] (defScope (inClass (top 13) 0)) := ⟨rfl, rfl, rfl, by decide +kernel, rfl, by decide +kernel, by decide +kernel⟩
  refine F.ok sc (fun vs H Q E h => ?_) (fun cdv A outer s H vs Q E hr h => ?_)
  · obtain ⟨a, ws, rfl, hl, _⟩ := h
    exact congrArg (· + 1) hl
  · obtain ⟨a, ws, rfl, hl, ea, q⟩ := h
    obtain ⟨y0, rfl⟩ := one_of hl
    refine ⟨_, PSs.nox (pss_one (ps_ost (pv 0) (pv 1))), ?_⟩
    refine ⟨_, rfl, _, rfl, a, C, rfl, T, n0, .inl ⟨ea, fun d nd ne => ?_⟩⟩
    exact q _ d _ nd upd_same (Eq.trans (upd_ne ne) upd_same) holds1 (keep_new nd)
theorem oi_BadChoice {f C : Addr} {fd : FuncData} (F : FunD K "__init__" "BadChoice.__init__" (defArgs (inClass (top 14) 0)) (defBody (inClass (top 14) 0)) (defScope (inClass (top 14) 0)) [] [] f fd) (T : OexC K C) (n0 : NoF K C "label") (n1 : NoF K C "name") (n2 : NoF K C "bar") :
    FnOk P w K mg base CX0 1 f fd ["self", "label", "name", "bar"] (spIni C ["label", "name", "bar"]) := by
  have sc : FnScope ["self", "label", "name", "bar"] ["self", "label", "name", "bar"] (defScope (inClass (top 14) 0)) := ⟨rfl, rfl, rfl, by decide +kernel, rfl, by decide +kernel, by decide +kernel⟩
  refine F.ok sc (fun vs H Q E h => ?_) (fun cdv A outer s H vs Q E hr h => ?_)
  · obtain ⟨a, ws, rfl, hl, _⟩ := h
    exact congrArg (· + 1) hl
  · obtain ⟨a, ws, rfl, hl, ea, q⟩ := h
    obtain ⟨y0, y1, y2, rfl⟩ := three_of hl
    refine ⟨_, PSs.nox (pss_cons (ps_ost (pv 0) (pv 1)) (pss_cons (ps_ost (pv 0) (pv 2)) (pss_one (ps_ost (pv 0) (pv 3))))), ?_⟩
    refine ⟨_, rfl, _, rfl, a, C, rfl, T, n0, .inl ⟨ea, fun d nd ne => ?_⟩⟩
    refine ⟨_, rfl, _, rfl, a, C, rfl, T, n1, .inr ⟨d, _, upd_same, Eq.trans (upd_ne ne) upd_same, (by show 1 ≤ 900; decide), ?_⟩⟩
    refine ⟨_, rfl, _, rfl, a, C, rfl, T, n2, .inr ⟨d, _, Eq.trans (upd_ne (Ne.symm ne)) upd_same, upd_same, (by show 2 ≤ 900; decide), ?_⟩⟩
    exact q _ d _ nd (Eq.trans (upd_ne (Ne.symm ne)) (Eq.trans (upd_ne (Ne.symm ne)) upd_same)) upd_same (holds3 (by decide +kernel) (by decide +kernel) (by decide +kernel)) (keep_dict nd (keep_dict nd (keep_new nd)))
theorem oi_NoCouple {f C : Addr} {fd : FuncData} (F : FunD K "__init__" "NoCouple.__init__" (defArgs (inClass (top 15) 0)) (defBody (inClass (top 15) 0)) (defScope (inClass (top 15) 0)) [] [] f fd) (T : OexC K C) (n0 : NoF K C "father") (n1 : NoF K C "mother") :
    FnOk P w K mg base CX0 1 f fd ["self", "father", "mother"] (spIni C ["father", "mother"]) := by
  have sc : FnScope ["self", "father", "mother"] ["self", "father", "mother"] (defScope (inClass (top 15) 0)) := ⟨rfl, rfl, rfl, by decide +kernel, rfl, by decide +kernel, by decide +kernel⟩
  refine F.ok sc (fun vs H Q E h => ?_) (fun cdv A outer s H vs Q E hr h => ?_)
  · obtain ⟨a, ws, rfl, hl, _⟩ := h
    exact congrArg (· + 1) hl
  · obtain ⟨a, ws, rfl, hl, ea, q⟩ := h
    obtain ⟨y0, y1, rfl⟩ := two_of hl
    refine ⟨_, PSs.nox (pss_cons (ps_ost (pv 0) (pv 1)) (pss_one (ps_ost (pv 0) (pv 2)))), ?_⟩
    refine ⟨_, rfl, _, rfl, a, C, rfl, T, n0, .inl ⟨ea, fun d nd ne => ?_⟩⟩
    refine ⟨_, rfl, _, rfl, a, C, rfl, T, n1, .inr ⟨d, _, upd_same, Eq.trans (upd_ne ne) upd_same, (by show 1 ≤ 900; decide), ?_⟩⟩
    exact q _ d _ nd (Eq.trans (upd_ne (Ne.symm ne)) upd_same) upd_same (holds2 (by decide +kernel)) (keep_dict nd (keep_new nd))
theorem oi_NoPlace {f C : Addr} {fd : FuncData} (F : FunD K "__init__" "NoPlace.__init__" (defArgs (inClass (top 16) 0)) (defBody (inClass (top 16) 0)) (defScope (inClass (top 16) 0)) [] [] f fd) (T : OexC K C) (n0 : NoF K C "what") :
    FnOk P w K mg base CX0 1 f fd ["self", "what"] (spIni C ["what"]) := by
  have sc : FnScope ["self", "what"] ["self", "what"] (defScope (inClass (top 16) 0)) := ⟨rfl, rfl, rfl, by decide +kernel, rfl, by decide +kernel, by decide +kernel⟩
  refine F.ok sc (fun vs H Q E h => ?_) (fun cdv A outer s H vs Q E hr h => ?_)
  · obtain ⟨a, ws, rfl, hl, _⟩ := h
    exact congrArg (· + 1) hl
  · obtain ⟨a, ws, rfl, hl, ea, q⟩ := h
    obtain ⟨y0, rfl⟩ := one_of hl
    refine ⟨_, PSs.nox (pss_one (ps_ost (pv 0) (pv 1))), ?_⟩
    refine ⟨_, rfl, _, rfl, a, C, rfl, T, n0, .inl ⟨ea, fun d nd ne => ?_⟩⟩
    exact q _ d _ nd upd_same (Eq.trans (upd_ne ne) upd_same) holds1 (keep_new nd)
theorem oi_NoRoot {f C : Addr} {fd : FuncData} (F : FunD K "__init__" "NoRoot.__init__" (defArgs (inClass (top 17) 0)) (defBody (inClass (top 17) 0)) (defScope (inClass (top 17) 0)) [] [] f fd) (T : OexC K C) (n0 : NoF K C "root") :
    FnOk P w K mg base CX0 1 f fd ["self", "root"] (spIni C ["root"]) := by
  have sc : FnScope ["self", "root"] ["self", "root"] (defScope (inClass (top 17) 0)) := ⟨rfl, rfl, rfl, by decide +kernel, rfl, by decide +kernel, by decide +kernel⟩
  refine F.ok sc (fun vs H Q E h => ?_) (fun cdv A outer s H vs Q E hr h => ?_)
  · obtain ⟨a, ws, rfl, hl, _⟩ := h
    exact congrArg (· + 1) hl
  · obtain ⟨a, ws, rfl, hl, ea, q⟩ := h
    obtain ⟨y0, rfl⟩ := one_of hl
    refine ⟨_, PSs.nox (pss_one (ps_ost (pv 0) (pv 1))), ?_⟩
    refine ⟨_, rfl, _, rfl, a, C, rfl, T, n0, .inl ⟨ea, fun d nd ne => ?_⟩⟩
    exact q _ d _ nd upd_same (Eq.trans (upd_ne ne) upd_same) holds1 (keep_new nd)
theorem oi_BadOrder {f C : Addr} {fd : FuncData} (F : FunD K "__init__" "BadOrder.__init__" (defArgs (inClass (top 18) 0)) (defBody (inClass (top 18) 0)) (defScope (inClass (top 18) 0)) [] [] f fd) (T : OexC K C) (n0 : NoF K C "position") (n1 : NoF K C "what") :
    FnOk P w K mg base CX0 1 f fd ["self", "position", "what"] (spIni C ["position", "what"]) := by
  have sc : FnScope ["self", "position", "what"] ["self", "position", "what"] (defScope (inClass (top 18) 0)) := ⟨rfl, rfl, rfl, by decide +kernel, rfl, by decide +kernel, by decide +kernel⟩
  refine F.ok sc (fun vs H Q E h => ?_) (fun cdv A outer s H vs Q E hr h => ?_)
  · obtain ⟨a, ws, rfl, hl, _⟩ := h
    exact congrArg (· + 1) hl
  · obtain ⟨a, ws, rfl, hl, ea, q⟩ := h
    obtain ⟨y0, y1, rfl⟩ := two_of hl
    refine ⟨_, PSs.nox (pss_cons (ps_ost (pv 0) (pv 1)) (pss_one (ps_ost (pv 0) (pv 2)))), ?_⟩
    refine ⟨_, rfl, _, rfl, a, C, rfl, T, n0, .inl ⟨ea, fun d nd ne => ?_⟩⟩
    refine ⟨_, rfl, _, rfl, a, C, rfl, T, n1, .inr ⟨d, _, upd_same, Eq.trans (upd_ne ne) upd_same, (by show 1 ≤ 900; decide), ?_⟩⟩
    exact q _ d _ nd (Eq.trans (upd_ne (Ne.symm ne)) upd_same) upd_same (holds2 (by decide +kernel)) (keep_dict nd (keep_new nd))
theorem oi_BadPattern {f C : Addr} {fd : FuncData} (F : FunD K "__init__" "BadPattern.__init__" (defArgs (inClass (top 19) 0)) (defBody (inClass (top 19) 0)) (defScope (inClass (top 19) 0)) [] [] f fd) (T : OexC K C) (n0 : NoF K C "index") (n1 : NoF K C "what") :
    FnOk P w K mg base CX0 1 f fd ["self", "index", "what"] (spIni C ["index", "what"]) := by
  have sc : FnScope ["self", "index", "what"] ["self", "index", "what"] (defScope (inClass (top 19) 0)) := ⟨rfl, rfl, rfl, by decide +kernel, rfl, by decide +kernel, by decide +kernel⟩
  refine F.ok sc (fun vs H Q E h => ?_) (fun cdv A outer s H vs Q E hr h => ?_)
  · obtain ⟨a, ws, rfl, hl, _⟩ := h
    exact congrArg (· + 1) hl
  · obtain ⟨a, ws, rfl, hl, ea, q⟩ := h
    obtain ⟨y0, y1, rfl⟩ := two_of hl
    refine ⟨_, PSs.nox (pss_cons (ps_ost (pv 0) (pv 1)) (pss_one (ps_ost (pv 0) (pv 2)))), ?_⟩
    refine ⟨_, rfl, _, rfl, a, C, rfl, T, n0, .inl ⟨ea, fun d nd ne => ?_⟩⟩
    refine ⟨_, rfl, _, rfl, a, C, rfl, T, n1, .inr ⟨d, _, upd_same, Eq.trans (upd_ne ne) upd_same, (by show 1 ≤ 900; decide), ?_⟩⟩
    exact q _ d _ nd (Eq.trans (upd_ne (Ne.symm ne)) upd_same) upd_same (holds2 (by decide +kernel)) (keep_dict nd (keep_new nd))
theorem oi_BadNames {f C : Addr} {fd : FuncData} (F : FunD K "__init__" "BadNames.__init__" (defArgs (inClass (top 20) 0)) (defBody (inClass (top 20) 0)) (defScope (inClass (top 20) 0)) [] [] f fd) (T : OexC K C) (n0 : NoF K C "index") (n1 : NoF K C "what") :
    FnOk P w K mg base CX0 1 f fd ["self", "index", "what"] (spIni C ["index", "what"]) := by
  have sc : FnScope ["self", "index", "what"] ["self", "index", "what"] (defScope (inClass (top 20) 0)) := ⟨rfl, rfl, rfl, by decide +kernel, rfl, by decide +kernel, by decide +kernel⟩
  refine F.ok sc (fun vs H Q E h => ?_) (fun cdv A outer s H vs Q E hr h => ?_)
  · obtain ⟨a, ws, rfl, hl, _⟩ := h
    exact congrArg (· + 1) hl
  · obtain ⟨a, ws, rfl, hl, ea, q⟩ := h
    obtain ⟨y0, y1, rfl⟩ := two_of hl
    refine ⟨_, PSs.nox (pss_cons (ps_ost (pv 0) (pv 1)) (pss_one (ps_ost (pv 0) (pv 2)))), ?_⟩
    refine ⟨_, rfl, _, rfl, a, C, rfl, T, n0, .inl ⟨ea, fun d nd ne => ?_⟩⟩
    refine ⟨_, rfl, _, rfl, a, C, rfl, T, n1, .inr ⟨d, _, upd_same, Eq.trans (upd_ne ne) upd_same, (by show 1 ≤ 900; decide), ?_⟩⟩
    exact q _ d _ nd (Eq.trans (upd_ne (Ne.symm ne)) upd_same) upd_same (holds2 (by decide +kernel)) (keep_dict nd (keep_new nd))
theorem oi_BadPlaces {f C : Addr} {fd : FuncData} (F : FunD K "__init__" "BadPlaces.__init__" (defArgs (inClass (top 21) 0)) (defBody (inClass (top 21) 0)) (defScope (inClass (top 21) 0)) [] [] f fd) (T : OexC K C) (n0 : NoF K C "index") (n1 : NoF K C "what") :
    FnOk P w K mg base CX0 1 f fd ["self", "index", "what"] (spIni C ["index", "what"]) := by
  have sc : FnScope ["self", "index", "what"] ["self", "index", "what"] (defScope (inClass (top 21) 0)) := ⟨rfl, rfl, rfl, by decide +kernel, rfl, by decide +kernel, by decide +kernel⟩
  refine F.ok sc (fun vs H Q E h => ?_) (fun cdv A outer s H vs Q E hr h => ?_)
  · obtain ⟨a, ws, rfl, hl, _⟩ := h
    exact congrArg (· + 1) hl
  · obtain ⟨a, ws, rfl, hl, ea, q⟩ := h
    obtain ⟨y0, y1, rfl⟩ := two_of hl
    refine ⟨_, PSs.nox (pss_cons (ps_ost (pv 0) (pv 1)) (pss_one (ps_ost (pv 0) (pv 2)))), ?_⟩
    refine ⟨_, rfl, _, rfl, a, C, rfl, T, n0, .inl ⟨ea, fun d nd ne => ?_⟩⟩
    refine ⟨_, rfl, _, rfl, a, C, rfl, T, n1, .inr ⟨d, _, upd_same, Eq.trans (upd_ne ne) upd_same, (by show 1 ≤ 900; decide), ?_⟩⟩
    exact q _ d _ nd (Eq.trans (upd_ne (Ne.symm ne)) upd_same) upd_same (holds2 (by decide +kernel)) (keep_dict nd (keep_new nd))
theorem oi_BadClass {f C : Addr} {fd : FuncData} (F : FunD K "__init__" "BadClass.__init__" (defArgs (inClass (top 22) 0)) (defBody (inClass (top 22) 0)) (defScope (inClass (top 22) 0)) [] [] f fd) (T : OexC K C) (n0 : NoF K C "number") :
    FnOk P w K mg base CX0 1 f fd ["self", "number"] (spIni C ["number"]) := by
  have sc : FnScope ["self", "number"] ["self", "number"] (defScope (inClass (top 22) 0)) := ⟨rfl, rfl, rfl, by decide +kernel, rfl, by decide +kernel, by decide +kernel⟩
  refine F.ok sc (fun vs H Q E h => ?_) (fun cdv A outer s H vs Q E hr h => ?_)
  · obtain ⟨a, ws, rfl, hl, _⟩ := h
    exact congrArg (· + 1) hl
  · obtain ⟨a, ws, rfl, hl, ea, q⟩ := h
    obtain ⟨y0, rfl⟩ := one_of hl
    refine ⟨_, PSs.nox (pss_one (ps_ost (pv 0) (pv 1))), ?_⟩
    refine ⟨_, rfl, _, rfl, a, C, rfl, T, n0, .inl ⟨ea, fun d nd ne => ?_⟩⟩
    exact q _ d _ nd upd_same (Eq.trans (upd_ne ne) upd_same) holds1 (keep_new nd)
theorem oi_BadMatch {f C : Addr} {fd : FuncData} (F : FunD K "__init__" "BadMatch.__init__" (defArgs (inClass (top 23) 0)) (defBody (inClass (top 23) 0)) (defScope (inClass (top 23) 0)) [] [] f fd) (T : OexC K C) (n0 : NoF K C "what") :
    FnOk P w K mg base CX0 1 f fd ["self", "what"] (spIni C ["what"]) := by
  have sc : FnScope ["self", "what"] ["self", "what"] (defScope (inClass (top 23) 0)) := ⟨rfl, rfl, rfl, by decide +kernel, rfl, by decide +kernel, by decide +kernel⟩
  refine F.ok sc (fun vs H Q E h => ?_) (fun cdv A outer s H vs Q E hr h => ?_)
  · obtain ⟨a, ws, rfl, hl, _⟩ := h
    exact congrArg (· + 1) hl
  · obtain ⟨a, ws, rfl, hl, ea, q⟩ := h
    obtain ⟨y0, rfl⟩ := one_of hl
    refine ⟨_, PSs.nox (pss_one (ps_ost (pv 0) (pv 1))), ?_⟩
    refine ⟨_, rfl, _, rfl, a, C, rfl, T, n0, .inl ⟨ea, fun d nd ne => ?_⟩⟩
    exact q _ d _ nd upd_same (Eq.trans (upd_ne ne) upd_same) holds1 (keep_new nd)
theorem oi_BadCount {f C : Addr} {fd : FuncData} (F : FunD K "__init__" "BadCount.__init__" (defArgs (inClass (top 24) 0)) (defBody (inClass (top 24) 0)) (defScope (inClass (top 24) 0)) [] [] f fd) (T : OexC K C) (n0 : NoF K C "number") :
    FnOk P w K mg base CX0 1 f fd ["self", "number"] (spIni C ["number"]) := by
  have sc : FnScope ["self", "number"] ["self", "number"] (defScope (inClass (top 24) 0)) := ⟨rfl, rfl, rfl, by decide +kernel, rfl, by decide +kernel, by decide +kernel⟩
  refine F.ok sc (fun vs H Q E h => ?_) (fun cdv A outer s H vs Q E hr h => ?_)
  · obtain ⟨a, ws, rfl, hl, _⟩ := h
    exact congrArg (· + 1) hl
  · obtain ⟨a, ws, rfl, hl, ea, q⟩ := h
    obtain ⟨y0, rfl⟩ := one_of hl
    refine ⟨_, PSs.nox (pss_one (ps_ost (pv 0) (pv 1))), ?_⟩
    refine ⟨_, rfl, _, rfl, a, C, rfl, T, n0, .inl ⟨ea, fun d nd ne => ?_⟩⟩
    exact q _ d _ nd upd_same (Eq.trans (upd_ne ne) upd_same) holds1 (keep_new nd)
theorem oi_BadIndex {f C : Addr} {fd : FuncData} (F : FunD K "__init__" "BadIndex.__init__" (defArgs (inClass (top 25) 0)) (defBody (inClass (top 25) 0)) (defScope (inClass (top 25) 0)) [] [] f fd) (T : OexC K C) (n0 : NoF K C "index") :
    FnOk P w K mg base CX0 1 f fd ["self", "index"] (spIni C ["index"]) := by
  have sc : FnScope ["self", "index"] ["self", "index"] (defScope (inClass (top 25) 0)) := ⟨rfl, rfl, rfl, by decide +kernel, rfl, by decide +kernel, by decide +kernel⟩
  refine F.ok sc (fun vs H Q E h => ?_) (fun cdv A outer s H vs Q E hr h => ?_)
  · obtain ⟨a, ws, rfl, hl, _⟩ := h
    exact congrArg (· + 1) hl
  · obtain ⟨a, ws, rfl, hl, ea, q⟩ := h
    obtain ⟨y0, rfl⟩ := one_of hl
    refine ⟨_, PSs.nox (pss_one (ps_ost (pv 0) (pv 1))), ?_⟩
    refine ⟨_, rfl, _, rfl, a, C, rfl, T, n0, .inl ⟨ea, fun d nd ne => ?_⟩⟩
    exact q _ d _ nd upd_same (Eq.trans (upd_ne ne) upd_same) holds1 (keep_new nd)
theorem oi_BadJoining {f C : Addr} {fd : FuncData} (F : FunD K "__init__" "BadJoining.__init__" (defArgs (inClass (top 26) 0)) (defBody (inClass (top 26) 0)) (defScope (inClass (top 26) 0)) [] [] f fd) (T : OexC K C) (n0 : NoF K C "index") (n1 : NoF K C "what") :
    FnOk P w K mg base CX0 1 f fd ["self", "index", "what"] (spIni C ["index", "what"]) := by
  have sc : FnScope ["self", "index", "what"] ["self", "index", "what"] (defScope (inClass (top 26) 0)) := ⟨rfl, rfl, rfl, by decide +kernel, rfl, by decide +kernel, by decide +kernel⟩
  refine F.ok sc (fun vs H Q E h => ?_) (fun cdv A outer s H vs Q E hr h => ?_)
  · obtain ⟨a, ws, rfl, hl, _⟩ := h
    exact congrArg (· + 1) hl
  · obtain ⟨a, ws, rfl, hl, ea, q⟩ := h
    obtain ⟨y0, y1, rfl⟩ := two_of hl
    refine ⟨_, PSs.nox (pss_cons (ps_ost (pv 0) (pv 1)) (pss_one (ps_ost (pv 0) (pv 2)))), ?_⟩
    refine ⟨_, rfl, _, rfl, a, C, rfl, T, n0, .inl ⟨ea, fun d nd ne => ?_⟩⟩
    refine ⟨_, rfl, _, rfl, a, C, rfl, T, n1, .inr ⟨d, _, upd_same, Eq.trans (upd_ne ne) upd_same, (by show 1 ≤ 900; decide), ?_⟩⟩
    exact q _ d _ nd (Eq.trans (upd_ne (Ne.symm ne)) upd_same) upd_same (holds2 (by decide +kernel)) (keep_dict nd (keep_new nd))
theorem oi_NoRenaming {f C : Addr} {fd : FuncData} (F : FunD K "__init__" "NoRenaming.__init__" (defArgs (inClass (top 27) 0)) (defBody (inClass (top 27) 0)) (defScope (inClass (top 27) 0)) [] [] f fd) (T : OexC K C) (n0 : NoF K C "place") :
    FnOk P w K mg base CX0 1 f fd ["self", "place"] (spIni C ["place"]) := by
  have sc : FnScope ["self", "place"] ["self", "place"] (defScope (inClass (top 27) 0)) := ⟨rfl, rfl, rfl, by decide +kernel, rfl, by decide +kernel, by decide +kernel⟩
  refine F.ok sc (fun vs H Q E h => ?_) (fun cdv A outer s H vs Q E hr h => ?_)
  · obtain ⟨a, ws, rfl, hl, _⟩ := h
    exact congrArg (· + 1) hl
  · obtain ⟨a, ws, rfl, hl, ea, q⟩ := h
    obtain ⟨y0, rfl⟩ := one_of hl
    refine ⟨_, PSs.nox (pss_one (ps_ost (pv 0) (pv 1))), ?_⟩
    refine ⟨_, rfl, _, rfl, a, C, rfl, T, n0, .inl ⟨ea, fun d nd ne => ?_⟩⟩
    exact q _ d _ nd upd_same (Eq.trans (upd_ne ne) upd_same) holds1 (keep_new nd)
theorem oi_BadScope {f C : Addr} {fd : FuncData} (F : FunD K "__init__" "BadScope.__init__" (defArgs (inClass (top 28) 0)) (defBody (inClass (top 28) 0)) (defScope (inClass (top 28) 0)) [] [] f fd) (T : OexC K C) (n0 : NoF K C "what") :
    FnOk P w K mg base CX0 1 f fd ["self", "what"] (spIni C ["what"]) := by
  have sc : FnScope ["self", "what"] ["self", "what"] (defScope (inClass (top 28) 0)) := ⟨rfl, rfl, rfl, by decide +kernel, rfl, by decide +kernel, by decide +kernel⟩
  refine F.ok sc (fun vs H Q E h => ?_) (fun cdv A outer s H vs Q E hr h => ?_)
  · obtain ⟨a, ws, rfl, hl, _⟩ := h
    exact congrArg (· + 1) hl
  · obtain ⟨a, ws, rfl, hl, ea, q⟩ := h
    obtain ⟨y0, rfl⟩ := one_of hl
    refine ⟨_, PSs.nox (pss_one (ps_ost (pv 0) (pv 1))), ?_⟩
    refine ⟨_, rfl, _, rfl, a, C, rfl, T, n0, .inl ⟨ea, fun d nd ne => ?_⟩⟩
    exact q _ d _ nd upd_same (Eq.trans (upd_ne ne) upd_same) holds1 (keep_new nd)
theorem oi_BadState {f C : Addr} {fd : FuncData} (F : FunD K "__init__" "BadState.__init__" (defArgs (inClass (top 29) 0)) (defBody (inClass (top 29) 0)) (defScope (inClass (top 29) 0)) [] [] f fd) (T : OexC K C) (n0 : NoF K C "what") :
    FnOk P w K mg base CX0 1 f fd ["self", "what"] (spIni C ["what"]) := by
  have sc : FnScope ["self", "what"] ["self", "what"] (defScope (inClass (top 29) 0)) := ⟨rfl, rfl, rfl, by decide +kernel, rfl, by decide +kernel, by decide +kernel⟩
  refine F.ok sc (fun vs H Q E h => ?_) (fun cdv A outer s H vs Q E hr h => ?_)
  · obtain ⟨a, ws, rfl, hl, _⟩ := h
    exact congrArg (· + 1) hl
  · obtain ⟨a, ws, rfl, hl, ea, q⟩ := h
    obtain ⟨y0, rfl⟩ := one_of hl
    refine ⟨_, PSs.nox (pss_one (ps_ost (pv 0) (pv 1))), ?_⟩
    refine ⟨_, rfl, _, rfl, a, C, rfl, T, n0, .inl ⟨ea, fun d nd ne => ?_⟩⟩
    exact q _ d _ nd upd_same (Eq.trans (upd_ne ne) upd_same) holds1 (keep_new nd)
theorem oi_BadTable {f C : Addr} {fd : FuncData} (F : FunD K "__init__" "BadTable.__init__" (defArgs (inClass (top 30) 0)) (defBody (inClass (top 30) 0)) (defScope (inClass (top 30) 0)) [] [] f fd) (T : OexC K C) (n0 : NoF K C "index") (n1 : NoF K C "what") :
    FnOk P w K mg base CX0 1 f fd ["self", "index", "what"] (spIni C ["index", "what"]) := by
  have sc : FnScope ["self", "index", "what"] ["self", "index", "what"] (defScope (inClass (top 30) 0)) := ⟨rfl, rfl, rfl, by decide +kernel, rfl, by decide +kernel, by decide +kernel⟩
  refine F.ok sc (fun vs H Q E h => ?_) (fun cdv A outer s H vs Q E hr h => ?_)
  · obtain ⟨a, ws, rfl, hl, _⟩ := h
    exact congrArg (· + 1) hl
  · obtain ⟨a, ws, rfl, hl, ea, q⟩ := h
    obtain ⟨y0, y1, rfl⟩ := two_of hl
    refine ⟨_, PSs.nox (pss_cons (ps_ost (pv 0) (pv 1)) (pss_one (ps_ost (pv 0) (pv 2)))), ?_⟩
    refine ⟨_, rfl, _, rfl, a, C, rfl, T, n0, .inl ⟨ea, fun d nd ne => ?_⟩⟩
    refine ⟨_, rfl, _, rfl, a, C, rfl, T, n1, .inr ⟨d, _, upd_same, Eq.trans (upd_ne ne) upd_same, (by show 1 ≤ 900; decide), ?_⟩⟩
    exact q _ d _ nd (Eq.trans (upd_ne (Ne.symm ne)) upd_same) upd_same (holds2 (by decide +kernel)) (keep_dict nd (keep_new nd))
theorem oi_BadPlay {f C : Addr} {fd : FuncData} (F : FunD K "__init__" "BadPlay.__init__" (defArgs (inClass (top 31) 0)) (defBody (inClass (top 31) 0)) (defScope (inClass (top 31) 0)) [] [] f fd) (T : OexC K C) (n0 : NoF K C "index") :
    FnOk P w K mg base CX0 1 f fd ["self", "index"] (spIni C ["index"]) := by
  have sc : FnScope ["self", "index"] ["self", "index"] (defScope (inClass (top 31) 0)) := ⟨rfl, rfl, rfl, by decide +kernel, rfl, by decide +kernel, by decide +kernel⟩
  refine F.ok sc (fun vs H Q E h => ?_) (fun cdv A outer s H vs Q E hr h => ?_)
  · obtain ⟨a, ws, rfl, hl, _⟩ := h
    exact congrArg (· + 1) hl
  · obtain ⟨a, ws, rfl, hl, ea, q⟩ := h
    obtain ⟨y0, rfl⟩ := one_of hl
    refine ⟨_, PSs.nox (pss_one (ps_ost (pv 0) (pv 1))), ?_⟩
    refine ⟨_, rfl, _, rfl, a, C, rfl, T, n0, .inl ⟨ea, fun d nd ne => ?_⟩⟩
    exact q _ d _ nd upd_same (Eq.trans (upd_ne ne) upd_same) holds1 (keep_new nd)
theorem oi_NeverComes {f C : Addr} {fd : FuncData} (F : FunD K "__init__" "NeverComes.__init__" (defArgs (inClass (top 32) 0)) (defBody (inClass (top 32) 0)) (defScope (inClass (top 32) 0)) [] [] f fd) (T : OexC K C) (n0 : NoF K C "state") :
    FnOk P w K mg base CX0 1 f fd ["self", "state"] (spIni C ["state"]) := by
  have sc : FnScope ["self", "state"] ["self", "state"] (defScope (inClass (top 32) 0)) := ⟨rfl, rfl, rfl, by decide +kernel, rfl, by decide +kernel, by decide +kernel⟩
  refine F.ok sc (fun vs H Q E h => ?_) (fun cdv A outer s H vs Q E hr h => ?_)
  · obtain ⟨a, ws, rfl, hl, _⟩ := h
    exact congrArg (· + 1) hl
  · obtain ⟨a, ws, rfl, hl, ea, q⟩ := h
    obtain ⟨y0, rfl⟩ := one_of hl
    refine ⟨_, PSs.nox (pss_one (ps_ost (pv 0) (pv 1))), ?_⟩
    refine ⟨_, rfl, _, rfl, a, C, rfl, T, n0, .inl ⟨ea, fun d nd ne => ?_⟩⟩
    exact q _ d _ nd upd_same (Eq.trans (upd_ne ne) upd_same) holds1 (keep_new nd)
theorem oi_NotUnwed {f C : Addr} {fd : FuncData} (F : FunD K "__init__" "NotUnwed.__init__" (defArgs (inClass (top 33) 0)) (defBody (inClass (top 33) 0)) (defScope (inClass (top 33) 0)) [] [] f fd) (T : OexC K C) (n0 : NoF K C "label") :
    FnOk P w K mg base CX0 1 f fd ["self", "label"] (spIni C ["label"]) := by
  have sc : FnScope ["self", "label"] ["self", "label"] (defScope (inClass (top 33) 0)) := ⟨rfl, rfl, rfl, by decide +kernel, rfl, by decide +kernel, by decide +kernel⟩
  refine F.ok sc (fun vs H Q E h => ?_) (fun cdv A outer s H vs Q E hr h => ?_)
  · obtain ⟨a, ws, rfl, hl, _⟩ := h
    exact congrArg (· + 1) hl
  · obtain ⟨a, ws, rfl, hl, ea, q⟩ := h
    obtain ⟨y0, rfl⟩ := one_of hl
    refine ⟨_, PSs.nox (pss_one (ps_ost (pv 0) (pv 1))), ?_⟩
    refine ⟨_, rfl, _, rfl, a, C, rfl, T, n0, .inl ⟨ea, fun d nd ne => ?_⟩⟩
    exact q _ d _ nd upd_same (Eq.trans (upd_ne ne) upd_same) holds1 (keep_new nd)
theorem oi_BadAsked {f C : Addr} {fd : FuncData} (F : FunD K "__init__" "BadAsked.__init__" (defArgs (inClass (top 34) 0)) (defBody (inClass (top 34) 0)) (defScope (inClass (top 34) 0)) [] [] f fd) (T : OexC K C) (n0 : NoF K C "what") :
    FnOk P w K mg base CX0 1 f fd ["self", "what"] (spIni C ["what"]) := by
  have sc : FnScope ["self", "what"] ["self", "what"] (defScope (inClass (top 34) 0)) := ⟨rfl, rfl, rfl, by decide +kernel, rfl, by decide +kernel, by decide +kernel⟩
  refine F.ok sc (fun vs H Q E h => ?_) (fun cdv A outer s H vs Q E hr h => ?_)
  · obtain ⟨a, ws, rfl, hl, _⟩ := h
    exact congrArg (· + 1) hl
  · obtain ⟨a, ws, rfl, hl, ea, q⟩ := h
    obtain ⟨y0, rfl⟩ := one_of hl
    refine ⟨_, PSs.nox (pss_one (ps_ost (pv 0) (pv 1))), ?_⟩
    refine ⟨_, rfl, _, rfl, a, C, rfl, T, n0, .inl ⟨ea, fun d nd ne => ?_⟩⟩
    exact q _ d _ nd upd_same (Eq.trans (upd_ne ne) upd_same) holds1 (keep_new nd)
theorem oi_TooLong {f C : Addr} {fd : FuncData} (F : FunD K "__init__" "TooLong.__init__" (defArgs (inClass (top 35) 0)) (defBody (inClass (top 35) 0)) (defScope (inClass (top 35) 0)) [] [] f fd) (T : OexC K C) (n0 : NoF K C "times") :
    FnOk P w K mg base CX0 1 f fd ["self", "times"] (spIni C ["times"]) := by
  have sc : FnScope ["self", "times"] ["self", "times"] (defScope (inClass (top 35) 0)) := ⟨rfl, rfl, rfl, by decide +kernel, rfl, by decide +kernel, by decide +kernel⟩
  refine F.ok sc (fun vs H Q E h => ?_) (fun cdv A outer s H vs Q E hr h => ?_)
  · obtain ⟨a, ws, rfl, hl, _⟩ := h
    exact congrArg (· + 1) hl
  · obtain ⟨a, ws, rfl, hl, ea, q⟩ := h
    obtain ⟨y0, rfl⟩ := one_of hl
    refine ⟨_, PSs.nox (pss_one (ps_ost (pv 0) (pv 1))), ?_⟩
    refine ⟨_, rfl, _, rfl, a, C, rfl, T, n0, .inl ⟨ea, fun d nd ne => ?_⟩⟩
    exact q _ d _ nd upd_same (Eq.trans (upd_ne ne) upd_same) holds1 (keep_new nd)
theorem oi_NoWays {f C : Addr} {fd : FuncData} (F : FunD K "__init__" "NoWays.__init__" (defArgs (inClass (top 36) 0)) (defBody (inClass (top 36) 0)) (defScope (inClass (top 36) 0)) [] [] f fd) (T : OexC K C) (n0 : NoF K C "what") :
    FnOk P w K mg base CX0 1 f fd ["self", "what"] (spIni C ["what"]) := by
  have sc : FnScope ["self", "what"] ["self", "what"] (defScope (inClass (top 36) 0)) := ⟨rfl, rfl, rfl, by decide +kernel, rfl, by decide +kernel, by decide +kernel⟩
  refine F.ok sc (fun vs H Q E h => ?_) (fun cdv A outer s H vs Q E hr h => ?_)
  · obtain ⟨a, ws, rfl, hl, _⟩ := h
    exact congrArg (· + 1) hl
  · obtain ⟨a, ws, rfl, hl, ea, q⟩ := h
    obtain ⟨y0, rfl⟩ := one_of hl
    refine ⟨_, PSs.nox (pss_one (ps_ost (pv 0) (pv 1))), ?_⟩
    refine ⟨_, rfl, _, rfl, a, C, rfl, T, n0, .inl ⟨ea, fun d nd ne => ?_⟩⟩
    exact q _ d _ nd upd_same (Eq.trans (upd_ne ne) upd_same) holds1 (keep_new nd)
theorem oi_NoState {f C : Addr} {fd : FuncData} (F : FunD K "__init__" "NoState.__init__" (defArgs (inClass (top 37) 0)) (defBody (inClass (top 37) 0)) (defScope (inClass (top 37) 0)) [] [] f fd) (T : OexC K C) (n0 : NoF K C "state") :
    FnOk P w K mg base CX0 1 f fd ["self", "state"] (spIni C ["state"]) := by
  have sc : FnScope ["self", "state"] ["self", "state"] (defScope (inClass (top 37) 0)) := ⟨rfl, rfl, rfl, by decide +kernel, rfl, by decide +kernel, by decide +kernel⟩
  refine F.ok sc (fun vs H Q E h => ?_) (fun cdv A outer s H vs Q E hr h => ?_)
  · obtain ⟨a, ws, rfl, hl, _⟩ := h
    exact congrArg (· + 1) hl
  · obtain ⟨a, ws, rfl, hl, ea, q⟩ := h
    obtain ⟨y0, rfl⟩ := one_of hl
    refine ⟨_, PSs.nox (pss_one (ps_ost (pv 0) (pv 1))), ?_⟩
    refine ⟨_, rfl, _, rfl, a, C, rfl, T, n0, .inl ⟨ea, fun d nd ne => ?_⟩⟩
    exact q _ d _ nd upd_same (Eq.trans (upd_ne ne) upd_same) holds1 (keep_new nd)
theorem oi_BadWord {f C : Addr} {fd : FuncData} (F : FunD K "__init__" "BadWord.__init__" (defArgs (inClass (top 38) 0)) (defBody (inClass (top 38) 0)) (defScope (inClass (top 38) 0)) [] [] f fd) (T : OexC K C) (n0 : NoF K C "word") :
    FnOk P w K mg base CX0 1 f fd ["self", "word"] (spIni C ["word"]) := by
  have sc : FnScope ["self", "word"] ["self", "word"] (defScope (inClass (top 38) 0)) := ⟨rfl, rfl, rfl, by decide +kernel, rfl, by decide +kernel, by decide +kernel⟩
  refine F.ok sc (fun vs H Q E h => ?_) (fun cdv A outer s H vs Q E hr h => ?_)
  · obtain ⟨a, ws, rfl, hl, _⟩ := h
    exact congrArg (· + 1) hl
  · obtain ⟨a, ws, rfl, hl, ea, q⟩ := h
    obtain ⟨y0, rfl⟩ := one_of hl
    refine ⟨_, PSs.nox (pss_one (ps_ost (pv 0) (pv 1))), ?_⟩
    refine ⟨_, rfl, _, rfl, a, C, rfl, T, n0, .inl ⟨ea, fun d nd ne => ?_⟩⟩
    exact q _ d _ nd upd_same (Eq.trans (upd_ne ne) upd_same) holds1 (keep_new nd)
theorem oi_BadLength {f C : Addr} {fd : FuncData} (F : FunD K "__init__" "BadLength.__init__" (defArgs (inClass (top 39) 0)) (defBody (inClass (top 39) 0)) (defScope (inClass (top 39) 0)) [] [] f fd) (T : OexC K C) (n0 : NoF K C "length") :
    FnOk P w K mg base CX0 1 f fd ["self", "length"] (spIni C ["length"]) := by
  have sc : FnScope ["self", "length"] ["self", "length"] (defScope (inClass (top 39) 0)) := ⟨rfl, rfl, rfl, by decide +kernel, rfl, by decide +kernel, by decide +kernel⟩
  refine F.ok sc (fun vs H Q E h => ?_) (fun cdv A outer s H vs Q E hr h => ?_)
  · obtain ⟨a, ws, rfl, hl, _⟩ := h
    exact congrArg (· + 1) hl
  · obtain ⟨a, ws, rfl, hl, ea, q⟩ := h
    obtain ⟨y0, rfl⟩ := one_of hl
    refine ⟨_, PSs.nox (pss_one (ps_ost (pv 0) (pv 1))), ?_⟩
    refine ⟨_, rfl, _, rfl, a, C, rfl, T, n0, .inl ⟨ea, fun d nd ne => ?_⟩⟩
    exact q _ d _ nd upd_same (Eq.trans (upd_ne ne) upd_same) holds1 (keep_new nd)
theorem oi_BadOrigin {f C : Addr} {fd : FuncData} (F : FunD K "__init__" "BadOrigin.__init__" (defArgs (inClass (top 40) 0)) (defBody (inClass (top 40) 0)) (defScope (inClass (top 40) 0)) [] [] f fd) (T : OexC K C) (n0 : NoF K C "origin") :
    FnOk P w K mg base CX0 1 f fd ["self", "origin"] (spIni C ["origin"]) := by
  have sc : FnScope ["self", "origin"] ["self", "origin"] (defScope (inClass (top 40) 0)) := ⟨rfl, rfl, rfl, by decide +kernel, rfl, by decide +kernel, by decide +kernel⟩
  refine F.ok sc (fun vs H Q E h => ?_) (fun cdv A outer s H vs Q E hr h => ?_)
  · obtain ⟨a, ws, rfl, hl, _⟩ := h
    exact congrArg (· + 1) hl
  · obtain ⟨a, ws, rfl, hl, ea, q⟩ := h
    obtain ⟨y0, rfl⟩ := one_of hl
    refine ⟨_, PSs.nox (pss_one (ps_ost (pv 0) (pv 1))), ?_⟩
    refine ⟨_, rfl, _, rfl, a, C, rfl, T, n0, .inl ⟨ea, fun d nd ne => ?_⟩⟩
    exact q _ d _ nd upd_same (Eq.trans (upd_ne ne) upd_same) holds1 (keep_new nd)
theorem oi_NotLet {f C : Addr} {fd : FuncData} (F : FunD K "__init__" "NotLet.__init__" (defArgs (inClass (top 41) 0)) (defBody (inClass (top 41) 0)) (defScope (inClass (top 41) 0)) [.non] [] f fd) (T : OexC K C) (n0 : NoF K C "one") (n1 : NoF K C "other") :
    FnOk P w K mg base CX0 1 f fd ["self", "one", "other"] (spIni C ["one", "other"]) := by
  have sc : FnScope ["self", "one", "other"] ["self", "one", "other"] (defScope (inClass (top 41) 0)) := ⟨rfl, rfl, rfl, by decide +kernel, rfl, by decide +kernel, by decide +kernel⟩
  refine F.ok sc (fun vs H Q E h => ?_) (fun cdv A outer s H vs Q E hr h => ?_)
  · obtain ⟨a, ws, rfl, hl, _⟩ := h
    exact congrArg (· + 1) hl
  · obtain ⟨a, ws, rfl, hl, ea, q⟩ := h
    obtain ⟨y0, y1, rfl⟩ := two_of hl
    refine ⟨_, PSs.nox (pss_cons (ps_ost (pv 0) (pv 1)) (pss_one (ps_ost (pv 0) (pv 2)))), ?_⟩
    refine ⟨_, rfl, _, rfl, a, C, rfl, T, n0, .inl ⟨ea, fun d nd ne => ?_⟩⟩
    refine ⟨_, rfl, _, rfl, a, C, rfl, T, n1, .inr ⟨d, _, upd_same, Eq.trans (upd_ne ne) upd_same, (by show 1 ≤ 900; decide), ?_⟩⟩
    exact q _ d _ nd (Eq.trans (upd_ne (Ne.symm ne)) upd_same) upd_same (holds2 (by decide +kernel)) (keep_dict nd (keep_new nd))
theorem oi_BadNumber {f C : Addr} {fd : FuncData} (F : FunD K "__init__" "BadNumber.__init__" (defArgs (inClass (top 42) 0)) (defBody (inClass (top 42) 0)) (defScope (inClass (top 42) 0)) [] [] f fd) (T : OexC K C) (n0 : NoF K C "number") :
    FnOk P w K mg base CX0 1 f fd ["self", "number"] (spIni C ["number"]) := by
  have sc : FnScope ["self", "number"] ["self", "number"] (defScope (inClass (top 42) 0)) := ⟨rfl, rfl, rfl, by decide +kernel, rfl, by decide +kernel, by decide +kernel⟩
  refine F.ok sc (fun vs H Q E h => ?_) (fun cdv A outer s H vs Q E hr h => ?_)
  · obtain ⟨a, ws, rfl, hl, _⟩ := h
    exact congrArg (· + 1) hl
  · obtain ⟨a, ws, rfl, hl, ea, q⟩ := h
    obtain ⟨y0, rfl⟩ := one_of hl
    refine ⟨_, PSs.nox (pss_one (ps_ost (pv 0) (pv 1))), ?_⟩
    refine ⟨_, rfl, _, rfl, a, C, rfl, T, n0, .inl ⟨ea, fun d nd ne => ?_⟩⟩
    exact q _ d _ nd upd_same (Eq.trans (upd_ne ne) upd_same) holds1 (keep_new nd)
theorem oi_BadLine {f C : Addr} {fd : FuncData} (F : FunD K "__init__" "BadLine.__init__" (defArgs (inClass (top 43) 0)) (defBody (inClass (top 43) 0)) (defScope (inClass (top 43) 0)) [] [] f fd) (T : OexC K C) (n0 : NoF K C "index") (n1 : NoF K C "what") :
    FnOk P w K mg base CX0 1 f fd ["self", "index", "what"] (spIni C ["index", "what"]) := by
  have sc : FnScope ["self", "index", "what"] ["self", "index", "what"] (defScope (inClass (top 43) 0)) := ⟨rfl, rfl, rfl, by decide +kernel, rfl, by decide +kernel, by decide +kernel⟩
  refine F.ok sc (fun vs H Q E h => ?_) (fun cdv A outer s H vs Q E hr h => ?_)
  · obtain ⟨a, ws, rfl, hl, _⟩ := h
    exact congrArg (· + 1) hl
  · obtain ⟨a, ws, rfl, hl, ea, q⟩ := h
    obtain ⟨y0, y1, rfl⟩ := two_of hl
    refine ⟨_, PSs.nox (pss_cons (ps_ost (pv 0) (pv 1)) (pss_one (ps_ost (pv 0) (pv 2)))), ?_⟩
    refine ⟨_, rfl, _, rfl, a, C, rfl, T, n0, .inl ⟨ea, fun d nd ne => ?_⟩⟩
    refine ⟨_, rfl, _, rfl, a, C, rfl, T, n1, .inr ⟨d, _, upd_same, Eq.trans (upd_ne ne) upd_same, (by show 1 ≤ 900; decide), ?_⟩⟩
    exact q _ d _ nd (Eq.trans (upd_ne (Ne.symm ne)) upd_same) upd_same (holds2 (by decide +kernel)) (keep_dict nd (keep_new nd))
theorem oi_BadGeneration {f C : Addr} {fd : FuncData} (F : FunD K "__init__" "BadGeneration.__init__" (defArgs (inClass (top 44) 0)) (defBody (inClass (top 44) 0)) (defScope (inClass (top 44) 0)) [] [] f fd) (T : OexC K C) (n0 : NoF K C "n") :
    FnOk P w K mg base CX0 1 f fd ["self", "n"] (spIni C ["n"]) := by
  have sc : FnScope ["self", "n"] ["self", "n"] (defScope (inClass (top 44) 0)) := ⟨rfl, rfl, rfl, by decide +kernel, rfl, by decide +kernel, by decide +kernel⟩
  refine F.ok sc (fun vs H Q E h => ?_) (fun cdv A outer s H vs Q E hr h => ?_)
  · obtain ⟨a, ws, rfl, hl, _⟩ := h
    exact congrArg (· + 1) hl
  · obtain ⟨a, ws, rfl, hl, ea, q⟩ := h
    obtain ⟨y0, rfl⟩ := one_of hl
    refine ⟨_, PSs.nox (pss_one (ps_ost (pv 0) (pv 1))), ?_⟩
    refine ⟨_, rfl, _, rfl, a, C, rfl, T, n0, .inl ⟨ea, fun d nd ne => ?_⟩⟩
    exact q _ d _ nd upd_same (Eq.trans (upd_ne ne) upd_same) holds1 (keep_new nd)
theorem oi_BadPair {f C : Addr} {fd : FuncData} (F : FunD K "__init__" "BadPair.__init__" (defArgs (inClass (top 46) 0)) (defBody (inClass (top 46) 0)) (defScope (inClass (top 46) 0)) [] [] f fd) (T : OexC K C) (n0 : NoF K C "index") (n1 : NoF K C "what") :
    FnOk P w K mg base CX0 1 f fd ["self", "index", "what"] (spIni C ["index", "what"]) := by
  have sc : FnScope ["self", "index", "what"] ["self", "index", "what"] (defScope (inClass (top 46) 0)) := ⟨rfl, rfl, rfl, by decide +kernel, rfl, by decide +kernel, by decide +kernel⟩
  refine F.ok sc (fun vs H Q E h => ?_) (fun cdv A outer s H vs Q E hr h => ?_)
  · obtain ⟨a, ws, rfl, hl, _⟩ := h
    exact congrArg (· + 1) hl
  · obtain ⟨a, ws, rfl, hl, ea, q⟩ := h
    obtain ⟨y0, y1, rfl⟩ := two_of hl
    refine ⟨_, PSs.nox (pss_cons (ps_ost (pv 0) (pv 1)) (pss_one (ps_ost (pv 0) (pv 2)))), ?_⟩
    refine ⟨_, rfl, _, rfl, a, C, rfl, T, n0, .inl ⟨ea, fun d nd ne => ?_⟩⟩
    refine ⟨_, rfl, _, rfl, a, C, rfl, T, n1, .inr ⟨d, _, upd_same, Eq.trans (upd_ne ne) upd_same, (by show 1 ≤ 900; decide), ?_⟩⟩
    exact q _ d _ nd (Eq.trans (upd_ne (Ne.symm ne)) upd_same) upd_same (holds2 (by decide +kernel)) (keep_dict nd (keep_new nd))
theorem oi_BadLand {f C : Addr} {fd : FuncData} (F : FunD K "__init__" "BadLand.__init__" (defArgs (inClass (top 47) 0)) (defBody (inClass (top 47) 0)) (defScope (inClass (top 47) 0)) [] [] f fd) (T : OexC K C) (n0 : NoF K C "what") :
    FnOk P w K mg base CX0 1 f fd ["self", "what"] (spIni C ["what"]) := by
  have sc : FnScope ["self", "what"] ["self", "what"] (defScope (inClass (top 47) 0)) := ⟨rfl, rfl, rfl, by decide +kernel, rfl, by decide +kernel, by decide +kernel⟩
  refine F.ok sc (fun vs H Q E h => ?_) (fun cdv A outer s H vs Q E hr h => ?_)
  · obtain ⟨a, ws, rfl, hl, _⟩ := h
    exact congrArg (· + 1) hl
  · obtain ⟨a, ws, rfl, hl, ea, q⟩ := h
    obtain ⟨y0, rfl⟩ := one_of hl
    refine ⟨_, PSs.nox (pss_one (ps_ost (pv 0) (pv 1))), ?_⟩
    refine ⟨_, rfl, _, rfl, a, C, rfl, T, n0, .inl ⟨ea, fun d nd ne => ?_⟩⟩
    exact q _ d _ nd upd_same (Eq.trans (upd_ne ne) upd_same) holds1 (keep_new nd)
theorem oi_BadSecond {f C : Addr} {fd : FuncData} (F : FunD K "__init__" "BadSecond.__init__" (defArgs (inClass (top 48) 0)) (defBody (inClass (top 48) 0)) (defScope (inClass (top 48) 0)) [] [] f fd) (T : OexC K C) (n0 : NoF K C "index") (n1 : NoF K C "what") :
    FnOk P w K mg base CX0 1 f fd ["self", "index", "what"] (spIni C ["index", "what"]) := by
  have sc : FnScope ["self", "index", "what"] ["self", "index", "what"] (defScope (inClass (top 48) 0)) := ⟨rfl, rfl, rfl, by decide +kernel, rfl, by decide +kernel, by decide +kernel⟩
  refine F.ok sc (fun vs H Q E h => ?_) (fun cdv A outer s H vs Q E hr h => ?_)
  · obtain ⟨a, ws, rfl, hl, _⟩ := h
    exact congrArg (· + 1) hl
  · obtain ⟨a, ws, rfl, hl, ea, q⟩ := h
    obtain ⟨y0, y1, rfl⟩ := two_of hl
    refine ⟨_, PSs.nox (pss_cons (ps_ost (pv 0) (pv 1)) (pss_one (ps_ost (pv 0) (pv 2)))), ?_⟩
    refine ⟨_, rfl, _, rfl, a, C, rfl, T, n0, .inl ⟨ea, fun d nd ne => ?_⟩⟩
    refine ⟨_, rfl, _, rfl, a, C, rfl, T, n1, .inr ⟨d, _, upd_same, Eq.trans (upd_ne ne) upd_same, (by show 1 ≤ 900; decide), ?_⟩⟩
    exact q _ d _ nd (Eq.trans (upd_ne (Ne.symm ne)) upd_same) upd_same (holds2 (by decide +kernel)) (keep_dict nd (keep_new nd))
theorem oi_BadPage {f C : Addr} {fd : FuncData} (F : FunD K "__init__" "BadPage.__init__" (defArgs (inClass (top 49) 0)) (defBody (inClass (top 49) 0)) (defScope (inClass (top 49) 0)) [] [] f fd) (T : OexC K C) (n0 : NoF K C "index") (n1 : NoF K C "what") :
    FnOk P w K mg base CX0 1 f fd ["self", "index", "what"] (spIni C ["index", "what"]) := by
  have sc : FnScope ["self", "index", "what"] ["self", "index", "what"] (defScope (inClass (top 49) 0)) := ⟨rfl, rfl, rfl, by decide +kernel, rfl, by decide +kernel, by decide +kernel⟩
  refine F.ok sc (fun vs H Q E h => ?_) (fun cdv A outer s H vs Q E hr h => ?_)
  · obtain ⟨a, ws, rfl, hl, _⟩ := h
    exact congrArg (· + 1) hl
  · obtain ⟨a, ws, rfl, hl, ea, q⟩ := h
    obtain ⟨y0, y1, rfl⟩ := two_of hl
    refine ⟨_, PSs.nox (pss_cons (ps_ost (pv 0) (pv 1)) (pss_one (ps_ost (pv 0) (pv 2)))), ?_⟩
    refine ⟨_, rfl, _, rfl, a, C, rfl, T, n0, .inl ⟨ea, fun d nd ne => ?_⟩⟩
    refine ⟨_, rfl, _, rfl, a, C, rfl, T, n1, .inr ⟨d, _, upd_same, Eq.trans (upd_ne ne) upd_same, (by show 1 ≤ 900; decide), ?_⟩⟩
    exact q _ d _ nd (Eq.trans (upd_ne (Ne.symm ne)) upd_same) upd_same (holds2 (by decide +kernel)) (keep_dict nd (keep_new nd))
theorem oi_BadSeen {f C : Addr} {fd : FuncData} (F : FunD K "__init__" "BadSeen.__init__" (defArgs (inClass (top 50) 0)) (defBody (inClass (top 50) 0)) (defScope (inClass (top 50) 0)) [] [] f fd) (T : OexC K C) (n0 : NoF K C "index") (n1 : NoF K C "what") :
    FnOk P w K mg base CX0 1 f fd ["self", "index", "what"] (spIni C ["index", "what"]) := by
  have sc : FnScope ["self", "index", "what"] ["self", "index", "what"] (defScope (inClass (top 50) 0)) := ⟨rfl, rfl, rfl, by decide +kernel, rfl, by decide +kernel, by decide +kernel⟩
  refine F.ok sc (fun vs H Q E h => ?_) (fun cdv A outer s H vs Q E hr h => ?_)
  · obtain ⟨a, ws, rfl, hl, _⟩ := h
    exact congrArg (· + 1) hl
  · obtain ⟨a, ws, rfl, hl, ea, q⟩ := h
    obtain ⟨y0, y1, rfl⟩ := two_of hl
    refine ⟨_, PSs.nox (pss_cons (ps_ost (pv 0) (pv 1)) (pss_one (ps_ost (pv 0) (pv 2)))), ?_⟩
    refine ⟨_, rfl, _, rfl, a, C, rfl, T, n0, .inl ⟨ea, fun d nd ne => ?_⟩⟩
    refine ⟨_, rfl, _, rfl, a, C, rfl, T, n1, .inr ⟨d, _, upd_same, Eq.trans (upd_ne ne) upd_same, (by show 1 ≤ 900; decide), ?_⟩⟩
    exact q _ d _ nd (Eq.trans (upd_ne (Ne.symm ne)) upd_same) upd_same (holds2 (by decide +kernel)) (keep_dict nd (keep_new nd))
theorem oi_BadFilling {f C : Addr} {fd : FuncData} (F : FunD K "__init__" "BadFilling.__init__" (defArgs (inClass (top 51) 0)) (defBody (inClass (top 51) 0)) (defScope (inClass (top 51) 0)) [] [] f fd) (T : OexC K C) (n0 : NoF K C "what") :
    FnOk P w K mg base CX0 1 f fd ["self", "what"] (spIni C ["what"]) := by
  have sc : FnScope ["self", "what"] ["self", "what"] (defScope (inClass (top 51) 0)) := ⟨rfl, rfl, rfl, by decide +kernel, rfl, by decide +kernel, by decide +kernel⟩
  refine F.ok sc (fun vs H Q E h => ?_) (fun cdv A outer s H vs Q E hr h => ?_)
  · obtain ⟨a, ws, rfl, hl, _⟩ := h
    exact congrArg (· + 1) hl
  · obtain ⟨a, ws, rfl, hl, ea, q⟩ := h
    obtain ⟨y0, rfl⟩ := one_of hl
    refine ⟨_, PSs.nox (pss_one (ps_ost (pv 0) (pv 1))), ?_⟩
    refine ⟨_, rfl, _, rfl, a, C, rfl, T, n0, .inl ⟨ea, fun d nd ne => ?_⟩⟩
    exact q _ d _ nd upd_same (Eq.trans (upd_ne ne) upd_same) holds1 (keep_new nd)
theorem oi_BadNotice {f C : Addr} {fd : FuncData} (F : FunD K "__init__" "BadNotice.__init__" (defArgs (inClass (top 52) 0)) (defBody (inClass (top 52) 0)) (defScope (inClass (top 52) 0)) [] [] f fd) (T : OexC K C) (n0 : NoF K C "what") :
    FnOk P w K mg base CX0 1 f fd ["self", "what"] (spIni C ["what"]) := by
  have sc : FnScope ["self", "what"] ["self", "what"] (defScope (inClass (top 52) 0)) := ⟨rfl, rfl, rfl, by decide +kernel, rfl, by decide +kernel, by decide +kernel⟩
  refine F.ok sc (fun vs H Q E h => ?_) (fun cdv A outer s H vs Q E hr h => ?_)
  · obtain ⟨a, ws, rfl, hl, _⟩ := h
    exact congrArg (· + 1) hl
  · obtain ⟨a, ws, rfl, hl, ea, q⟩ := h
    obtain ⟨y0, rfl⟩ := one_of hl
    refine ⟨_, PSs.nox (pss_one (ps_ost (pv 0) (pv 1))), ?_⟩
    refine ⟨_, rfl, _, rfl, a, C, rfl, T, n0, .inl ⟨ea, fun d nd ne => ?_⟩⟩
    exact q _ d _ nd upd_same (Eq.trans (upd_ne ne) upd_same) holds1 (keep_new nd)
theorem oi_BadChange {f C : Addr} {fd : FuncData} (F : FunD K "__init__" "BadChange.__init__" (defArgs (inClass (top 53) 0)) (defBody (inClass (top 53) 0)) (defScope (inClass (top 53) 0)) [] [] f fd) (T : OexC K C) (n0 : NoF K C "index") (n1 : NoF K C "what") :
    FnOk P w K mg base CX0 1 f fd ["self", "index", "what"] (spIni C ["index", "what"]) := by
  have sc : FnScope ["self", "index", "what"] ["self", "index", "what"] (defScope (inClass (top 53) 0)) := ⟨rfl, rfl, rfl, by decide +kernel, rfl, by decide +kernel, by decide +kernel⟩
  refine F.ok sc (fun vs H Q E h => ?_) (fun cdv A outer s H vs Q E hr h => ?_)
  · obtain ⟨a, ws, rfl, hl, _⟩ := h
    exact congrArg (· + 1) hl
  · obtain ⟨a, ws, rfl, hl, ea, q⟩ := h
    obtain ⟨y0, y1, rfl⟩ := two_of hl
    refine ⟨_, PSs.nox (pss_cons (ps_ost (pv 0) (pv 1)) (pss_one (ps_ost (pv 0) (pv 2)))), ?_⟩
    refine ⟨_, rfl, _, rfl, a, C, rfl, T, n0, .inl ⟨ea, fun d nd ne => ?_⟩⟩
    refine ⟨_, rfl, _, rfl, a, C, rfl, T, n1, .inr ⟨d, _, upd_same, Eq.trans (upd_ne ne) upd_same, (by show 1 ≤ 900; decide), ?_⟩⟩
    exact q _ d _ nd (Eq.trans (upd_ne (Ne.symm ne)) upd_same) upd_same (holds2 (by decide +kernel)) (keep_dict nd (keep_new nd))
theorem oi_BadPrices {f C : Addr} {fd : FuncData} (F : FunD K "__init__" "BadPrices.__init__" (defArgs (inClass (top 54) 0)) (defBody (inClass (top 54) 0)) (defScope (inClass (top 54) 0)) [] [] f fd) (T : OexC K C) (n0 : NoF K C "index") :
    FnOk P w K mg base CX0 1 f fd ["self", "index"] (spIni C ["index"]) := by
  have sc : FnScope ["self", "index"] ["self", "index"] (defScope (inClass (top 54) 0)) := ⟨rfl, rfl, rfl, by decide +kernel, rfl, by decide +kernel, by decide +kernel⟩
  refine F.ok sc (fun vs H Q E h => ?_) (fun cdv A outer s H vs Q E hr h => ?_)
  · obtain ⟨a, ws, rfl, hl, _⟩ := h
    exact congrArg (· + 1) hl
  · obtain ⟨a, ws, rfl, hl, ea, q⟩ := h
    obtain ⟨y0, rfl⟩ := one_of hl
    refine ⟨_, PSs.nox (pss_one (ps_ost (pv 0) (pv 1))), ?_⟩
    refine ⟨_, rfl, _, rfl, a, C, rfl, T, n0, .inl ⟨ea, fun d nd ne => ?_⟩⟩
    exact q _ d _ nd upd_same (Eq.trans (upd_ne ne) upd_same) holds1 (keep_new nd)
end
end K00

namespace K00
open PySem PySem.Spec PyProof.Rows L2
/-! ### what is drawn -/
def Kept (p : Addr) (H H' : Hp) : Prop := ∀ b o, b ≠ p → H b = some o → H' b = some o
theorem Kept.upd {p : Addr} {H : Hp} {o : HO} : Kept p H (upd H p o) := fun b u n e => by
  rw [upd_ne n]
  exact e
theorem Kept.trans {p : Addr} {H H1 H2 : Hp} (a : Kept p H H1) (b : Kept p H1 H2) : Kept p H H2 := fun c o n e => b c o n (a c o n e)
theorem Kept.same {p : Addr} {H H1 : Hp} (a : Same H H1) : Kept p H H1 := fun c o _ e => a c o e
theorem Kept.seq {p : Addr} {H H1 : Hp} {K : PySem.W.Frag} {a : Addr} {xs : List V} (k : Kept p H H1) (n : a ≠ p) (h : SqL K H a xs) : SqL K H1 a xs := by
  rcases h with (h | ⟨o, h⟩) | h
  · exact .inl (.inl (k _ _ n h))
  · exact .inl (.inr ⟨o, k _ _ n h⟩)
  · exact .inr h
theorem Kept.seqT {p : Addr} {H H1 : Hp} {K : PySem.W.Frag} {a : Addr} {xs : List V} (k : Kept p H H1) (n : a ≠ p) (h : SqT K H a xs) : SqT K H1 a xs := by
  rcases h with (h | ⟨o, h⟩) | h
  · exact .inl (.inl (k _ _ n h))
  · exact .inl (.inr ⟨o, k _ _ n h⟩)
  · exact .inr h
def spPick (K : PySem.W.Frag) : Sp := fun vs H Q _ => ∃ (p l a : Addr) (cells : List Int) (i r t : Int) (xs : List V), vs = [.ref p, .ref a] ∧ HandAt H p l cells i r t ∧ SqL K H a xs ∧ a ≠ p ∧ 0 < xs.length ∧ xs.length ≤ 1000 ∧
  ∀ (v : V) (i' r' t' : Int), v ∈ xs → HandOk cells i' r' t' → Q v (upd H p (handO l i' r' t'))
section
variable {P : Program} {w : World} {K : PySem.W.Frag} {mg : Str → Option Value} {base : Heap}
theorem scPick : FnScope ["_law_hand_here", "_law_things"] ["_law_hand_here", "_law_things"] (defScope sPick) := ⟨rfl, rfl, rfl, by decide +kernel, rfl, by decide +kernel, by decide +kernel⟩
theorem ok_pick {f fD : Addr} {fd fdD : FuncData} (F : FnP K "_law_pick" sPick f fd) (zl : mg "len" = none) (GD : FnOk P w K mg base CX0 2 fD fdD ["_law_hand_here", "_law_many"] spDraw) (bD : Binds K fdD ["_law_hand_here", "_law_many"] []) (kD : PySem.W.keepIn K (.ref fD) = true) (gD : mg "_law_draw" = some (.ref fD)) :
    FnOk P w K mg base CX0 3 f fd ["_law_hand_here", "_law_things"] (spPick K) := by
  refine F.ok scPick (fun vs H Q E h => ?_) (fun cdv A outer s H vs Q E hr h => ?_)
  · obtain ⟨p, l, a, cells, i, r, t, xs, rfl, _⟩ := h
    rfl
  · obtain ⟨p, l, a, cells, i, r, t, xs, rfl, hh, hS, nap, h0, h1, q⟩ := h
    refine ⟨_, PSs.nox (pss_one (ps_ret (pe_ix ix_list (pv 1) (pe_call GD hr (by rfl) gD kD bD .nil pass0 (pa_cons (pv 0) (pa_cons (pe_callB call_len_seq (by rfl) zl boot_len (pa_cons (pv 1) pa_nil)) pa_nil))) (fun _ _ => rfl)))), ?_⟩
    refine ⟨_, rfl, _, rfl, _, rfl, _, _, rfl, .inl hS, p, l, cells, i, r, t, _, rfl, hh, by omega, ?_, fun d i' r' t' d0 d1 ok' => ?_⟩
    · have e : ((xs.length : Int)).natAbs = xs.length := by omega
      rw [e]
      exact Nat.lt_of_le_of_lt h1 (by decide)
    · have hd : d.toNat < xs.length := by omega
      have hget : atI xs d = some xs[d.toNat] := by
        have z := atI_nat (xs := xs) (j := d.toNat) (v := xs[d.toNat]) (List.getElem?_eq_getElem hd)
        rw [Int.toNat_of_nonneg d0] at z
        exact z
      exact ⟨_, _, _, _, rfl, rfl, Kept.upd.seq nap hS, hget, q _ i' r' t' (List.getElem_mem hd) ok'⟩
/-! ### one thing -/
def layS (x : Str) : Bool := (PyData.str x).canLay0
/-- v is a thing, d its data -/
inductive Th (H : Hp) : V → PyData → Prop where
  | int (i : Int) : Th H (.int i) (.int i)
  | str (x : Str) (h : layS x = true) : Th H (.str x) (.str x)
  | non : Th H .non .none
  | bl (b : Bool) : Th H (.bl b) (.bool b)
  | t0 {a : Addr} : H a = some (.tup []) → Th H (.ref a) (.tuple [])
  | t1 {a : Addr} : H a = some (.tup [.int 1, .str "a"]) → Th H (.ref a) (.tuple [.int 1, .str "a"])
  | t2 {a b : Addr} : H a = some (.tup [.str "a", .ref b]) → H b = some (.tup [.int 2, .int 3]) → Th H (.ref a) (.tuple [.str "a", .tuple [.int 2, .int 3]])
def Tups (H H' : Hp) : Prop := ∀ a xs, H a = some (.tup xs) → H' a = some (.tup xs)
theorem Th.keep {H H' : Hp} (k : Tups H H') {v : V} {d : PyData} (t : Th H v d) : Th H' v d := by
  cases t with
  | int i => exact .int i
  | str x h => exact .str x h
  | non => exact .non
  | bl b => exact .bl b
  | t0 h => exact .t0 (k _ _ h)
  | t1 h => exact .t1 (k _ _ h)
  | t2 h g => exact .t2 (k _ _ h) (k _ _ g)
theorem Th.dp {K : PySem.W.Frag} {H : Hp} {v : V} {d : PyData} (t : Th H v d) : Dp K H v d := by
  cases t with
  | int i => exact .int i
  | str x h => exact .str x
  | non => exact .non
  | bl b => exact .bl b
  | t0 h => exact .tup (SqT.of h) .nil
  | t1 h => exact .tup (SqT.of h) (.cons (.int 1) (.cons (.str "a") .nil))
  | t2 h g => exact .tup (SqT.of h) (.cons (.str "a") (.cons (.tup (SqT.of g) (.cons (.int 2) (.cons (.int 3) .nil))) .nil))
theorem Th.lay {H : Hp} {v : V} {d : PyData} (t : Th H v d) : d.canLay0 = true := by
  cases t with
  | str x h => exact h
  | int i => rfl
  | non => rfl
  | bl b => rfl
  | _ => decide +kernel
theorem Th.deep {H : Hp} {v : V} {d : PyData} (t : Th H v d) : d.depth ≤ 5 := by
  cases t with
  | str x h => exact (by decide : (0 : Nat) ≤ 5)
  | int i => exact (by decide : (0 : Nat) ≤ 5)
  | non => exact (by decide : (0 : Nat) ≤ 5)
  | bl b => exact (by decide : (0 : Nat) ≤ 5)
  | _ => decide +kernel
theorem Kept.tups {p : Addr} {H H' : Hp} {xs : List V} (k : Kept p H H') (h : H p = some (.lst xs)) : Tups H H' := fun a ys e => k a _ (ne_of e h (by intro z; cases z)) e
def spThing : Sp := fun vs H Q _ => ∃ (p l : Addr) (cells : List Int) (i r t : Int), vs = [.ref p] ∧ HandAt H p l cells i r t ∧
  ∀ (v : V) (d : PyData) (H' : Hp) (i' r' t' : Int), Th H' v d → Kept p H H' → HandAt H' p l cells i' r' t' → Q v H'
theorem scThing : FnScope ["_law_hand_here", "_law_sort"] ["_law_hand_here"] (defScope sThing) := ⟨rfl, rfl, rfl, by decide +kernel, rfl, by decide +kernel, by decide +kernel⟩
theorem hand_upd {H : Hp} {p l : Addr} {cells : List Int} {i r t i' r' t' : Int} (h : HandAt H p l cells i r t) (o : HandOk cells i' r' t') : HandAt (upd H p (handO l i' r' t')) p l cells i' r' t' := by
  refine ⟨upd_same, ?_, o⟩
  have n : l ≠ p := fun z => by
    have h1 := h.1
    have h2 := h.2.1
    rw [z, h1] at h2
    have h3 := Option.some.inj h2
    injection h3 with h4
    have h5 := congrArg List.head? h4
    cases cells with
    | nil => cases h5
    | cons c cs => cases h5
  rw [upd_ne n]
  exact h.2.1
theorem hand_same {H H' : Hp} {p l : Addr} {cells : List Int} {i r t : Int} (h : HandAt H p l cells i r t) (s : Same H H') : HandAt H' p l cells i r t := ⟨s _ _ h.1, s _ _ h.2.1, h.2.2⟩
theorem ok_thing {f fD fP : Addr} {fd fdD fdP : FuncData} (F : FnP K "_law_thing" sThing f fd) (GD : FnOk P w K mg base CX0 2 fD fdD ["_law_hand_here", "_law_many"] spDraw) (bD : Binds K fdD ["_law_hand_here", "_law_many"] []) (kD : PySem.W.keepIn K (.ref fD) = true) (gD : mg "_law_draw" = some (.ref fD))
    (GP : FnOk P w K mg base CX0 3 fP fdP ["_law_hand_here", "_law_things"] (spPick K)) (bP : Binds K fdP ["_law_hand_here", "_law_things"] []) (kP : PySem.W.keepIn K (.ref fP) = true) (gP : mg "_law_pick" = some (.ref fP)) :
    FnOk P w K mg base CX0 4 f fd ["_law_hand_here"] spThing := by
  refine F.ok scThing (fun vs H Q E h => ?_) (fun cdv A outer s H vs Q E hr h => ?_)
  · obtain ⟨p, l, cells, i, r, t, rfl, _⟩ := h
    rfl
  · obtain ⟨p, l, cells, i, r, t, rfl, hh, q⟩ := h
    have hr2 : Room 2 _ := hr.mono (by decide)
    refine ⟨_, PSs.nox (pss_cons (ps_set (i := 1) scThing.nd rfl (.inl rfl) (pe_call GD hr2 (by rfl) gD kD bD .nil pass0 (pa_cons (pv 0) (pa_cons pe_int pa_nil))))
      (pss_cons (ps_if (pt_cmpR op_eq (pv 1) pe_int (nomark _)) (pss_one (ps_ret (pe_op op_sub (pe_call GD hr2 (by rfl) gD kD bD .nil pass0 (pa_cons (pv 0) (pa_cons (pe_op op_pow pe_int pe_int) pa_nil))) (pe_op op_pow pe_int pe_int)))) pss_nil)
      (pss_cons (ps_if (pt_cmpR op_eq (pv 1) pe_int (nomark _)) (pss_one (ps_ret (pe_call GP hr (by rfl) gP kP bP .nil pass0 (pa_cons (pv 0) (pa_cons (pe_lst (pa_cons pe_str (pa_cons pe_str (pa_cons pe_str (pa_cons pe_str (pa_cons pe_str pa_nil)))))) pa_nil))))) pss_nil)
      (pss_one (ps_ret (pe_call GP hr (by rfl) gP kP bP .nil pass0 (pa_cons (pv 0) (pa_cons (pe_lst (pa_cons pe_non (pa_cons pe_bl (pa_cons (pe_tup pa_nil) (pa_cons (pe_tup (pa_cons pe_int (pa_cons pe_str pa_nil)))
        (pa_cons pe_int (pa_cons (pe_un un_neg pe_int) (pa_cons (pe_tup (pa_cons pe_str (pa_cons (pe_tup (pa_cons pe_int (pa_cons pe_int pa_nil))) pa_nil))) pa_nil)))))))) pa_nil)))))))), ?_⟩
    refine ⟨_, rfl, p, l, cells, i, r, t, _, rfl, hh, by decide, by decide, fun d i1 r1 t1 d0 d1 ok1 => ?_⟩
    have hh1 := hand_upd hh ok1
    refine ⟨_, rfl, rfl, _, rfl, ?_⟩
    refine ite2 (fun e => ?_) (fun e => ?_)
    · refine ⟨_, rfl, _, _, rfl, rfl, ⟨by decide, by decide, by decide⟩, p, l, cells, i1, r1, t1, _, rfl, hh1, by decide +kernel, ?_, fun d2 i2 r2 t2 d20 d21 ok2 => ?_⟩
      · exact Nat.lt_of_lt_of_le (m := 2 ^ 200) (by decide +kernel) (Nat.pow_le_pow_right (by decide) (by decide))
      · refine ⟨_, _, rfl, rfl, ⟨by decide, by decide, by decide⟩, _, _, rfl, rfl, ?_⟩
        exact q _ _ _ i2 r2 t2 (.int _) (Kept.upd.trans Kept.upd) (hand_upd hh1 ok2)
    · refine ⟨_, rfl, rfl, _, rfl, ?_⟩
      refine ite2 (fun e1 => ?_) (fun e1 => ?_)
      · refine ⟨_, rfl, (by show 5 ≤ sizeLine; decide), fun a na => ?_⟩
        have nap : a ≠ p := (ne_of_none hh1.1 na).symm
        have hh2 := hand_same hh1 (same_upd (o := .lst [.str "", .str "row", .str "a b", .str "width", .str "s"]) na)
        refine ⟨p, l, a, cells, i1, r1, t1, _, rfl, hh2, SqL.of upd_same, nap, (by decide), (by decide), fun v i2 r2 t2 hv ok2 => ?_⟩
        refine q v (match v with | .str x => .str x | _ => .none) _ i2 r2 t2 ?_ ((Kept.upd.trans (Kept.same (same_upd na))).trans Kept.upd) (hand_upd hh2 ok2)
        simp only [List.mem_cons, List.not_mem_nil, or_false] at hv
        rcases hv with rfl | rfl | rfl | rfl | rfl <;> exact .str _ (by decide +kernel)
      · have sz0 : (0 : Nat) ≤ sizeLine := Nat.zero_le _
        refine ⟨_, rfl, sz0, fun a0 n0 => ⟨(by show 2 ≤ sizeLine; decide), fun a1 n1 => ⟨_, rfl, (by show 2 ≤ sizeLine; decide), fun a2 n2 => ⟨(by show 2 ≤ sizeLine; decide), fun a3 n3 => ⟨(by show 7 ≤ sizeLine; decide), fun a na => ?_⟩⟩⟩⟩⟩
        have s0 := same_upd (o := .tup []) n0
        have s1 := same_upd (o := .tup [.int 1, .str "a"]) n1
        have s2 := same_upd (o := .tup [.int 2, .int 3]) n2
        have s3 := same_upd (o := .tup [.str "a", .ref a2]) n3
        have s4 := same_upd (o := .lst [.non, .bl true, .ref a0, .ref a1, .int 0, .int (-1), .ref a3]) na
        have sall := (((s0.trans s1).trans s2).trans s3).trans s4
        have hh2 := hand_same hh1 sall
        have nap : a ≠ p := (ne_of_none (s3 _ _ (s2 _ _ (s1 _ _ (s0 _ _ hh1.1)))) na).symm
        refine ⟨p, l, a, cells, i1, r1, t1, _, rfl, hh2, SqL.of upd_same, nap, (by show 0 < 7; decide), (by show 7 ≤ 1000; decide), fun v i2 r2 t2 hv ok2 => ?_⟩
        have tu : Tups _ (upd _ p (handO l i2 r2 t2)) := Kept.tups (Kept.upd (o := handO l i2 r2 t2)) hh2.1
        have g0 := tu a0 _ (s4 _ _ (s3 _ _ (s2 _ _ (s1 _ _ upd_same))))
        have g1 := tu a1 _ (s4 _ _ (s3 _ _ (s2 _ _ upd_same)))
        have g2 := tu a2 _ (s4 _ _ (s3 _ _ upd_same))
        have g3 := tu a3 _ (s4 _ _ upd_same)
        have fin : ∀ d, Th _ v d → Q v _ := fun d th => q v d _ i2 r2 t2 th ((Kept.upd.trans (Kept.same sall)).trans Kept.upd) (hand_upd hh2 ok2)
        simp only [List.mem_cons, List.not_mem_nil, or_false] at hv
        rcases hv with rfl | rfl | rfl | rfl | rfl | rfl | rfl
        · exact fin _ .non
        · exact fin _ (.bl true)
        · exact fin _ (.t0 g0)
        · exact fin _ (.t1 g1)
        · exact fin _ (.int 0)
        · exact fin _ (.int (-1))
        · exact fin _ (.t2 g3 g2)
end
end K00

/-! the errors that the law makes -/
namespace K00
open PySem PySem.Spec PyProof.Rows L2
/-- at x an error of the class c that keeps ws -/
def ErrK (K : PySem.W.Frag) (H : Hp) (x : Addr) (c : ClsD) (ws : List V) : Prop :=
  (∃ (d : Addr) (fl : List (Str × V)), H x = some (exo x (He.ga K c.name) (some d)) ∧ H d = some (exd d fl) ∧ Holds fl c.fields ws) ∨ (c.fields = [] ∧ H x = some (ExO (.ref (He.ga K c.name)) x))
theorem ErrK.same {K : PySem.W.Frag} {H H' : Hp} {x : Addr} {c : ClsD} {ws : List V} (e : ErrK K H x c ws) (s : Same H H') : ErrK K H' x c ws := by
  rcases e with ⟨d, fl, h1, h2, h3⟩ | ⟨h0, h1⟩
  · exact .inl ⟨d, fl, s _ _ h1, s _ _ h2, h3⟩
  · exact .inr ⟨h0, s _ _ h1⟩
/-- what is known of a class of the text -/
structure CF (P : Program) (w : World) (K : PySem.W.Frag) (mg : Str → Option Value) (base : Heap) (c : ClsD) : Prop where
  gl : mg c.name = some (.ref (He.ga K c.name))
  kp : PySem.W.keepIn K (.ref (He.ga K c.name)) = true
  xc : ExcC K (He.ga K c.name)
  xf : XfC K (He.ga K c.name)
  no : ∀ f ∈ c.fields, NoF K (He.ga K c.name) f
  ini : c.fields ≠ [] → OexC K (He.ga K c.name) ∧ ∃ (fI : Addr) (fd : FuncData), PySem.W.findIn K (.ref (He.ga K c.name)) "__init__" = some (some (.ref fI)) ∧ PySem.W.typeIn K (.ref fI) = some (.type "function") ∧
    FnOk P w K mg base CX0 1 fI fd ("self" :: c.fields) (spIni (He.ga K c.name) c.fields) ∧ ∃ ds, Vals [] ds ∧ Binds K fd ("self" :: c.fields) ds
  bare : c.fields = [] → PySem.W.excIn K (He.ga K c.name) He.veBase "ValueError.__new__" = true
theorem PE.imp {X : Cx} {e : Expr} {t t' : TE} (h : PE X e t) (i : ∀ σ H Q, t' σ H Q → t σ H Q) : PE X e t' := ⟨fun pins s σ H Q I q => h.run pins s σ H Q I (i σ H Q q)⟩
theorem PA.imp {X : Cx} {e : List Expr} {t t' : TA} (h : PA X e t) (i : ∀ σ H Q, t' σ H Q → t σ H Q) : PA X e t' := ⟨fun pos pins s σ H Q I q => h.run pos pins s σ H Q I (i σ H Q q)⟩
def asThing (nm : Str) (i : Nat) : Expr → Bool
  | .Subscript (.Name n _) (.Constant (.int j) _ _) _ => decide (n = nm) && decide (j = (i : Int))
  | _ => false
theorem asThing_shape {nm : Str} {i : Nat} : ∀ {e : Expr}, asThing nm i e = true → ∃ p1 k p2 p3, e = .Subscript (.Name nm p1) (.Constant (.int (i : Int)) k p2) p3 := by
  intro e h
  unfold asThing at h
  split at h
  · obtain ⟨h1, h2⟩ := Bool.and_eq_true_iff.mp h
    have e1 := of_decide_eq_true h1
    have e2 := of_decide_eq_true h2
    subst e1 e2
    exact ⟨_, _, _, _, rfl⟩
  · cases h
def isMade (c : ClsD) : Expr → Bool
  | .Call (.Name n _) args [] _ => decide (n = c.name) && (match c.fields, args with
      | [], [] => true
      | [_], [a] => asThing "_law_things" 0 a
      | [_, _], [a, b] => asThing "_law_things" 0 a && asThing "_law_things" 1 b
      | [_, _, _], [a, b, d] => asThing "_law_things" 0 a && (asThing "_law_things" 1 b && asThing "_law_things" 2 d)
      | _, _ => false)
  | _ => false
theorem isMade_shape {c : ClsD} : ∀ {e : Expr}, isMade c e = true → ∃ p pos args, e = .Call (.Name c.name p) args [] pos ∧ (match c.fields, args with
      | [], [] => true
      | [_], [a] => asThing "_law_things" 0 a
      | [_, _], [a, b] => asThing "_law_things" 0 a && asThing "_law_things" 1 b
      | [_, _, _], [a, b, d] => asThing "_law_things" 0 a && (asThing "_law_things" 1 b && asThing "_law_things" 2 d)
      | _, _ => false) = true := by
  intro e h
  unfold isMade at h
  split at h
  · obtain ⟨h1, h2⟩ := Bool.and_eq_true_iff.mp h
    have e1 := of_decide_eq_true h1
    subst e1
    exact ⟨_, _, _, rfl, h2⟩
  · cases h
def isMadeL : List ClsD → List Expr → Bool
  | [], [] => true
  | c :: cs, e :: es => isMade c e && isMadeL cs es
  | _, _ => false
def madeEs : List Expr := match defBody sMade with
  | [.Return (some (.List es _)) _] => es
  | _ => []
def tItem (K : PySem.W.Frag) (c : ClsD) : TE := fun σ H Q => ∃ (a : Addr) (t0 t1 t2 : V), σ[0]? = some (some (.ref a)) ∧ SqL K H a [t0, t1, t2] ∧ ∀ (x : Addr) (H' : Hp), Same H H' → H x = none → ErrK K H' x c [t0, t1, t2] → Q (.ref x) H'
def tItems (K : PySem.W.Frag) (cs : List ClsD) : TA := fun σ H Q => ∃ (a : Addr) (t0 t1 t2 : V), σ[0]? = some (some (.ref a)) ∧ SqL K H a [t0, t1, t2] ∧
  ∀ (xs : List Addr) (H' : Hp), Same H H' → xs.length = cs.length → (∀ (i : Nat) (c : ClsD) (x : Addr), cs[i]? = some c → xs[i]? = some x → ErrK K H' x c [t0, t1, t2]) → Q (xs.map V.ref) H'
theorem noDebug : ∀ c ∈ clsL, (c.name == ("__debug__" : Str)) = false := by decide +kernel
theorem globM : ∀ c ∈ clsL, (defScope sMade).names.lookup c.name = some .globalImplicit := by decide +kernel
section
variable {X : Cx}
theorem pe_ti {nm : Str} {i : Nat} {e : Expr} (hv : ∀ p, PE X (.Name nm p) (tVar 0)) (h : asThing nm i e = true) : PE X e (tOp (rIxL X.K) (tVar 0) (tC (.int (i : Int)))) := by
  obtain ⟨p1, k, p2, p3, rfl⟩ := asThing_shape h
  exact pe_ix ix_list (hv p1) pe_int (fun _ _ => rfl)
theorem star_ti {nm : Str} {i : Nat} {e : Expr} (h : asThing nm i e = true) (es : List Expr) (v : Env) : starEach (e :: es) v = (false, eval e v) :: starEach es v := by
  obtain ⟨p1, k, p2, p3, rfl⟩ := asThing_shape h
  rfl
theorem pa_ti {nm : Str} {i : Nat} {e : Expr} {es : List Expr} {t : TA} (hv : ∀ p, PE X (.Name nm p) (tVar 0)) (h : asThing nm i e = true) (r : PA X es t) : PA X (e :: es) (tCons (tOp (rIxL X.K) (tVar 0) (tC (.int (i : Int)))) t) :=
  pa_cons (pe_ti hv h) r (star_ti h es X.env)
theorem noStar1 {nm : Str} {i : Nat} {e : Expr} (h : asThing nm i e = true) (pos : Pos) (v : Env) : (backTo pos (starEach [e] v)).any (·.1) = false := by
  obtain ⟨p1, k, p2, p3, rfl⟩ := asThing_shape h
  rfl
theorem noStar2 {nm : Str} {i j : Nat} {e e' : Expr} (h : asThing nm i e = true) (h' : asThing nm j e' = true) (pos : Pos) (v : Env) : (backTo pos (starEach [e, e'] v)).any (·.1) = false := by
  obtain ⟨p1, k, p2, p3, rfl⟩ := asThing_shape h
  obtain ⟨q1, k', q2, q3, rfl⟩ := asThing_shape h'
  rfl
theorem at0 {K : PySem.W.Frag} {σ : L2.St} {H : Hp} {a : Addr} {t0 t1 t2 : V} {Q : VK} (i : Nat) (v : V) (e : σ[0]? = some (some (.ref a))) (h : SqL K H a [t0, t1, t2]) (hi : [t0, t1, t2][i]? = some v) (q : Q v H) : tOp (rIxL K) (tVar 0) (tC (.int (i : Int))) σ H Q :=
  ⟨_, e, _, _, _, _, rfl, rfl, h, atI_nat hi, q⟩
theorem holds_take {fl : List (Str × V)} {fs : List Str} {ws : List V} (h : Holds fl fs (ws.take fs.length)) : Holds fl fs ws := fun i f v hf hv => h i f v hf (by
  have hi : i < fs.length := (List.getElem?_eq_some_iff.mp hf).1
  rw [List.getElem?_take_of_lt hi]
  exact hv)
theorem fin_ini {K : PySem.W.Frag} {c : ClsD} {H : Hp} {Q : VK} {vs : List V} {ws : List V} (ev : vs = ws.take c.fields.length) (hl : vs.length = c.fields.length) (hk : vs.length ≤ 1000)
    (q : ∀ (x : Addr) (H' : Hp), Same H H' → H x = none → ErrK K H' x c ws → Q (.ref x) H') :
    vs.length ≤ 1000 ∧ ∀ a, H a = none → spIni (He.ga K c.name) c.fields (.ref a :: (vs ++ [])) (upd H a (exo a (He.ga K c.name) none)) (fun v H2 => v = .non ∧ Q (.ref a) H2) (fun _ _ _ => False) := by
  refine ⟨hk, fun a na => ⟨a, vs, by rw [List.append_nil], hl, upd_same, fun H' d fl hd ha hd' hh keep => ⟨rfl, q a H' (fun b o e => keep b o (ne_of_none e na) (by rw [upd_ne (ne_of_none e na)]; exact e)) na (.inl ⟨d, fl, ha, hd', ?_⟩)⟩⟩⟩
  rw [ev] at hh
  exact holds_take hh
theorem pe_item {c : ClsD} {e : Expr} (hv : ∀ p, PE X (.Name "_law_things" p) (tVar 0)) (hg : Gl X c.name) (hd : (c.name == ("__debug__" : Str)) = false) (hc : CF X.prog X.w X.K X.mg X.base c) (h : isMade c e = true) (hr : Room 2 X.A) : PE X e (tItem X.K c) := by
  obtain ⟨p, pos, args, rfl, h5⟩ := isMade_shape h
  clear h
  split at h5
  · rename_i ef
    refine PE.imp (pe_exc0 F.excBase_ValueError (hc.bare ef) hc.gl hc.kp hg hd) ?_
    rintro σ H Q ⟨a, t0, t1, t2, e0, hS, q⟩ x nx
    exact q x _ (same_upd nx) nx (.inr ⟨ef, upd_same⟩)
  · rename_i f0 a0 ef
    obtain ⟨T, fI, fd, hf, ht, hF, ds, hvs, hb⟩ := hc.ini (by rw [ef]; exact List.cons_ne_nil _ _)
    refine PE.imp (pe_oexv (dvs := []) T hf ht hF hr hb hvs pass0 hg hc.gl (pa_ti hv h5 pa_nil) hd (star_ti h5 [] X.env) rfl) ?_
    rintro σ H Q ⟨a, t0, t1, t2, e0, hS, q⟩
    refine at0 0 t0 e0 hS rfl ?_
    exact fin_ini (vs := [t0]) (ws := [t0, t1, t2]) (by rw [ef]; rfl) (by rw [ef]; rfl) (by show 1 ≤ 1000; decide) q
  · rename_i f0 f1 a0 a1 ef
    obtain ⟨T, fI, fd, hf, ht, hF, ds, hvs, hb⟩ := hc.ini (by rw [ef]; exact List.cons_ne_nil _ _)
    obtain ⟨h0, h1⟩ := Bool.and_eq_true_iff.mp h5
    refine PE.imp (pe_oexv (dvs := []) T hf ht hF hr hb hvs pass0 hg hc.gl (pa_ti hv h0 (pa_ti hv h1 pa_nil)) hd (star_ti h0 _ X.env) (noStar1 h1 _ _)) ?_
    rintro σ H Q ⟨a, t0, t1, t2, e0, hS, q⟩
    refine at0 0 t0 e0 hS rfl (at0 1 t1 e0 hS rfl ?_)
    exact fin_ini (vs := [t0, t1]) (ws := [t0, t1, t2]) (by rw [ef]; rfl) (by rw [ef]; rfl) (by show 2 ≤ 1000; decide) q
  · rename_i f0 f1 f2 a0 a1 a2 ef
    obtain ⟨T, fI, fd, hf, ht, hF, ds, hvs, hb⟩ := hc.ini (by rw [ef]; exact List.cons_ne_nil _ _)
    obtain ⟨h0, h6⟩ := Bool.and_eq_true_iff.mp h5
    obtain ⟨h1, h2⟩ := Bool.and_eq_true_iff.mp h6
    refine PE.imp (pe_oexv (dvs := []) T hf ht hF hr hb hvs pass0 hg hc.gl (pa_ti hv h0 (pa_ti hv h1 (pa_ti hv h2 pa_nil))) hd (star_ti h0 _ X.env) (noStar2 h1 h2 _ _)) ?_
    rintro σ H Q ⟨a, t0, t1, t2, e0, hS, q⟩
    refine at0 0 t0 e0 hS rfl (at0 1 t1 e0 hS rfl (at0 2 t2 e0 hS rfl ?_))
    exact fin_ini (vs := [t0, t1, t2]) (ws := [t0, t1, t2]) (by rw [ef]; rfl) (by rw [ef]; rfl) (by show 3 ≤ 1000; decide) q
  · cases h5
theorem star_made {c : ClsD} {e : Expr} (h : isMade c e = true) (es : List Expr) (v : Env) : starEach (e :: es) v = (false, eval e v) :: starEach es v := by
  obtain ⟨p, pos, args, rfl, _⟩ := isMade_shape h
  rfl
theorem pa_items (hv : ∀ p, PE X (.Name "_law_things" p) (tVar 0)) (hr : Room 2 X.A) : ∀ (cs : List ClsD) (es : List Expr), isMadeL cs es = true → (∀ c ∈ cs, Gl X c.name) → (∀ c ∈ cs, (c.name == ("__debug__" : Str)) = false) → (∀ c ∈ cs, CF X.prog X.w X.K X.mg X.base c) → PA X es (tItems X.K cs)
  | [], [], _, _, _, _ => PA.imp pa_nil fun σ H Q ⟨a, t0, t1, t2, e0, hS, q⟩ => q [] H (Same.refl H) rfl (fun i c x h => by cases h)
  | [], _ :: _, h, _, _, _ => by cases h
  | _ :: _, [], h, _, _, _ => by cases h
  | c :: cs, e :: es, h, hg, hd, hc => by
    obtain ⟨h1, h2⟩ := Bool.and_eq_true_iff.mp (show (isMade c e && isMadeL cs es) = true from h)
    have r := pa_items hv hr cs es h2 (fun c m => hg c (List.mem_cons_of_mem _ m)) (fun c m => hd c (List.mem_cons_of_mem _ m)) (fun c m => hc c (List.mem_cons_of_mem _ m))
    refine PA.imp (pa_cons (pe_item hv (hg c List.mem_cons_self) (hd c List.mem_cons_self) (hc c List.mem_cons_self) h1 hr) r (star_made h1 es X.env)) ?_
    rintro σ H Q ⟨a, t0, t1, t2, e0, hS, q⟩
    refine ⟨a, t0, t1, t2, e0, hS, fun x H1 s1 nx ex => ⟨a, t0, t1, t2, e0, s1.seq hS, fun xs H2 s2 hl hx => ?_⟩⟩
    refine q (x :: xs) H2 (s1.trans s2) (congrArg (· + 1) hl) (fun i c' y hi hy => ?_)
    match i, hi, hy with
    | 0, hi, hy =>
      cases hi
      cases hy
      exact ex.same s2
    | i + 1, hi, hy => exact hx i c' y hi hy
end
def spMade (K : PySem.W.Frag) : Sp := fun vs H Q _ => ∃ (a : Addr) (t0 t1 t2 : V), vs = [.ref a] ∧ SqL K H a [t0, t1, t2] ∧
  ∀ (xs : List Addr) (H' : Hp) (b : Addr), Same H H' → H b = none → xs.length = 53 → (∀ (i : Nat) (c : ClsD) (x : Addr), clsL[i]? = some c → xs[i]? = some x → ErrK K H' x c [t0, t1, t2]) → H' b = some (.lst (xs.map V.ref)) → Q (.ref b) H'
theorem scMade : FnScope ["_law_things"] ["_law_things"] (defScope sMade) := ⟨rfl, rfl, rfl, by decide +kernel, rfl, by decide +kernel, by decide +kernel⟩
theorem ok_made {P : Program} {w : World} {K : PySem.W.Frag} {mg : Str → Option Value} {base : Heap} {f : Addr} {fd : FuncData} (F : FnP K "_law_made" sMade f fd) (hc : ∀ c ∈ clsL, CF P w K mg base c) : FnOk P w K mg base CX0 3 f fd ["_law_things"] (spMade K) := by
  refine F.ok scMade (fun vs H Q E h => ?_) (fun cdv A outer s H vs Q E hr h => ?_)
  · obtain ⟨a, t0, t1, t2, rfl, _⟩ := h
    rfl
  · obtain ⟨a, t0, t1, t2, rfl, hS, q⟩ := h
    refine ⟨_, PSs.nox (pss_one (ps_ret (pe_lst (pa_items (fun p => pv 0) hr clsL madeEs (by decide +kernel) (fun c m => globM c m) noDebug hc)))), ?_⟩
    refine ⟨a, t0, t1, t2, rfl, hS, fun xs H' s1 hl hx => ⟨?_, fun b nb => ?_⟩⟩
    · rw [List.length_map, hl]
      decide
    · have sb := same_upd (o := .lst (xs.map V.ref)) nb
      refine q xs _ b (s1.trans sb) ?_ hl (fun i c x h1 h2 => (hx i c x h1 h2).same sb) upd_same
      cases e : H b with
      | none => rfl
      | some o =>
        have e2 := s1 _ _ e
        rw [nb] at e2
        cases e2
end K00

/-! of which errors one is; what the errors keep -/
namespace K00
open PySem PySem.Spec PyProof.Rows L2
def isKind (c : ClsD) : Expr → Bool
  | .Call (.Name g _) [.Name v _, .Name n _] [] _ => decide (g = "isinstance") && (decide (v = "_law_error") && decide (n = c.name))
  | _ => false
theorem isKind_shape {c : ClsD} : ∀ {e : Expr}, isKind c e = true → ∃ p1 p2 p3 p4, e = .Call (.Name "isinstance" p1) [.Name "_law_error" p2, .Name c.name p3] [] p4 := by
  intro e h
  unfold isKind at h
  split at h
  · obtain ⟨h1, h2⟩ := Bool.and_eq_true_iff.mp h
    obtain ⟨h3, h4⟩ := Bool.and_eq_true_iff.mp h2
    have e1 := of_decide_eq_true h1
    have e3 := of_decide_eq_true h3
    have e4 := of_decide_eq_true h4
    subst e1 e3 e4
    exact ⟨_, _, _, _, rfl⟩
  · cases h
def isKindL : List ClsD → List Expr → Bool
  | [], [] => true
  | c :: cs, e :: es => isKind c e && isKindL cs es
  | _, _ => false
def kindEs : List Expr := match defBody sKinds with
  | [.Return (some (.List es _)) _] => es
  | _ => []
theorem globK : ∀ c ∈ clsL, (defScope sKinds).names.lookup c.name = some .globalImplicit := by decide +kernel
/-- what isinstance says of an error of the class at D -/
def Says (K : PySem.W.Frag) (D : Addr) (bf : ClsD → Bool) (cs : List ClsD) : Prop := ∀ c ∈ cs, PySem.W.kitOne K (.ref D) (.ref (He.ga K c.name)) = some (bf c)
def tKinds (K : PySem.W.Frag) (cs : List ClsD) : TA := fun σ H Q => ∃ (a D : Addr) (bf : ClsD → Bool), σ[0]? = some (some (.ref a)) ∧ ErrAt H a D ∧ ExcC K D ∧ Says K D bf cs ∧ Q (cs.map fun c => V.bl (bf c)) H
section
variable {X : Cx}
theorem star_kind {c : ClsD} {e : Expr} (h : isKind c e = true) (es : List Expr) (v : Env) : starEach (e :: es) v = (false, eval e v) :: starEach es v := by
  obtain ⟨p1, p2, p3, p4, rfl⟩ := isKind_shape h
  rfl
theorem pa_kinds (hi : Gl X "isinstance") (zi : X.mg "isinstance" = none) (hv : ∀ p, PE X (.Name "_law_error" p) (tVar 0)) : ∀ (cs : List ClsD) (es : List Expr), isKindL cs es = true → (∀ c ∈ cs, Gl X c.name) → (∀ c ∈ cs, (c.name == ("__debug__" : Str)) = false) → (∀ c ∈ cs, X.mg c.name = some (.ref (He.ga X.K c.name))) → PA X es (tKinds X.K cs)
  | [], [], _, _, _, _ => PA.imp pa_nil fun σ H Q ⟨a, D, bf, e0, ea, xc, sy, q⟩ => q
  | [], _ :: _, h, _, _, _ => by cases h
  | _ :: _, [], h, _, _, _ => by cases h
  | c :: cs, e :: es, h, hg, hd, hc => by
    obtain ⟨h1, h2⟩ := Bool.and_eq_true_iff.mp (show (isKind c e && isKindL cs es) = true from h)
    have r := pa_kinds hi zi hv cs es h2 (fun c m => hg c (List.mem_cons_of_mem _ m)) (fun c m => hd c (List.mem_cons_of_mem _ m)) (fun c m => hc c (List.mem_cons_of_mem _ m))
    have st := star_kind h1 es X.env
    obtain ⟨p1, p2, p3, p4, rfl⟩ := isKind_shape h1
    refine PA.imp (pa_cons (pe_callB call_isX hi zi (by decide +kernel) (pa_cons (hv p2) (pa_cons (pe_glob (hg c List.mem_cons_self) (hc c List.mem_cons_self) (v := .ref (He.ga X.K c.name)) rfl (hd c List.mem_cons_self)) pa_nil))) r st) ?_
    rintro σ H Q ⟨a, D, bf, e0, ea, xc, sy, q⟩
    exact ⟨_, e0, a, D, _, _, bf c, rfl, ea, xc, fun u z => z, sy c List.mem_cons_self, a, D, bf, e0, ea, xc, fun c m => sy c (List.mem_cons_of_mem _ m), q⟩
end
def spKinds (K : PySem.W.Frag) : Sp := fun vs H Q _ => ∃ (a D : Addr) (bf : ClsD → Bool), vs = [.ref a] ∧ ErrAt H a D ∧ ExcC K D ∧ Says K D bf clsL ∧
  ∀ (p : Addr), H p = none → Q (.ref p) (upd H p (.lst (clsL.map fun c => V.bl (bf c))))
theorem scKinds : FnScope ["_law_error"] ["_law_error"] (defScope sKinds) := ⟨rfl, rfl, rfl, by decide +kernel, rfl, by decide +kernel, by decide +kernel⟩
theorem ok_kinds {P : Program} {w : World} {K : PySem.W.Frag} {mg : Str → Option Value} {base : Heap} {f : Addr} {fd : FuncData} (F : FnP K "_law_kinds" sKinds f fd) (zi : mg "isinstance" = none) (hc : ∀ c ∈ clsL, mg c.name = some (.ref (He.ga K c.name))) : FnOk P w K mg base CX0 1 f fd ["_law_error"] (spKinds K) := by
  refine F.ok scKinds (fun vs H Q E h => ?_) (fun cdv A outer s H vs Q E hr h => ?_)
  · obtain ⟨a, D, bf, rfl, _⟩ := h
    rfl
  · obtain ⟨a, D, bf, rfl, ea, xc, sy, q⟩ := h
    refine ⟨_, PSs.nox (pss_one (ps_ret (pe_lst (pa_kinds (by rfl) zi (fun p => pv 0) clsL kindEs (by decide +kernel) (fun c m => globK c m) noDebug hc)))), ?_⟩
    refine ⟨a, D, bf, rfl, ea, xc, sy, ?_, fun p np => q p np⟩
    rw [List.length_map]
    decide
/-! ### the fields -/
def isFld (k : Nat) (f : Str) : Expr → Bool
  | .Attribute (.Subscript (.Name n _) (.Constant (.int j) _ _) _) g _ => decide (n = "_law_made_here") && (decide (j = (k : Int)) && decide (g = f))
  | _ => false
theorem isFld_shape {k : Nat} {f : Str} : ∀ {e : Expr}, isFld k f e = true → ∃ p1 q p2 p3 p4, e = .Attribute (.Subscript (.Name "_law_made_here" p1) (.Constant (.int (k : Int)) q p2) p3) f p4 := by
  intro e h
  unfold isFld at h
  split at h
  · obtain ⟨h1, h2⟩ := Bool.and_eq_true_iff.mp h
    obtain ⟨h3, h4⟩ := Bool.and_eq_true_iff.mp h2
    have e1 := of_decide_eq_true h1
    have e3 := of_decide_eq_true h3
    have e4 := of_decide_eq_true h4
    subst e1 e3 e4
    exact ⟨_, _, _, _, _, rfl⟩
  · cases h
def isFldL (k : Nat) : List Str → List Expr → Bool
  | [], [] => true
  | f :: fs, e :: es => isFld k f e && isFldL k fs es
  | _, _ => false
def isRow (k : Nat) (c : ClsD) : Expr → Bool
  | .List es _ => isFldL k c.fields es
  | _ => false
theorem isRow_shape {k : Nat} {c : ClsD} : ∀ {e : Expr}, isRow k c e = true → ∃ es p, e = .List es p ∧ isFldL k c.fields es = true := by
  intro e h
  unfold isRow at h
  split at h
  · exact ⟨_, _, rfl, h⟩
  · cases h
def isRowL : Nat → List ClsD → List Expr → Bool
  | _, [], [] => true
  | k, c :: cs, e :: es => isRow k c e && isRowL (k + 1) cs es
  | _, _, _ => false
def rowEs : List Expr := match defBody sFields with
  | [.Return (some (.List es _)) _] => es
  | _ => []
/-- the list of the errors -/
def MadeAt (K : PySem.W.Frag) (H : Hp) (b : Addr) (xs : List Addr) (ws : List V) : Prop := SqL K H b (xs.map V.ref) ∧ xs.length = 53 ∧ ∀ (i : Nat) (c : ClsD) (x : Addr), clsL[i]? = some c → xs[i]? = some x → ErrK K H x c ws
theorem MadeAt.same {K : PySem.W.Frag} {H H' : Hp} {b : Addr} {xs : List Addr} {ws : List V} (m : MadeAt K H b xs ws) (s : Same H H') : MadeAt K H' b xs ws := ⟨s.seq m.1, m.2.1, fun i c x h1 h2 => (m.2.2 i c x h1 h2).same s⟩
def tFlds (K : PySem.W.Frag) (k : Nat) (c : ClsD) (n : Nat) : TA := fun σ H Q => ∃ (b : Addr) (xs : List Addr) (ws : List V), σ[0]? = some (some (.ref b)) ∧ MadeAt K H b xs ws ∧ ws.length = 3 ∧ c.fields.length ≤ 3 ∧ clsL[k]? = some c ∧ Q ((ws.take c.fields.length).drop n) H
def tRows (K : PySem.W.Frag) (k : Nat) (cs : List ClsD) : TA := fun σ H Q => ∃ (b : Addr) (xs : List Addr) (ws : List V), σ[0]? = some (some (.ref b)) ∧ MadeAt K H b xs ws ∧ ws.length = 3 ∧ (∀ (i : Nat) (c : ClsD), cs[i]? = some c → clsL[k + i]? = some c ∧ c.fields.length ≤ 3) ∧
  ∀ (ls : List Addr) (H' : Hp), Same H H' → ls.length = cs.length → (∀ (i : Nat) (c : ClsD) (l : Addr), cs[i]? = some c → ls[i]? = some l → H' l = some (.lst (ws.take c.fields.length))) → Q (ls.map V.ref) H'
section
variable {X : Cx}
theorem star_fld {k : Nat} {f : Str} {e : Expr} (h : isFld k f e = true) (es : List Expr) (v : Env) : starEach (e :: es) v = (false, eval e v) :: starEach es v := by
  obtain ⟨p1, q, p2, p3, p4, rfl⟩ := isFld_shape h
  rfl
theorem star_row {k : Nat} {c : ClsD} {e : Expr} (h : isRow k c e = true) (es : List Expr) (v : Env) : starEach (e :: es) v = (false, eval e v) :: starEach es v := by
  obtain ⟨_, _, rfl, _⟩ := isRow_shape h
  rfl
theorem pa_flds {k : Nat} {c : ClsD} (hv : ∀ p, PE X (.Name "_law_made_here" p) (tVar 0)) (xf : XfC X.K (He.ga X.K c.name)) (no : ∀ f ∈ c.fields, NoF X.K (He.ga X.K c.name) f) : ∀ (n : Nat) (fs : List Str) (es : List Expr), c.fields.drop n = fs → isFldL k fs es = true → PA X es (tFlds X.K k c n)
  | n, [], [], hn, _ => PA.imp pa_nil fun σ H Q ⟨b, xs, ws, e0, m, hl, h3, hk, q⟩ => by
    have h1 : c.fields.length ≤ n := List.drop_eq_nil_iff.mp hn
    have e : (ws.take c.fields.length).drop n = [] := List.drop_eq_nil_iff.mpr (by rw [List.length_take]; omega)
    rw [e] at q
    exact q
  | _, [], _ :: _, _, h => by cases h
  | _, _ :: _, [], _, h => by cases h
  | n, f :: fs, e :: es, hn, h => by
    obtain ⟨h1, h2⟩ := Bool.and_eq_true_iff.mp (show (isFld k f e && isFldL k fs es) = true from h)
    have hlt : n < c.fields.length := by
      rcases Nat.lt_or_ge n c.fields.length with z | z
      · exact z
      · rw [List.drop_eq_nil_iff.mpr z] at hn
        cases hn
    have hn2 : c.fields.drop (n + 1) = fs := by
      rw [← List.tail_drop, hn]
      rfl
    have hf : c.fields[n]? = some f := by
      have z : (c.fields.drop n)[0]? = some f := by rw [hn]; rfl
      rw [List.getElem?_drop] at z
      exact z
    have r := pa_flds hv xf no (n + 1) fs es hn2 h2
    have st := star_fld h1 es X.env
    obtain ⟨p1, q, p2, p3, p4, rfl⟩ := isFld_shape h1
    refine PA.imp (pa_cons (pe_ofld (pe_ix ix_list (hv p1) pe_int (fun _ _ => rfl)) (by rfl)) r st) ?_
    rintro σ H Q ⟨b, xs, ws, e0, m, hl, h3, hk, qq⟩
    have hkl : k < 53 := by
      have z := (List.getElem?_eq_some_iff.mp hk).1
      exact z
    have hx : xs[k]? = some (xs[k]'(by rw [m.2.1]; exact hkl)) := List.getElem?_eq_getElem _
    have hw : ws[n]? = some (ws[n]'(by omega)) := List.getElem?_eq_getElem _
    have hxm : (xs.map V.ref)[k]? = some (.ref (xs[k]'(by rw [m.2.1]; exact hkl))) := by rw [List.getElem?_map, hx]; rfl
    have hdrop : (ws.take c.fields.length).drop n = (ws[n]'(by omega)) :: (ws.take c.fields.length).drop (n + 1) := by
      have hl2 : n < (ws.take c.fields.length).length := by rw [List.length_take]; omega
      rw [List.drop_eq_getElem_cons hl2, List.getElem_take]
    rcases m.2.2 k c _ hk hx with ⟨d, fl, h1, h2, h4⟩ | ⟨h0, _⟩
    · refine ⟨_, e0, _, _, _, _, rfl, rfl, m.1, atI_nat hxm, _, _, d, fl, _, rfl, xf, no f (List.mem_of_getElem? hf), h1, h2, h4 n f _ hf hw, b, xs, ws, e0, m, hl, h3, hk, ?_⟩
      rw [hdrop] at qq
      exact qq
    · rw [h0] at hf
      cases hf
theorem pa_rows (hv : ∀ p, PE X (.Name "_law_made_here" p) (tVar 0)) : ∀ (cs : List ClsD) (k : Nat) (es : List Expr), isRowL k cs es = true → (∀ c ∈ cs, XfC X.K (He.ga X.K c.name) ∧ ∀ f ∈ c.fields, NoF X.K (He.ga X.K c.name) f) → PA X es (tRows X.K k cs)
  | [], _, [], _, _ => PA.imp pa_nil fun σ H Q ⟨b, xs, ws, e0, m, hl, hk, q⟩ => q [] H (Same.refl H) rfl (fun i c l h => by cases h)
  | [], _, _ :: _, h, _ => by cases h
  | _ :: _, _, [], h, _ => by cases h
  | c :: cs, k, e :: es, h, hc => by
    obtain ⟨h1, h2⟩ := Bool.and_eq_true_iff.mp (show (isRow k c e && isRowL (k + 1) cs es) = true from h)
    have r := pa_rows hv cs (k + 1) es h2 (fun c m => hc c (List.mem_cons_of_mem _ m))
    have st := star_row h1 es X.env
    obtain ⟨fs, p, rfl, hf⟩ := isRow_shape h1
    refine PA.imp (pa_cons (pe_lst (pa_flds hv (hc c List.mem_cons_self).1 (hc c List.mem_cons_self).2 0 c.fields fs rfl hf)) r st) ?_
    rintro σ H Q ⟨b, xs, ws, e0, m, hl, hk, q⟩
    obtain ⟨hk0, h30⟩ := hk 0 c rfl
    refine ⟨b, xs, ws, e0, m, hl, h30, hk0, ?_, fun l nl => ?_⟩
    · rw [List.drop_zero, List.length_take, hl]
      exact Nat.le_trans (Nat.min_le_right _ _) (by decide)
    · have sl := same_upd (o := .lst ((ws.take c.fields.length).drop 0)) nl
      refine ⟨b, xs, ws, e0, m.same sl, hl, fun i c' hi => ?_, fun ls H' s2 hll hls => ?_⟩
      · have z := hk (i + 1) c' hi
        rw [Nat.add_assoc, Nat.add_comm 1 i]
        exact z
      · refine q (l :: ls) H' (sl.trans s2) (congrArg (· + 1) hll) (fun i c' l' hi hl' => ?_)
        match i, hi, hl' with
        | 0, hi, hl' =>
          cases hi
          cases hl'
          exact s2 _ _ upd_same
        | i + 1, hi, hl' => exact hls i c' l' hi hl'
end
def spFields (K : PySem.W.Frag) : Sp := fun vs H Q _ => ∃ (b : Addr) (xs : List Addr) (ws : List V), vs = [.ref b] ∧ MadeAt K H b xs ws ∧ ws.length = 3 ∧
  ∀ (ls : List Addr) (H' : Hp) (p : Addr), Same H H' → ls.length = 53 → (∀ (i : Nat) (c : ClsD) (l : Addr), clsL[i]? = some c → ls[i]? = some l → H' l = some (.lst (ws.take c.fields.length))) → H' p = some (.lst (ls.map V.ref)) → Q (.ref p) H'
theorem scFields : FnScope ["_law_made_here"] ["_law_made_here"] (defScope sFields) := ⟨rfl, rfl, rfl, by decide +kernel, rfl, by decide +kernel, by decide +kernel⟩
theorem few : ∀ c ∈ clsL, c.fields.length ≤ 3 := by decide +kernel
theorem ok_fields {P : Program} {w : World} {K : PySem.W.Frag} {mg : Str → Option Value} {base : Heap} {f : Addr} {fd : FuncData} (F : FnP K "_law_fields" sFields f fd) (hc : ∀ c ∈ clsL, CF P w K mg base c) : FnOk P w K mg base CX0 1 f fd ["_law_made_here"] (spFields K) := by
  refine F.ok scFields (fun vs H Q E h => ?_) (fun cdv A outer s H vs Q E hr h => ?_)
  · obtain ⟨b, xs, ws, rfl, _⟩ := h
    rfl
  · obtain ⟨b, xs, ws, rfl, m, hl, q⟩ := h
    refine ⟨_, PSs.nox (pss_one (ps_ret (pe_lst (pa_rows (fun p => pv 0) clsL 0 rowEs (by decide +kernel) (fun c m => ⟨(hc c m).xf, (hc c m).no⟩))))), ?_⟩
    refine ⟨b, xs, ws, rfl, m, hl, fun i c hi => ⟨by rw [Nat.zero_add]; exact hi, few c (List.mem_of_getElem? hi)⟩, fun ls H' s1 hll hls => ⟨?_, fun p np => ?_⟩⟩
    · rw [List.length_map, hll]
      decide
    · have sp := same_upd (o := .lst (ls.map V.ref)) np
      exact q ls _ p (s1.trans sp) hll (fun i c l h1 h2 => sp _ _ (hls i c l h1 h2)) upd_same
end K00

set_option maxHeartbeats 8000000
/-! the law -/
namespace K00
open PySem PySem.Spec PyProof.Rows L2
/-! ### a written list of ints -/
def isInts : List Int → List Expr → Bool
  | [], [] => true
  | i :: is, .Constant (.int j) _ _ :: es => decide (i = j) && isInts is es
  | _, _ => false
theorem pa_ints {X : Cx} : ∀ (is : List Int) (es : List Expr), isInts is es = true → PA X es (fun σ H Q => Q (is.map V.int) H)
  | [], [], _ => pa_nil
  | [], _ :: _, h => by cases h
  | _ :: _, [], h => by cases h
  | i :: is, e :: es, h => by
    unfold isInts at h
    split at h
    · rename_i e1 e2
      cases e1
    · rename_i e1 e2
      cases e1
      cases e2
      obtain ⟨h1, h2⟩ := Bool.and_eq_true_iff.mp h
      have ei := of_decide_eq_true h1
      subst ei
      exact PA.imp (pa_cons pe_int (pa_ints _ _ h2)) fun σ H Q q => q
    · cases h
def manyEs : List Expr := match (defBody sLaw).getD 2 (.Pass ⟨0, 0, 0, 0⟩) with
  | .Assign _ (.Tuple [_, .List es _] _ _) _ => es
  | _ => []
def manyL : List Int := clsL.map fun c => (c.fields.length : Int)
theorem many_ok : isInts manyL manyEs = true := by decide +kernel
/-! ### bools and things as data -/
theorem lay_bools : ∀ bs : List Bool, PyData.canLayAll0 (bs.map PyData.bool) = true
  | [] => rfl
  | b :: bs => by
    show (PyData.canLay0 (.bool b) && PyData.canLayAll0 (bs.map PyData.bool)) = true
    rw [lay_bools bs]
    rfl
theorem deep_bools : ∀ bs : List Bool, PyData.depthAll (bs.map PyData.bool) ≤ 1
  | [] => by decide
  | b :: bs => by
    show max (PyData.depth (.bool b)) (PyData.depthAll (bs.map PyData.bool)) ≤ 1
    exact Nat.max_le.mpr ⟨(show (0 : Nat) ≤ 1 by decide), deep_bools bs⟩
theorem shaped_bools (bs : List Bool) : SeqAt.shaped (.list (bs.map PyData.bool)) = true := by
  refine Bool.and_eq_true_iff.mpr ⟨lay_bools bs, decide_eq_true ?_⟩
  have h := deep_bools bs
  show PyData.depthAll (bs.map PyData.bool) + 1 ≤ 64
  omega
theorem dp_bools {K : PySem.W.Frag} {H : Hp} : ∀ bs : List Bool, DpAll K H (bs.map V.bl) (bs.map PyData.bool)
  | [] => .nil
  | b :: bs => .cons (.bl b) (dp_bools bs)
/-- things and their data -/
inductive Ths (H : Hp) : List V → List PyData → Prop where
  | nil : Ths H [] []
  | cons {v : V} {d : PyData} {vs : List V} {ds : List PyData} : Th H v d → Ths H vs ds → Ths H (v :: vs) (d :: ds)
theorem Ths.keep {H H' : Hp} (k : Tups H H') : ∀ {vs : List V} {ds : List PyData}, Ths H vs ds → Ths H' vs ds
  | _, _, .nil => .nil
  | _, _, .cons t r => .cons (t.keep k) (r.keep k)
theorem Ths.snoc {H : Hp} {v : V} {d : PyData} (t : Th H v d) : ∀ {vs : List V} {ds : List PyData}, Ths H vs ds → Ths H (vs ++ [v]) (ds ++ [d])
  | _, _, .nil => .cons t .nil
  | _, _, .cons u r => .cons u (Ths.snoc t r)
theorem Ths.take {H : Hp} : ∀ {vs : List V} {ds : List PyData} (n : Nat), Ths H vs ds → Ths H (vs.take n) (ds.take n)
  | _, _, 0, _ => .nil
  | _, _, _ + 1, .nil => .nil
  | _, _, n + 1, .cons t r => .cons t (Ths.take n r)
theorem Ths.dp {K : PySem.W.Frag} {H : Hp} : ∀ {vs : List V} {ds : List PyData}, Ths H vs ds → DpAll K H vs ds
  | _, _, .nil => .nil
  | _, _, .cons t r => .cons t.dp r.dp
theorem Ths.lay {H : Hp} : ∀ {vs : List V} {ds : List PyData}, Ths H vs ds → PyData.canLayAll0 ds = true
  | _, _, .nil => rfl
  | _, _, .cons (d := d) (ds := ds) t r => by
    show (PyData.canLay0 d && PyData.canLayAll0 ds) = true
    rw [t.lay, r.lay]
    rfl
theorem Ths.deep {H : Hp} : ∀ {vs : List V} {ds : List PyData}, Ths H vs ds → PyData.depthAll ds ≤ 5
  | _, _, .nil => by show (0 : Nat) ≤ 5; decide
  | _, _, .cons (d := d) (ds := ds) t r => by
    show max (PyData.depth d) (PyData.depthAll ds) ≤ 5
    exact Nat.max_le.mpr ⟨t.deep, r.deep⟩
theorem Ths.shaped {H : Hp} {vs : List V} {ds : List PyData} (t : Ths H vs ds) : SeqAt.shaped (.list ds) = true := by
  refine Bool.and_eq_true_iff.mpr ⟨t.lay, decide_eq_true ?_⟩
  have h := t.deep
  show PyData.depthAll ds + 1 ≤ 64
  omega
theorem same_tups {H H' : Hp} (s : Same H H') : Tups H H' := fun a xs e => s _ _ e
theorem eqv_list {ds : List PyData} (h : SeqAt.shaped (.list ds) = true) : PyData.eqv (.list ds) (.list ds) = true := SeqAt.eqv_refl _ (SeqAt.canLay_of_shaped h)
theorem cut_n (xs : List V) (n : Nat) (h : n ≤ xs.length) : cutV xs none (some (n : Int)) = xs.take n := by
  unfold cutV
  rw [HT.sIx_none, show HT.sIx xs.length xs.length (some (n : Int)) = min n xs.length from HT.sIx_nat xs.length xs.length n]
  rw [List.drop_zero, Nat.sub_zero, Nat.min_eq_left h]
theorem hand_off {H : Hp} {p l q : Addr} {cells : List Int} {i r t : Int} {o : HO} (h : HandAt H p l cells i r t) (np : p ≠ q) (nl : l ≠ q) : HandAt (upd H q o) p l cells i r t :=
  ⟨by rw [upd_ne np]; exact h.1, by rw [upd_ne nl]; exact h.2.1, h.2.2⟩
theorem three_ths {H : Hp} {t0 t1 t2 : V} {ds : List PyData} (h : Ths H [t0, t1, t2] ds) : ∃ d0 d1 d2, ds = [d0, d1, d2] ∧ Th H t0 d0 ∧ Th H t1 d1 ∧ Th H t2 d2 := by
  cases h with
  | cons h0 r =>
    cases r with
    | cons h1 r =>
      cases r with
      | cons h2 r =>
        cases r
        exact ⟨_, _, _, rfl, h0, h1, h2⟩
/-- what isinstance says of the errors of one class, in order -/
theorem says_row {K : PySem.W.Frag} {k : Nat} {c : ClsD} (hk : clsL[k]? = some c) (pair : ∀ (i j : Nat) (c d : ClsD), clsL[i]? = some c → clsL[j]? = some d → PySem.W.kitOne K (.ref (He.ga K c.name)) (.ref (He.ga K d.name)) = some (decide (i = j))) :
    ∃ bf : ClsD → Bool, Says K (He.ga K c.name) bf clsL ∧ (clsL.map bf) = (List.range 53).map fun j => decide (k = j) := by
  refine ⟨fun d => (PySem.W.kitOne K (.ref (He.ga K c.name)) (.ref (He.ga K d.name))).getD false, fun d hd => ?_, ?_⟩
  · obtain ⟨j, hj⟩ := List.getElem?_of_mem hd
    show PySem.W.kitOne K (.ref (He.ga K c.name)) (.ref (He.ga K d.name)) = some ((PySem.W.kitOne K (.ref (He.ga K c.name)) (.ref (He.ga K d.name))).getD false)
    rw [pair k j c d hk hj]
    rfl
  · refine List.ext_getElem? fun j => ?_
    rw [List.getElem?_map, List.getElem?_map]
    by_cases hj : j < 53
    · obtain ⟨d, e1⟩ : ∃ d, clsL[j]? = some d := ⟨_, List.getElem?_eq_getElem (show j < clsL.length from hj)⟩
      rw [e1, List.getElem?_range hj]
      show some ((PySem.W.kitOne K (.ref (He.ga K c.name)) (.ref (He.ga K d.name))).getD false) = some (decide (k = j))
      rw [pair k j c d hk e1]
      rfl
    · have e1 : clsL[j]? = none := List.getElem?_eq_none (Nat.le_of_not_lt hj)
      have e2 : (List.range 53)[j]? = none := List.getElem?_eq_none (by rw [List.length_range]; exact Nat.le_of_not_lt hj)
      rw [e1, e2]
      rfl
theorem err_of {K : PySem.W.Frag} {H : Hp} {x : Addr} {c : ClsD} {ws : List V} (e : ErrK K H x c ws) : ErrAt H x (He.ga K c.name) := by
  rcases e with ⟨d, fl, h1, h2, _⟩ | ⟨_, h1⟩
  · exact .inl ⟨d, fl, h1, h2⟩
  · exact .inr h1
theorem err_same {H H' : Hp} {x D : Addr} (e : ErrAt H x D) (s : Same H H') : ErrAt H' x D := by
  rcases e with ⟨d, fl, h1, h2⟩ | h1
  · exact .inl ⟨d, fl, s _ _ h1, s _ _ h2⟩
  · exact .inr (s _ _ h1)
theorem neq_false {d e : PyData} (h : PyData.eqv d e = true) : (!PyData.eqv d e) = false := by rw [h]; rfl
theorem dec_jk (j k : Nat) : decide (V.int (0 + (j : Int)) = V.int (0 + (k : Int))) = decide (k = j) := by
  refine decide_eq_decide.mpr ⟨fun h => ?_, fun h => by rw [h]⟩
  injection h with h1
  omega
/-! ### the promise, the facts -/
abbrev nmL : List Str := ["_law_script", "_law_hand_here", "_law_k", "_law_things", "_law_made_here", "_law_many", "_law_error", "_law_told", "_law_again", "_law_one", "_law_j"]
theorem scLaw : FnScope nmL ["_law_script"] (defScope sLaw) := ⟨rfl, rfl, rfl, by decide +kernel, rfl, by decide +kernel, by decide +kernel⟩
def spLaw (K : PySem.W.Frag) : Sp := fun vs H Q _ => ∃ (a : Addr) (ns : List Int), vs = [.ref a] ∧ SqL K H a (ns.map V.int) ∧ ns.length ≤ 63 ∧ ∀ H', Q (.bl true) H'
/-- a def by its address, its promise -/
structure Df (P : Program) (w : World) (K : PySem.W.Frag) (mg : Str → Option Value) (base : Heap) (x : Str) (k : Nat) (ps : List Str) (sp : Sp) (f : Addr) (fd : FuncData) : Prop where
  gl : mg x = some (.ref f)
  ok : FnOk P w K mg base CX0 k f fd ps sp
  bi : Binds K fd ps []
  kp : PySem.W.keepIn K (.ref f) = true
structure Facts (P : Program) (w : World) (K : PySem.W.Frag) (mg : Str → Option Value) (base : Heap) : Prop where
  len : mg "len" = none
  rng : mg "range" = none
  isi : mg "isinstance" = none
  vale : mg "ValueError" = none
  cls : ∀ c ∈ clsL, CF P w K mg base c
  pair : ∀ (i j : Nat) (c d : ClsD), clsL[i]? = some c → clsL[j]? = some d → PySem.W.kitOne K (.ref (He.ga K c.name)) (.ref (He.ga K d.name)) = some (decide (i = j))
  inCus : ∀ c ∈ clsL, PySem.W.kitOne K (.ref (He.ga K c.name)) (.ref (He.ga K "CustomError")) = some true
  inVal : ∀ c ∈ clsL, PySem.W.kitOne K (.ref (He.ga K c.name)) (.type "ValueError") = some true
  cus : mg "CustomError" = some (.ref (He.ga K "CustomError"))
  cusK : PySem.W.keepIn K (.ref (He.ga K "CustomError")) = true
  cusX : ExcC K (He.ga K "CustomError")
  cusE : PySem.W.excIn K (He.ga K "CustomError") He.veBase "ValueError.__new__" = true
  cusV : PySem.W.kitOne K (.ref (He.ga K "CustomError")) (.type "ValueError") = some true
  cusN : ∀ c ∈ clsL, PySem.W.kitOne K (.ref (He.ga K "CustomError")) (.ref (He.ga K c.name)) = some false
  notlet : ∃ (fI : Addr) (fd : FuncData) (ds : List Value), PySem.W.findIn K (.ref (He.ga K "NotLet")) "__init__" = some (some (.ref fI)) ∧ PySem.W.typeIn K (.ref fI) = some (.type "function") ∧
    FnOk P w K mg base CX0 1 fI fd ["self", "one", "other"] (spIni (He.ga K "NotLet") ["one", "other"]) ∧ Vals [.non] ds ∧ Binds K fd ["self", "one", "other"] ds
theorem ok_law {P : Program} {w : World} {K : PySem.W.Frag} {mg : Str → Option Value} {base : Heap} {f fH fT fM fK fF : Addr} {fd fdH fdT fdM fdK fdF : FuncData} (FL : FnP K "law" sLaw f fd) (X : Facts P w K mg base)
    (dH : Df P w K mg base "_law_hand" 1 ["_law_script"] (spHand K) fH fdH) (dT : Df P w K mg base "_law_thing" 4 ["_law_hand_here"] spThing fT fdT)
    (dM : Df P w K mg base "_law_made" 3 ["_law_things"] (spMade K) fM fdM) (dK : Df P w K mg base "_law_kinds" 1 ["_law_error"] (spKinds K) fK fdK) (dF : Df P w K mg base "_law_fields" 1 ["_law_made_here"] (spFields K) fF fdF) :
    FnOk P w K mg base CX0 5 f fd ["_law_script"] (spLaw K) := by
  refine FL.ok scLaw (fun vs H Q E h => ?_) (fun cdv A outer s H vs Q E hr h => ?_)
  · obtain ⟨a, ns, rfl, _⟩ := h
    rfl
  · obtain ⟨a, ns, rfl, hS, hlen, q⟩ := h
    have hr1 : Room 1 _ := hr.mono (by decide)
    have hr2 : Room 2 _ := hr.mono (by decide)
    have hr3 : Room 3 _ := hr.mono (by decide)
    obtain ⟨fN, fdN, dsN, n1, n2, n3, n4, n5⟩ := X.notlet
    have cN : CF P w K mg base ⟨"NotLet", 41, ["one", "other"]⟩ := X.cls _ (List.mem_of_getElem? (i := 39) rfl)
    have oN : OexC K (He.ga K "NotLet") := (cN.ini (by decide)).1
    refine ⟨_, PSs.nox (pss_cons (ps_set (i := 1) scLaw.nd rfl (.inr rfl) (pe_call dH.ok hr1 (by rfl) dH.gl dH.kp dH.bi .nil pass0 (pa_cons (pv 0) pa_nil)))
      (pss_cons (ps_setLc (i := 3) (own := [("_law_k", 2)]) (g := gName 2) (tt := tYes) rfl scLaw.nd rfl rfl (sw_true rfl rfl rfl (by decide +kernel)) (pi_range1 (by rfl) X.rng (pa_cons pe_int pa_nil)) (blkOk_by (N := nmL) (sc := defScope sLaw) (by decide +kernel))
          (fun _ _ _ _ _ => pg_name (i := 2) scLaw.nd rfl (Or.inl rfl)) (fun _ _ _ _ _ => pts_nil) (fun _ _ _ _ _ => pe_call dT.ok hr (by rfl) dT.gl dT.kp dT.bi .nil pass0 (pa_cons (pv 1) pa_nil)))
      (pss_cons (ps_par (i := 4) (j := 5) rfl scLaw.nd rfl rfl (by decide) rfl rfl (pa_cons (pe_call dM.ok hr3 (by rfl) dM.gl dM.kp dM.bi .nil pass0 (pa_cons (pv 3) pa_nil)) (pa_cons (pe_lst (pa_ints manyL manyEs many_ok)) pa_nil)) (by rfl))
      (pss_cons (ps_for PassesOwn.never rfl (pi_range1 (by rfl) X.rng (pa_cons (pe_callB call_len_seq (by rfl) X.len boot_len (pa_cons (pv 4) pa_nil)) pa_nil)) (pg_name (i := 2) scLaw.nd rfl (.inr rfl))
          (pss_cons (ps_set (i := 6) scLaw.nd rfl (.inl rfl) (pe_ix ix_list (pv 4) (pv 2) (fun _ _ => rfl)))
          (pss_one (ps_if (PW.pt (pw_or (pt_not (pt_val (pe_callB call_isX (by rfl) X.isi (by decide +kernel) (pa_cons (pv 6) (pa_cons (pe_glob (by rfl) X.cus (v := .ref (He.ga K "CustomError")) rfl) pa_nil)))))
            (pw_or (pt_not (pt_val (pe_callB call_isX (by rfl) X.isi (by decide +kernel) (pa_cons (pv 6) (pa_cons (pe_bltn (by rfl) X.vale (by decide +kernel) (v := .ty "ValueError") rfl) pa_nil)))))
            (pw_or1 (pt_cmpR (op_neD hr.units) (pe_call dK.ok hr1 (by rfl) dK.gl dK.kp dK.bi .nil pass0 (pa_cons (pv 6) pa_nil))
              (pe_lc (own := [("_law_j", 10)]) (g := gName 10) (tt := tYes) rfl scLaw.nd (pi_range1 (by rfl) X.rng (pa_cons (pe_callB call_len_seq (by rfl) X.len boot_len (pa_cons (pv 4) pa_nil)) pa_nil)) (blkOk_by (N := nmL) (sc := defScope sLaw) (by decide +kernel))
                (fun _ _ _ _ _ => pg_name (i := 10) scLaw.nd rfl (Or.inl rfl)) (fun _ _ _ _ _ => pts_nil) (fun _ _ _ _ _ => pe_cmpR op_eq (pv 10) (pv 2) (nomark _))) (nomark _))))))
            (pss_one (ps_ret pe_bl)) pss_nil))))
      (pss_cons (ps_par (i := 7) (j := 8) rfl scLaw.nd rfl rfl (by decide) rfl rfl (pa_cons (pe_call dF.ok hr1 (by rfl) dF.gl dF.kp dF.bi .nil pass0 (pa_cons (pv 4) pa_nil)) (pa_cons (pe_call dF.ok hr1 (by rfl) dF.gl dF.kp dF.bi .nil pass0 (pa_cons
          (pe_call dM.ok hr3 (by rfl) dM.gl dM.kp dM.bi .nil pass0 (pa_cons (pe_lst (pa_cons (pe_ix ix_list (pv 3) pe_int (fun _ _ => rfl)) (pa_cons (pe_ix ix_list (pv 3) pe_int (fun _ _ => rfl)) (pa_cons (pe_ix ix_list (pv 3) pe_int (fun _ _ => rfl)) pa_nil)))) pa_nil)) pa_nil)) pa_nil)) (by rfl))
      (pss_cons (ps_for PassesOwn.never rfl (pi_range1 (by rfl) X.rng (pa_cons (pe_callB call_len_seq (by rfl) X.len boot_len (pa_cons (pv 4) pa_nil)) pa_nil)) (pg_name (i := 2) scLaw.nd rfl (.inr rfl))
          (pss_one (ps_if (PW.pt (pw_or (pt_cmpR (op_neD hr.units) (pe_ix ix_list (pv 7) (pv 2) (fun _ _ => rfl)) (pe_slice sl_list (pv 3) po_none (po_some (pe_ix ix_list (pv 5) (pv 2) (fun _ _ => rfl)))) (nomark _))
            (pw_or1 (pt_cmpR (op_neD hr.units) (pe_ix ix_list (pv 8) (pv 2) (fun _ _ => rfl))
              (pe_slice sl_list (pe_lst (pa_cons (pe_ix ix_list (pv 3) pe_int (fun _ _ => rfl)) (pa_cons (pe_ix ix_list (pv 3) pe_int (fun _ _ => rfl)) (pa_cons (pe_ix ix_list (pv 3) pe_int (fun _ _ => rfl)) pa_nil)))) po_none (po_some (pe_ix ix_list (pv 5) (pv 2) (fun _ _ => rfl)))) (nomark _)))))
            (pss_one (ps_ret pe_bl)) pss_nil)))
      (pss_cons (ps_set (i := 9) scLaw.nd rfl (.inl rfl) (pe_exc1 PySem.F.excBase_ValueError X.cusE X.cus X.cusK (by rfl) pe_str))
      (pss_one (ps_ret (pe_and (pe_callB call_isX (by rfl) X.isi (by decide +kernel) (pa_cons (pv 9) (pa_cons (pe_bltn (by rfl) X.vale (by decide +kernel) (v := .ty "ValueError") rfl) pa_nil)))
        (pe_and (pe_cmpR (op_eqD hr.units) (pe_call dK.ok hr1 (by rfl) dK.gl dK.kp dK.bi .nil pass0 (pa_cons (pv 9) pa_nil)) (pe_op op_rep (pe_lst (pa_cons pe_bl pa_nil)) (pe_callB call_len_seq (by rfl) X.len boot_len (pa_cons (pv 4) pa_nil))) (nomark _))
        (pe_one (pe_cmpR op_isN (pe_ofld (pe_oexv (dvs := [.non]) oN n1 n2 n3 hr2 n5 n4 pass0 (by rfl) cN.gl (pa_cons (pe_ix ix_list (pv 3) pe_int (fun _ _ => rfl)) pa_nil) (by decide +kernel) (by rfl) (by rfl)) (by rfl)) pe_non (nomark _)))))))))))))), ?_⟩
    refine ⟨_, rfl, a, ns, rfl, hS, hlen, fun H1 p l t s1 np hh1 => ?_⟩
    -- the things
    refine ⟨3, rfl, by decide, by decide, fun D nD => lc_it walk_range (fun i H' => ∃ (vs : List V) (ds : List PyData) (i' r' t' : Int), vs.length = i ∧ Ths H' vs ds ∧ HandAt H' p l (ns.map absI) i' r' t' ∧ H' D = some (.lst vs))
      ⟨[], [], 0, 0, t, rfl, .nil, hand_same hh1 (same_upd nD), upd_same⟩ (fun _ _ _ _ => trivial) ?_ ?_⟩
    · rintro i x H2 H3 hi ⟨vs, ds, i', r', t', hl, th, hh, eD⟩ ⟨rfl, rfl⟩
      have npD : p ≠ D := ne_of_none hh1.1 nD
      have nlD : l ≠ D := ne_of_none hh1.2.1 nD
      refine ⟨rfl, ?_⟩
      refine ⟨_, rfl, p, l, _, i', r', t', rfl, hh, fun v d H4 i2 r2 t2 hv kept hh4 => ?_⟩
      have eD4 : H4 D = some (.lst vs) := kept _ _ (Ne.symm npD) eD
      have th4 : Ths H4 vs ds := th.keep (kept.tups hh.1)
      refine ⟨vs, eD4, ?_, vs ++ [v], ds ++ [d], i2, r2, t2, ?_, ?_, hand_off hh4 npD nlD, upd_same⟩
      · rw [hl]
        exact Nat.lt_of_lt_of_le hi (by decide)
      · rw [List.length_append, hl]
        rfl
      · exact (Ths.snoc hv th4).keep (Kept.tups (Kept.upd (p := D)) eD4)
    · rintro H2 ⟨vs, ds, i', r', t', hl, th, hh, eD⟩
      obtain ⟨t0, t1, t2, rfl⟩ := three_of hl
      obtain ⟨d0, d1, d2, rfl, th0, th1, th2⟩ := three_ths th
      clear th hl
      -- the errors, the numbers of their fields
      refine ⟨_, rfl, D, t0, t1, t2, rfl, SqL.of eD, fun xs H3 b s3 nb hlx hxs eb => ⟨?_, fun m nm => ⟨_, _, rfl, ?_⟩⟩⟩
      · rw [List.length_map]
        decide
      have s4 := same_upd (o := .lst (manyL.map V.int)) nm
      have mAt : MadeAt K (upd H3 m (.lst (manyL.map V.int))) b xs [t0, t1, t2] := ⟨SqL.of (s4 _ _ eb), hlx, fun i c x h1 h2 => (hxs i c x h1 h2).same s4⟩
      have eD4 : (upd H3 m (.lst (manyL.map V.int))) D = some (.lst [t0, t1, t2]) := s4 _ _ (s3 _ _ eD)
      have em : (upd H3 m (.lst (manyL.map V.int))) m = some (.lst (manyL.map V.int)) := upd_same
      have k0 := (th0.keep (same_tups s3)).keep (same_tups s4)
      have k1 := (th1.keep (same_tups s3)).keep (same_tups s4)
      have k2 := (th2.keep (same_tups s3)).keep (same_tups s4)
      generalize upd H3 m (.lst (manyL.map V.int)) = H4 at mAt eD4 em k0 k1 k2
      clear s4 nm hxs eb s3 nb eD hh th0 th1 th2
      have hlr : (xs.map V.ref).length = 53 := by rw [List.length_map, hlx]
      have hlx53 : ∀ {k : Nat}, k < 53 → ∃ x c, xs[k]? = some x ∧ clsL[k]? = some c ∧ (xs.map V.ref)[k]? = some (.ref x) := fun {k} hk => by
        have e1 : xs[k]? = some (xs[k]'(by rw [hlx]; exact hk)) := List.getElem?_eq_getElem _
        exact ⟨_, _, e1, List.getElem?_eq_getElem (show k < clsL.length from hk), by rw [List.getElem?_map, e1]; rfl⟩
      -- each error is itself alone
      refine ⟨_, rfl, _, _, rfl, .inl mAt.1, _, rfl, by rw [hlr]; decide, by rw [hlr]; decide, for_it walk_range (fun i σ H' => ∃ (u e : Option V), σ = [some (.ref a), some (.ref p), u, some (.ref D), some (.ref b), some (.ref m), e, none, none, none, none] ∧ Same H4 H')
        ⟨none, none, rfl, Same.refl _⟩ (fun _ _ _ _ _ => trivial) ?_ ?_⟩
      · rintro k x σ H5 H6 hk ⟨u, e, rfl, s5⟩ ⟨rfl, rfl⟩
        rw [hlr] at hk
        obtain ⟨x, c, hx, hc, hxr⟩ := hlx53 (show k < 53 from hk)
        have m5 := mAt.same s5
        have cm := List.mem_of_getElem? hc
        have er : ErrAt H6 x (He.ga K c.name) := err_of (m5.2.2 k c x hc hx)
        have hat : atI (xs.map V.ref) (0 + (k : Int)) = some (.ref x) := by
          rw [Int.zero_add]
          exact atI_nat hxr
        refine ⟨_, rfl, _, rfl, _, _, _, _, rfl, rfl, m5.1, hat, ?_⟩
        refine ⟨_, rfl, x, _, _, _, true, rfl, er, (X.cls c cm).xc, fun u z => z, X.inCus c cm, _, rfl, iteF ?_⟩
        refine ⟨_, rfl, x, _, _, _, true, rfl, er, (X.cls c cm).xc, fun u z => z, X.inVal c cm, _, rfl, iteF ?_⟩
        obtain ⟨bf, sy, ebf⟩ := says_row hc X.pair
        refine ⟨_, rfl, x, _, bf, rfl, er, (X.cls c cm).xc, sy, fun q1 nq1 => ?_⟩
        have s6 := same_upd (o := .lst (clsL.map fun c => V.bl (bf c))) nq1
        have m6 := m5.same s6
        refine ⟨_, rfl, _, _, rfl, .inl m6.1, _, rfl, by rw [hlr]; decide, by rw [hlr]; decide, fun D2 nD2 => lc_it walk_range (fun i H' => Same H6 H' ∧ H' q1 = some (.lst (clsL.map fun c => V.bl (bf c))) ∧ H' D2 = some (.lst (((List.range i).map fun j => decide (k = j)).map V.bl)))
          ⟨fun b' o e' => same_upd nD2 _ _ (s6 _ _ e'), same_upd nD2 _ _ upd_same, upd_same⟩ (fun _ _ _ _ => trivial) ?_ ?_⟩
        · rintro j y H7 H8 hj ⟨s7, e7, eD7⟩ ⟨rfl, rfl⟩
          rw [hlr] at hj
          refine ⟨rfl, ?_⟩
          refine ⟨_, rfl, _, rfl, rfl, _, eD7, ?_, ?_⟩
          · rw [List.length_map, List.length_map, List.length_range]
            exact Nat.lt_of_lt_of_le hj (by decide)
          · refine ⟨fun b' o e' => ?_, ?_, ?_⟩
            · rw [upd_ne (ne_of_none (s6 _ _ e') nD2)]
              exact s7 _ _ e'
            · rw [upd_ne (ne_of_none upd_same nD2)]
              exact e7
            · rw [upd_same, List.range_succ, List.map_append, List.map_append, dec_jk]
              rfl
        · rintro H7 ⟨s7, e7, eD7⟩
          have en : (((xs.map V.ref).length : Nat) : Int).toNat = 53 := by
            rw [hlr]
            rfl
          rw [en, ← ebf] at eD7
          have e8 : H7 q1 = some (.lst ((clsL.map bf).map V.bl)) := by
            rw [List.map_map]
            exact e7
          refine ⟨_, _, .lst (SqL.of e8) (dp_bools _), .lst (SqL.of eD7) (dp_bools _), shaped_bools _, shaped_bools _, _, rfl, ?_⟩
          rw [neq_false (eqv_list (shaped_bools _))]
          exact iteF ⟨_, _, rfl, fun b' o e' => s7 _ _ (s5 _ _ e')⟩
      · rintro σ H5 ⟨u, e, rfl, s5⟩
        have m5 := mAt.same s5
        have eD5 := s5 _ _ eD4
        have em5 := s5 _ _ em
        have k0 := k0.keep (same_tups s5)
        have k1 := k1.keep (same_tups s5)
        have k2 := k2.keep (same_tups s5)
        -- what they keep
        refine ⟨_, rfl, b, xs, [t0, t1, t2], rfl, m5, rfl, fun ls1 H6 p1 s6 hl1 hls1 ep1 => ?_⟩
        have eD6 := s6 _ _ eD5
        refine ⟨_, rfl, _, _, _, _, rfl, rfl, SqL.of eD6, rfl, _, rfl, _, _, _, _, rfl, rfl, SqL.of eD6, rfl, _, rfl, _, _, _, _, rfl, rfl, SqL.of eD6, rfl, (by show 3 ≤ sizeLine; decide), fun q2 nq2 => ?_⟩
        have s7 := same_upd (o := .lst [t1, t2, t0]) nq2
        refine ⟨q2, t1, t2, t0, rfl, SqL.of upd_same, fun xs2 H8 b2 s8 nb2 hlx2 hxs2 eb2 => ?_⟩
        refine ⟨b2, xs2, [t1, t2, t0], rfl, ⟨SqL.of eb2, hlx2, hxs2⟩, rfl, fun ls2 H9 p2 s9 hl2 hls2 ep2 => ⟨_, _, rfl, ?_⟩⟩
        have s69 : Same H6 H9 := (s7.trans s8).trans s9
        have s59 : Same H5 H9 := s6.trans s69
        have m9 := m5.same s59
        have eD9 := s59 _ _ eD5
        have em9 := s59 _ _ em5
        have ep1' := s69 _ _ ep1
        have k0 := k0.keep (same_tups s59)
        have k1 := k1.keep (same_tups s59)
        have k2 := k2.keep (same_tups s59)
        have hls1' : ∀ (i : Nat) (c : ClsD) (l : Addr), clsL[i]? = some c → ls1[i]? = some l → H9 l = some (.lst ([t0, t1, t2].take c.fields.length)) := fun i c l h1 h2 => s69 _ _ (hls1 i c l h1 h2)
        clear s69 s59 hxs2 eb2 s8 s7 nq2 nb2 hls1 ep1 s6 s9 eD6 em5 eD5 m5
        have hman : ∀ {k : Nat} {c : ClsD}, clsL[k]? = some c → atI (manyL.map V.int) (0 + (k : Int)) = some (.int (c.fields.length : Int)) := fun {k c} hc => by
          rw [Int.zero_add]
          refine atI_nat ?_
          unfold manyL
          rw [List.map_map, List.getElem?_map, hc]
          rfl
        have hrow : ∀ {k : Nat} {ls : List Addr}, ls.length = 53 → k < 53 → ∃ l, ls[k]? = some l ∧ atI (ls.map V.ref) (0 + (k : Int)) = some (.ref l) := fun {k ls} hl hk => by
          have e1 : ls[k]? = some (ls[k]'(by rw [hl]; exact hk)) := List.getElem?_eq_getElem _
          refine ⟨_, e1, ?_⟩
          rw [Int.zero_add]
          exact atI_nat (by rw [List.getElem?_map, e1]; rfl)
        have tall : Ths H9 [t0, t1, t2] [d0, d1, d2] := .cons k0 (.cons k1 (.cons k2 .nil))
        have tall2 : Ths H9 [t1, t2, t0] [d1, d2, d0] := .cons k1 (.cons k2 (.cons k0 .nil))
        refine ⟨_, rfl, _, _, rfl, .inl m9.1, _, rfl, by rw [hlr]; decide, by rw [hlr]; decide, for_it walk_range (fun i σ H' => ∃ (u e : Option V), σ = [some (.ref a), some (.ref p), u, some (.ref D), some (.ref b), some (.ref m), e, some (.ref p1), some (.ref p2), none, none] ∧ Same H9 H')
          ⟨_, _, rfl, Same.refl _⟩ (fun _ _ _ _ _ => trivial) ?_ ?_⟩
        · rintro k x σ H10 H11 hk ⟨u, e, rfl, s10⟩ ⟨rfl, rfl⟩
          rw [hlr] at hk
          have hk53 : k < 53 := hk
          obtain ⟨x, c, hx, hc, hxr⟩ := hlx53 hk53
          obtain ⟨l1, hl1k, hl1a⟩ := hrow hl1 hk53
          obtain ⟨l2, hl2k, hl2a⟩ := hrow hl2 hk53
          have cm := List.mem_of_getElem? hc
          have fl1 := s10 _ _ (hls1' k c l1 hc hl1k)
          have fl2 := s10 _ _ (hls2 k c l2 hc hl2k)
          have eD10 := s10 _ _ eD9
          have em10 := s10 _ _ em9
          have ecut : ∀ (ws : List V), ws.length = 3 → cutV ws none (some ((c.fields.length : Nat) : Int)) = ws.take c.fields.length := fun ws hw => cut_n ws _ (by rw [hw]; exact few c cm)
          refine ⟨_, rfl, _, rfl, _, _, _, _, rfl, rfl, SqL.of (s10 _ _ ep1'), hl1a, _, rfl, _, rfl, _, rfl, _, _, _, _, rfl, rfl, SqL.of em10, hman hc, _, rfl, D, _, rfl, SqL.of eD10, fun q3 nq3 => ?_⟩
          rw [ecut _ rfl]
          have s11 := same_upd (o := .lst ([t0, t1, t2].take c.fields.length)) nq3
          have th1 : Ths _ ([t0, t1, t2].take c.fields.length) ([d0, d1, d2].take c.fields.length) := Ths.take _ ((tall.keep (same_tups s10)).keep (same_tups s11))
          refine ⟨_, _, .lst (SqL.of (s11 _ _ fl1)) th1.dp, .lst (SqL.of upd_same) th1.dp, th1.shaped, th1.shaped, _, rfl, ?_⟩
          rw [neq_false (eqv_list th1.shaped)]
          refine iteF ?_
          have eD11 := s11 _ _ eD10
          refine ⟨_, rfl, _, rfl, _, _, _, _, rfl, rfl, SqL.of (s11 _ _ (s10 _ _ ep2)), hl2a, _, rfl, _, _, _, _, rfl, rfl, SqL.of eD11, rfl, _, rfl, _, _, _, _, rfl, rfl, SqL.of eD11, rfl, _, rfl, _, _, _, _, rfl, rfl, SqL.of eD11, rfl, (by show 3 ≤ sizeLine; decide), fun q4 nq4 => ?_⟩
          have s12 := same_upd (o := .lst [t1, t2, t0]) nq4
          refine ⟨_, rfl, _, rfl, _, _, _, _, rfl, rfl, SqL.of (s12 _ _ (s11 _ _ em10)), hman hc, _, rfl, q4, _, rfl, SqL.of upd_same, fun q5 nq5 => ?_⟩
          rw [ecut _ rfl]
          have s13 := same_upd (o := .lst ([t1, t2, t0].take c.fields.length)) nq5
          have th2 : Ths _ ([t1, t2, t0].take c.fields.length) ([d1, d2, d0].take c.fields.length) := Ths.take _ ((((tall2.keep (same_tups s10)).keep (same_tups s11)).keep (same_tups s12)).keep (same_tups s13))
          refine ⟨_, _, .lst (SqL.of (s13 _ _ (s12 _ _ (s11 _ _ fl2)))) th2.dp, .lst (SqL.of upd_same) th2.dp, th2.shaped, th2.shaped, _, rfl, ?_⟩
          rw [neq_false (eqv_list th2.shaped)]
          exact iteF ⟨_, _, rfl, fun b' o e' => s13 _ _ (s12 _ _ (s11 _ _ (s10 _ _ e')))⟩
        · rintro σ H10 ⟨u, e, rfl, s10⟩
          have eD10 := s10 _ _ eD9
          have m10 := m9.same s10
          refine fun z nz => ?_
          have sz := same_upd (o := ExO (.ref (He.ga K "CustomError")) z) nz
          refine ⟨_, rfl, z, _, _, _, true, rfl, .inr upd_same, X.cusX, fun u z => z, X.cusV, _, rfl, iteT ?_⟩
          refine ⟨_, rfl, z, _, fun _ => false, rfl, .inr upd_same, X.cusX, X.cusN, fun q6 nq6 => ?_⟩
          have s11 := same_upd (o := .lst (clsL.map fun c => V.bl false)) nq6
          refine ⟨(by show 1 ≤ sizeLine; decide), fun q7 nq7 => ?_⟩
          have s12 := same_upd (o := .lst [V.bl false]) nq7
          have m12 := ((m10.same sz).same s11).same s12
          refine ⟨_, rfl, _, _, rfl, .inl m12.1, q7, _, _, rfl, rfl, upd_same, by rw [hlr]; decide, by rw [hlr]; decide, by rw [hlr]; decide, fun q8 nq8 => ?_⟩
          have en : (((xs.map V.ref).length : Nat) : Int).toNat = 53 := by
            rw [hlr]
            rfl
          rw [en]
          have s13 := same_upd (o := .lst (List.replicate 53 [V.bl false]).flatten) nq8
          have e1 : (clsL.map fun c => V.bl false) = (List.replicate 53 false).map V.bl := rfl
          have e2 : (List.replicate 53 [V.bl false]).flatten = (List.replicate 53 false).map V.bl := rfl
          refine ⟨_, _, .lst (SqL.of (s13 _ _ (s12 _ _ upd_same))) (by rw [e1]; exact dp_bools _), .lst (SqL.of upd_same) (by rw [e2]; exact dp_bools _), shaped_bools _, shaped_bools _, _, rfl, ?_⟩
          rw [eqv_list (shaped_bools _)]
          refine iteT ?_
          have eD13 := s13 _ _ (s12 _ _ (s11 _ _ (sz _ _ eD10)))
          refine ⟨_, rfl, _, _, _, _, rfl, rfl, SqL.of eD13, rfl, (by show 1 ≤ 1000; decide), fun y ny => ?_⟩
          refine ⟨y, [t0, .non], rfl, rfl, upd_same, fun H' d fl nd ea ed hh keep => ⟨rfl, ?_⟩⟩
          exact ⟨y, _, d, fl, .non, rfl, cN.xf, cN.no "other" (by decide +kernel), ea, ed, hh 1 "other" .non rfl rfl, rfl, q _⟩
end K00

/-! the facts by the head, the end -/
namespace K00
open PySem PySem.Spec PyProof.Rows L2
theorem oexB_ok {K : PySem.W.Frag} {C : Addr} (h : oexB K C = true) : ∃ nm q N bs bm sn sub ab col dd k0 k1 k2 k3 k5, K.lookup C = some (excClassObj nm q C N bs bm true sn sub ab col dd k0 k1 k2 k3 k5 "ValueError.__new__") ∧ PySem.HandSPX.refsVE bm = true := by
  unfold oexB at h
  split at h
  · rename_i t dd cd sl e
    obtain ⟨h1, h2⟩ := Bool.and_eq_true_iff.mp h
    have et := of_decide_eq_true h1
    split at h2
    · rename_i C' bm k0 k1 k2 k3 n k5 hm hs
      obtain ⟨h3, h4⟩ := Bool.and_eq_true_iff.mp h2
      obtain ⟨h5, h6⟩ := Bool.and_eq_true_iff.mp h4
      obtain ⟨h7, h8⟩ := Bool.and_eq_true_iff.mp h6
      obtain ⟨h9, h10⟩ := Bool.and_eq_true_iff.mp h8
      have eC := of_decide_eq_true h3
      have en := of_decide_eq_true h5
      obtain ⟨nm, bs, mro, ns, qn, hd, sn, sb, ab, col, del⟩ := cd
      dsimp only at hm h7 h9
      have e9 : del = false := by
        cases del with
        | false => rfl
        | true => cases h9
      have es : sl = #[k0, k1, k2, k3, some (.builtin n), k5] := by
        cases sl
        exact congrArg Array.mk hs
      subst et eC en e9 hm es h7
      exact ⟨nm, qn, ns, bs, bm, sn, sb, ab, col, dd, k0, k1, k2, k3, k5, e, h10⟩
    · cases h2
  · cases h
theorem b2 {a b : Bool} (h : (a && b) = true) : a = true ∧ b = true := Bool.and_eq_true_iff.mp h
structure ExcF (K : PySem.W.Frag) (D : Addr) : Prop where
  xf : XfC K D
  sa : PySem.W.findIn K (.ref D) "__setattr__" = some (some (.builtin "object.__setattr__"))
  ty : PySem.W.typeIn K (.ref D) = some (.type "type")
  kp : PySem.W.keepIn K (.ref D) = true
  va : PySem.W.kitOne K (.ref D) (.type "ValueError") = some true
  cl : PySem.W.findIn K (.ref D) "__class__" = some (some (.builtin "object.__class__"))
  ob : PySem.W.mroIn K D (.type "object") = some true
theorem excB_ok {K : PySem.W.Frag} {D : Addr} (h : excB K D = true) : ExcF K D := by
  obtain ⟨h1, h⟩ := b2 h
  obtain ⟨h2, h⟩ := b2 h
  obtain ⟨h3, h⟩ := b2 h
  obtain ⟨h4, h⟩ := b2 h
  obtain ⟨h5, h⟩ := b2 h
  obtain ⟨h6, h⟩ := b2 h
  obtain ⟨h7, h⟩ := b2 h
  obtain ⟨h8, h⟩ := b2 h
  obtain ⟨h9, h10⟩ := b2 h
  exact ⟨⟨of_decide_eq_true h1, of_decide_eq_true h2, of_decide_eq_true h3, h4⟩, of_decide_eq_true h7, of_decide_eq_true h8, h9, of_decide_eq_true h10, of_decide_eq_true h5, of_decide_eq_true h6⟩
theorem ExcF.xc {K : PySem.W.Frag} {D : Addr} (e : ExcF K D) (d : dunB K = true) : ExcC K D := by
  obtain ⟨h1, h2⟩ := b2 d
  exact ⟨e.xf.ga, e.xf.gg, e.xf.exC, e.xf.hdC, e.cl, of_decide_eq_true h1, of_decide_eq_true h2, e.ob⟩
section
variable {K : PySem.W.Frag}
theorem SaysM.all (c : SaysM K) : allB K = true := (b2 (show (allB K && fn.all fun d => d.ok K) = true from congrArg (fun z : AlM => z.1) c)).1
theorem SaysM.def_ (c : SaysM K) (i : Nat) {d : He.DefD} (h : fn[i]? = some d) : ∃ fd, FunD K d.name d.qual d.params d.body d.scope (d.dvs K) (d.kws K) (He.fAd K d.at_) fd := by
  have c2 := (b2 (show (allB K && fn.all fun d => d.ok K) = true from congrArg (fun z : AlM => z.1) c)).2
  have e : fn.map (fun d => He.fnW K d.at_) = fn.map He.DefD.val := congrArg (fun z : AlM => z.2) c
  have e2 : (fn.map fun d => He.fnW K d.at_)[i]? = (fn.map He.DefD.val)[i]? := by rw [e]
  rw [List.getElem?_map, List.getElem?_map, h] at e2
  exact He.DefD.funD (Option.some.inj e2) (List.all_eq_true.mp c2 d (List.mem_of_getElem? h))
structure Parts (K : PySem.W.Frag) : Prop where
  free : ∀ x ∈ free, PySem.W.nsIn K mainGlobals x = some none
  glob : ∀ x ∈ glob, PySem.W.nsIn K mainGlobals x = some (some (.ref (He.ga K x)))
  dun : dunB K = true
  cls : ∀ c ∈ clsL, clsB K c = true
  cus : cusB K = true
  inc : incB K = true
theorem SaysM.parts (c : SaysM K) : Parts K := by
  obtain ⟨h1, h⟩ := b2 c.all
  obtain ⟨h2, h⟩ := b2 h
  obtain ⟨h3, h⟩ := b2 h
  obtain ⟨h4, h⟩ := b2 h
  obtain ⟨h5, h6⟩ := b2 h
  exact ⟨fun x m => of_decide_eq_true (List.all_eq_true.mp h1 x m), fun x m => of_decide_eq_true (List.all_eq_true.mp h2 x m), h3, fun c m => List.all_eq_true.mp h4 c m, h5, h6⟩
theorem nameAt_of {i : Nat} {c : ClsD} (h : clsL[i]? = some c) : nameAt i = c.name := by
  unfold nameAt
  rw [h]
theorem kit_by {D C : Addr} {ms : List Value} (hm : (PySem.W.clsIn K D).map (·.mro) = some (.ref D :: ms)) (hc : (PySem.W.clsIn K C).isSome = true) (ht : PySem.W.typeIn K (.ref C) = some (.type "type")) (ne : D ≠ C) :
    PySem.W.kitOne K (.ref D) (.ref C) = some (ms.contains (.ref C)) := by
  have e0 : ((Value.ref D) == (Value.ref C)) = false := beq_eq_false_iff_ne.mpr fun z => ne (Value.ref.inj z)
  unfold PySem.W.kitOne
  rw [e0, if_neg Bool.false_ne_true]
  unfold PySem.W.kitCls
  have e1 : ((PySem.W.clsIn K C).isSome && PySem.W.typeIn K (.ref C) == some (.type "type")) = true := by
    rw [hc, ht]
    rfl
  show (if ((PySem.W.clsIn K C).isSome && PySem.W.typeIn K (.ref C) == some (.type "type")) = true then PySem.W.subIn K (.ref D) (.ref C) else none) = _
  rw [if_pos e1]
  show PySem.W.mroIn K D (.ref C) = _
  obtain ⟨cd, e2, e3⟩ := Option.map_eq_some_iff.mp hm
  unfold PySem.W.mroIn
  rw [e2, Option.bind_some, e3]
  have e4 : (Value.ref D :: ms).isEmpty = false := rfl
  rw [e4, if_neg Bool.false_ne_true, List.contains_cons]
  have e5 : ((Value.ref C) == (Value.ref D)) = false := beq_eq_false_iff_ne.mpr fun z => ne (Value.ref.inj z).symm
  rw [e5, Bool.false_or]
theorem kit_self (D : Addr) : PySem.W.kitOne K (.ref D) (.ref D) = some true := by
  unfold PySem.W.kitOne
  rw [beq_self_eq_true, if_pos rfl]
theorem some_of_map {D : Addr} {ms : List Value} (hm : (PySem.W.clsIn K D).map (·.mro) = some ms) : (PySem.W.clsIn K D).isSome = true := by
  obtain ⟨cd, e2, _⟩ := Option.map_eq_some_iff.mp hm
  rw [e2]
  rfl
theorem Parts.next (p : Parts K) (i : Nat) (hi : i < 52) : He.ga K (nameAt i) < He.ga K (nameAt (i + 1)) := of_decide_eq_true (List.all_eq_true.mp (b2 p.inc).2 i (List.mem_range.mpr hi))
theorem Parts.lt (p : Parts K) (i : Nat) : ∀ n : Nat, i + (n + 1) < 53 → He.ga K (nameAt i) < He.ga K (nameAt (i + (n + 1)))
  | 0, h => p.next i (by omega)
  | n + 1, h => Nat.lt_trans (p.lt i n (by omega)) (p.next (i + (n + 1)) (by omega))
theorem Parts.ne (p : Parts K) {i j : Nat} {c d : ClsD} (hi : clsL[i]? = some c) (hj : clsL[j]? = some d) (n : i ≠ j) : He.ga K c.name ≠ He.ga K d.name := by
  have li : i < 53 := (List.getElem?_eq_some_iff.mp hi).1
  have lj : j < 53 := (List.getElem?_eq_some_iff.mp hj).1
  rw [← nameAt_of hi, ← nameAt_of hj]
  rcases Nat.lt_or_gt_of_ne n with h | h
  · have z := p.lt i (j - i - 1) (by omega)
    rw [show i + (j - i - 1 + 1) = j by omega] at z
    exact Nat.ne_of_lt z
  · have z := p.lt j (i - j - 1) (by omega)
    rw [show j + (i - j - 1 + 1) = i by omega] at z
    exact Nat.ne_of_gt z
theorem Parts.cusNe (p : Parts K) {c : ClsD} (hc : c ∈ clsL) : He.ga K "CustomError" ≠ He.ga K c.name := by
  obtain ⟨i, hi⟩ := List.getElem?_of_mem hc
  have li : i < 53 := (List.getElem?_eq_some_iff.mp hi).1
  have h0 : He.ga K "CustomError" < He.ga K (nameAt 0) := of_decide_eq_true (b2 p.inc).1
  rw [← nameAt_of hi]
  match i, li with
  | 0, _ => exact Nat.ne_of_lt h0
  | n + 1, li =>
    have z := p.lt 0 n (by omega)
    rw [Nat.zero_add] at z
    exact Nat.ne_of_lt (Nat.lt_trans h0 z)
/-- the parts of one class with fields -/
structure IniF (K : PySem.W.Frag) (c : ClsD) : Prop where
  ox : OexC K (He.ga K c.name)
  xf : ExcF K (He.ga K c.name)
  fi : PySem.W.findIn K (.ref (He.ga K c.name)) "__init__" = some (some (.ref (He.ma K (He.ga K c.name) "__init__")))
  ty : PySem.W.typeIn K (.ref (He.ma K (He.ga K c.name) "__init__")) = some (.type "function")
  no : ∀ f ∈ c.fields, NoF K (He.ga K c.name) f
theorem iniB_ok {c : ClsD} (h : iniB K c = true) : IniF K c := by
  obtain ⟨h1, h⟩ := b2 h
  obtain ⟨h2, h⟩ := b2 h
  obtain ⟨h3, h⟩ := b2 h
  obtain ⟨h4, h5⟩ := b2 h
  have x := excB_ok h2
  exact ⟨⟨oexB_ok h1, x.sa, x.xf.exC, x.ty, x.kp⟩, x, of_decide_eq_true h3, of_decide_eq_true h4, fun f m => of_decide_eq_true (List.all_eq_true.mp h5 f m)⟩
theorem cls_parts {c : ClsD} (h : clsB K c = true) : PySem.W.nsIn K mainGlobals c.name = some (some (.ref (He.ga K c.name))) ∧ (PySem.W.clsIn K (He.ga K c.name)).map (·.mro) = some (.ref (He.ga K c.name) :: .ref (He.ga K "CustomError") :: He.veBase) ∧ ExcF K (He.ga K c.name) ∧
    (c.fields ≠ [] → IniF K c) ∧ (c.fields = [] → PySem.W.excIn K (He.ga K c.name) He.veBase "ValueError.__new__" = true) := by
  obtain ⟨h1, h⟩ := b2 h
  obtain ⟨h2, h⟩ := b2 h
  refine ⟨of_decide_eq_true h1, of_decide_eq_true h2, ?_⟩
  split at h
  · rename_i e
    obtain ⟨h3, h4⟩ := b2 h
    exact ⟨excB_ok h3, fun z => absurd e z, fun _ => h4⟩
  · rename_i e
    have i := iniB_ok h
    exact ⟨i.xf, fun _ => i, fun z => absurd z e⟩
theorem Parts.cusMro (p : Parts K) : (PySem.W.clsIn K (He.ga K "CustomError")).map (·.mro) = some (.ref (He.ga K "CustomError") :: He.veBase) := of_decide_eq_true (b2 (b2 (b2 p.cus).2).2).2
theorem Parts.pairs (p : Parts K) (i j : Nat) (c d : ClsD) (hi : clsL[i]? = some c) (hj : clsL[j]? = some d) : PySem.W.kitOne K (.ref (He.ga K c.name)) (.ref (He.ga K d.name)) = some (decide (i = j)) := by
  by_cases e : i = j
  · subst e
    have ed := Option.some.inj (hi.symm.trans hj)
    subst ed
    rw [kit_self, decide_eq_true rfl]
  · have pc := cls_parts (p.cls c (List.mem_of_getElem? hi))
    have pd := cls_parts (p.cls d (List.mem_of_getElem? hj))
    rw [kit_by pc.2.1 (some_of_map pd.2.1) pd.2.2.1.ty (p.ne hi hj e), decide_eq_false e]
    have n2 : ((Value.ref (He.ga K d.name)) == (Value.ref (He.ga K "CustomError"))) = false := beq_eq_false_iff_ne.mpr fun z => p.cusNe (List.mem_of_getElem? hj) (Value.ref.inj z).symm
    rw [List.contains_cons, n2, Bool.false_or]
    rfl
theorem Parts.inCus (p : Parts K) (c : ClsD) (hc : c ∈ clsL) : PySem.W.kitOne K (.ref (He.ga K c.name)) (.ref (He.ga K "CustomError")) = some true := by
  have pc := cls_parts (p.cls c hc)
  rw [kit_by pc.2.1 (some_of_map p.cusMro) (excB_ok (b2 (b2 p.cus).2).1).ty (Ne.symm (p.cusNe hc)), List.contains_cons, beq_self_eq_true, Bool.true_or]
theorem Parts.cusN (p : Parts K) (c : ClsD) (hc : c ∈ clsL) : PySem.W.kitOne K (.ref (He.ga K "CustomError")) (.ref (He.ga K c.name)) = some false := by
  have pc := cls_parts (p.cls c hc)
  rw [kit_by p.cusMro (some_of_map pc.2.1) pc.2.2.1.ty (p.cusNe hc)]
  rfl
end
section
variable {P : Program} {w : World} {K : PySem.W.Frag} {mg : Str → Option Value} {base : Heap}
def IniOk (P : Program) (w : World) (K : PySem.W.Frag) (mg : Str → Option Value) (base : Heap) (c : ClsD) : Prop := c.fields ≠ [] → ∃ (fd : FuncData),
  FnOk P w K mg base CX0 1 (He.ma K (He.ga K c.name) "__init__") fd ("self" :: c.fields) (spIni (He.ga K c.name) c.fields) ∧ ∃ ds, Vals [] ds ∧ Binds K fd ("self" :: c.fields) ds
theorem in_BadRecord (c : SaysM K) : IniOk P w K mg base ⟨"BadRecord", 2, ["index", "what"]⟩ := fun ne => by
  obtain ⟨fd, F⟩ := c.def_ 9 rfl
  have x := (cls_parts (c.parts.cls _ (List.mem_of_getElem? (i := 0) (a := (⟨"BadRecord", 2, ["index", "what"]⟩ : ClsD)) rfl))).2.2.2.1 ne
  exact ⟨fd, oi_BadRecord F x.ox (x.no "index" (List.mem_of_getElem? (i := 0) rfl)) (x.no "what" (List.mem_of_getElem? (i := 1) rfl)), [], .nil, FunD.bindsN (ps := ["self", "index", "what"]) F fun _ _ _ _ _ _ us hl => match us, hl with | [_, _, _], _ => rfl⟩
theorem in_NoPerson (c : SaysM K) : IniOk P w K mg base ⟨"NoPerson", 3, ["label"]⟩ := fun ne => by
  obtain ⟨fd, F⟩ := c.def_ 10 rfl
  have x := (cls_parts (c.parts.cls _ (List.mem_of_getElem? (i := 1) (a := (⟨"NoPerson", 3, ["label"]⟩ : ClsD)) rfl))).2.2.2.1 ne
  exact ⟨fd, oi_NoPerson F x.ox (x.no "label" (List.mem_of_getElem? (i := 0) rfl)), [], .nil, FunD.bindsN (ps := ["self", "label"]) F fun _ _ _ _ _ _ us hl => match us, hl with | [_, _], _ => rfl⟩
theorem in_BadWay (c : SaysM K) : IniOk P w K mg base ⟨"BadWay", 4, ["way"]⟩ := fun ne => by
  obtain ⟨fd, F⟩ := c.def_ 11 rfl
  have x := (cls_parts (c.parts.cls _ (List.mem_of_getElem? (i := 2) (a := (⟨"BadWay", 4, ["way"]⟩ : ClsD)) rfl))).2.2.2.1 ne
  exact ⟨fd, oi_BadWay F x.ox (x.no "way" (List.mem_of_getElem? (i := 0) rfl)), [], .nil, FunD.bindsN (ps := ["self", "way"]) F fun _ _ _ _ _ _ us hl => match us, hl with | [_, _], _ => rfl⟩
theorem in_NoRow (c : SaysM K) : IniOk P w K mg base ⟨"NoRow", 5, ["number"]⟩ := fun ne => by
  obtain ⟨fd, F⟩ := c.def_ 12 rfl
  have x := (cls_parts (c.parts.cls _ (List.mem_of_getElem? (i := 3) (a := (⟨"NoRow", 5, ["number"]⟩ : ClsD)) rfl))).2.2.2.1 ne
  exact ⟨fd, oi_NoRow F x.ox (x.no "number" (List.mem_of_getElem? (i := 0) rfl)), [], .nil, FunD.bindsN (ps := ["self", "number"]) F fun _ _ _ _ _ _ us hl => match us, hl with | [_, _], _ => rfl⟩
theorem in_BadWidth (c : SaysM K) : IniOk P w K mg base ⟨"BadWidth", 6, ["width"]⟩ := fun ne => by
  obtain ⟨fd, F⟩ := c.def_ 13 rfl
  have x := (cls_parts (c.parts.cls _ (List.mem_of_getElem? (i := 4) (a := (⟨"BadWidth", 6, ["width"]⟩ : ClsD)) rfl))).2.2.2.1 ne
  exact ⟨fd, oi_BadWidth F x.ox (x.no "width" (List.mem_of_getElem? (i := 0) rfl)), [], .nil, FunD.bindsN (ps := ["self", "width"]) F fun _ _ _ _ _ _ us hl => match us, hl with | [_, _], _ => rfl⟩
theorem in_BadText (c : SaysM K) : IniOk P w K mg base ⟨"BadText", 7, ["row", "what"]⟩ := fun ne => by
  obtain ⟨fd, F⟩ := c.def_ 14 rfl
  have x := (cls_parts (c.parts.cls _ (List.mem_of_getElem? (i := 5) (a := (⟨"BadText", 7, ["row", "what"]⟩ : ClsD)) rfl))).2.2.2.1 ne
  exact ⟨fd, oi_BadText F x.ox (x.no "row" (List.mem_of_getElem? (i := 0) rfl)) (x.no "what" (List.mem_of_getElem? (i := 1) rfl)), [], .nil, FunD.bindsN (ps := ["self", "row", "what"]) F fun _ _ _ _ _ _ us hl => match us, hl with | [_, _, _], _ => rfl⟩
theorem in_BadPairs (c : SaysM K) : IniOk P w K mg base ⟨"BadPairs", 8, ["what"]⟩ := fun ne => by
  obtain ⟨fd, F⟩ := c.def_ 15 rfl
  have x := (cls_parts (c.parts.cls _ (List.mem_of_getElem? (i := 6) (a := (⟨"BadPairs", 8, ["what"]⟩ : ClsD)) rfl))).2.2.2.1 ne
  exact ⟨fd, oi_BadPairs F x.ox (x.no "what" (List.mem_of_getElem? (i := 0) rfl)), [], .nil, FunD.bindsN (ps := ["self", "what"]) F fun _ _ _ _ _ _ us hl => match us, hl with | [_, _], _ => rfl⟩
theorem in_BadCondition (c : SaysM K) : IniOk P w K mg base ⟨"BadCondition", 9, ["what"]⟩ := fun ne => by
  obtain ⟨fd, F⟩ := c.def_ 16 rfl
  have x := (cls_parts (c.parts.cls _ (List.mem_of_getElem? (i := 7) (a := (⟨"BadCondition", 9, ["what"]⟩ : ClsD)) rfl))).2.2.2.1 ne
  exact ⟨fd, oi_BadCondition F x.ox (x.no "what" (List.mem_of_getElem? (i := 0) rfl)), [], .nil, FunD.bindsN (ps := ["self", "what"]) F fun _ _ _ _ _ _ us hl => match us, hl with | [_, _], _ => rfl⟩
theorem in_BadClause (c : SaysM K) : IniOk P w K mg base ⟨"BadClause", 10, ["index", "what"]⟩ := fun ne => by
  obtain ⟨fd, F⟩ := c.def_ 17 rfl
  have x := (cls_parts (c.parts.cls _ (List.mem_of_getElem? (i := 8) (a := (⟨"BadClause", 10, ["index", "what"]⟩ : ClsD)) rfl))).2.2.2.1 ne
  exact ⟨fd, oi_BadClause F x.ox (x.no "index" (List.mem_of_getElem? (i := 0) rfl)) (x.no "what" (List.mem_of_getElem? (i := 1) rfl)), [], .nil, FunD.bindsN (ps := ["self", "index", "what"]) F fun _ _ _ _ _ _ us hl => match us, hl with | [_, _, _], _ => rfl⟩
theorem in_BadCustom (c : SaysM K) : IniOk P w K mg base ⟨"BadCustom", 11, ["part", "index", "what"]⟩ := fun ne => by
  obtain ⟨fd, F⟩ := c.def_ 18 rfl
  have x := (cls_parts (c.parts.cls _ (List.mem_of_getElem? (i := 9) (a := (⟨"BadCustom", 11, ["part", "index", "what"]⟩ : ClsD)) rfl))).2.2.2.1 ne
  exact ⟨fd, oi_BadCustom F x.ox (x.no "part" (List.mem_of_getElem? (i := 0) rfl)) (x.no "index" (List.mem_of_getElem? (i := 1) rfl)) (x.no "what" (List.mem_of_getElem? (i := 2) rfl)), [], .nil, FunD.bindsN (ps := ["self", "part", "index", "what"]) F fun _ _ _ _ _ _ us hl => match us, hl with | [_, _, _, _], _ => rfl⟩
theorem in_BadKind (c : SaysM K) : IniOk P w K mg base ⟨"BadKind", 12, ["kind"]⟩ := fun ne => by
  obtain ⟨fd, F⟩ := c.def_ 19 rfl
  have x := (cls_parts (c.parts.cls _ (List.mem_of_getElem? (i := 10) (a := (⟨"BadKind", 12, ["kind"]⟩ : ClsD)) rfl))).2.2.2.1 ne
  exact ⟨fd, oi_BadKind F x.ox (x.no "kind" (List.mem_of_getElem? (i := 0) rfl)), [], .nil, FunD.bindsN (ps := ["self", "kind"]) F fun _ _ _ _ _ _ us hl => match us, hl with | [_, _], _ => rfl⟩
theorem in_TooWide (c : SaysM K) : IniOk P w K mg base ⟨"TooWide", 13, ["what"]⟩ := fun ne => by
  obtain ⟨fd, F⟩ := c.def_ 20 rfl
  have x := (cls_parts (c.parts.cls _ (List.mem_of_getElem? (i := 11) (a := (⟨"TooWide", 13, ["what"]⟩ : ClsD)) rfl))).2.2.2.1 ne
  exact ⟨fd, oi_TooWide F x.ox (x.no "what" (List.mem_of_getElem? (i := 0) rfl)), [], .nil, FunD.bindsN (ps := ["self", "what"]) F fun _ _ _ _ _ _ us hl => match us, hl with | [_, _], _ => rfl⟩
theorem in_BadChoice (c : SaysM K) : IniOk P w K mg base ⟨"BadChoice", 14, ["label", "name", "bar"]⟩ := fun ne => by
  obtain ⟨fd, F⟩ := c.def_ 21 rfl
  have x := (cls_parts (c.parts.cls _ (List.mem_of_getElem? (i := 12) (a := (⟨"BadChoice", 14, ["label", "name", "bar"]⟩ : ClsD)) rfl))).2.2.2.1 ne
  exact ⟨fd, oi_BadChoice F x.ox (x.no "label" (List.mem_of_getElem? (i := 0) rfl)) (x.no "name" (List.mem_of_getElem? (i := 1) rfl)) (x.no "bar" (List.mem_of_getElem? (i := 2) rfl)), [], .nil, FunD.bindsN (ps := ["self", "label", "name", "bar"]) F fun _ _ _ _ _ _ us hl => match us, hl with | [_, _, _, _], _ => rfl⟩
theorem in_NoCouple (c : SaysM K) : IniOk P w K mg base ⟨"NoCouple", 15, ["father", "mother"]⟩ := fun ne => by
  obtain ⟨fd, F⟩ := c.def_ 22 rfl
  have x := (cls_parts (c.parts.cls _ (List.mem_of_getElem? (i := 13) (a := (⟨"NoCouple", 15, ["father", "mother"]⟩ : ClsD)) rfl))).2.2.2.1 ne
  exact ⟨fd, oi_NoCouple F x.ox (x.no "father" (List.mem_of_getElem? (i := 0) rfl)) (x.no "mother" (List.mem_of_getElem? (i := 1) rfl)), [], .nil, FunD.bindsN (ps := ["self", "father", "mother"]) F fun _ _ _ _ _ _ us hl => match us, hl with | [_, _, _], _ => rfl⟩
theorem in_NoPlace (c : SaysM K) : IniOk P w K mg base ⟨"NoPlace", 16, ["what"]⟩ := fun ne => by
  obtain ⟨fd, F⟩ := c.def_ 23 rfl
  have x := (cls_parts (c.parts.cls _ (List.mem_of_getElem? (i := 14) (a := (⟨"NoPlace", 16, ["what"]⟩ : ClsD)) rfl))).2.2.2.1 ne
  exact ⟨fd, oi_NoPlace F x.ox (x.no "what" (List.mem_of_getElem? (i := 0) rfl)), [], .nil, FunD.bindsN (ps := ["self", "what"]) F fun _ _ _ _ _ _ us hl => match us, hl with | [_, _], _ => rfl⟩
theorem in_NoRoot (c : SaysM K) : IniOk P w K mg base ⟨"NoRoot", 17, ["root"]⟩ := fun ne => by
  obtain ⟨fd, F⟩ := c.def_ 24 rfl
  have x := (cls_parts (c.parts.cls _ (List.mem_of_getElem? (i := 15) (a := (⟨"NoRoot", 17, ["root"]⟩ : ClsD)) rfl))).2.2.2.1 ne
  exact ⟨fd, oi_NoRoot F x.ox (x.no "root" (List.mem_of_getElem? (i := 0) rfl)), [], .nil, FunD.bindsN (ps := ["self", "root"]) F fun _ _ _ _ _ _ us hl => match us, hl with | [_, _], _ => rfl⟩
theorem in_BadOrder (c : SaysM K) : IniOk P w K mg base ⟨"BadOrder", 18, ["position", "what"]⟩ := fun ne => by
  obtain ⟨fd, F⟩ := c.def_ 25 rfl
  have x := (cls_parts (c.parts.cls _ (List.mem_of_getElem? (i := 16) (a := (⟨"BadOrder", 18, ["position", "what"]⟩ : ClsD)) rfl))).2.2.2.1 ne
  exact ⟨fd, oi_BadOrder F x.ox (x.no "position" (List.mem_of_getElem? (i := 0) rfl)) (x.no "what" (List.mem_of_getElem? (i := 1) rfl)), [], .nil, FunD.bindsN (ps := ["self", "position", "what"]) F fun _ _ _ _ _ _ us hl => match us, hl with | [_, _, _], _ => rfl⟩
theorem in_BadPattern (c : SaysM K) : IniOk P w K mg base ⟨"BadPattern", 19, ["index", "what"]⟩ := fun ne => by
  obtain ⟨fd, F⟩ := c.def_ 26 rfl
  have x := (cls_parts (c.parts.cls _ (List.mem_of_getElem? (i := 17) (a := (⟨"BadPattern", 19, ["index", "what"]⟩ : ClsD)) rfl))).2.2.2.1 ne
  exact ⟨fd, oi_BadPattern F x.ox (x.no "index" (List.mem_of_getElem? (i := 0) rfl)) (x.no "what" (List.mem_of_getElem? (i := 1) rfl)), [], .nil, FunD.bindsN (ps := ["self", "index", "what"]) F fun _ _ _ _ _ _ us hl => match us, hl with | [_, _, _], _ => rfl⟩
theorem in_BadNames (c : SaysM K) : IniOk P w K mg base ⟨"BadNames", 20, ["index", "what"]⟩ := fun ne => by
  obtain ⟨fd, F⟩ := c.def_ 27 rfl
  have x := (cls_parts (c.parts.cls _ (List.mem_of_getElem? (i := 18) (a := (⟨"BadNames", 20, ["index", "what"]⟩ : ClsD)) rfl))).2.2.2.1 ne
  exact ⟨fd, oi_BadNames F x.ox (x.no "index" (List.mem_of_getElem? (i := 0) rfl)) (x.no "what" (List.mem_of_getElem? (i := 1) rfl)), [], .nil, FunD.bindsN (ps := ["self", "index", "what"]) F fun _ _ _ _ _ _ us hl => match us, hl with | [_, _, _], _ => rfl⟩
theorem in_BadPlaces (c : SaysM K) : IniOk P w K mg base ⟨"BadPlaces", 21, ["index", "what"]⟩ := fun ne => by
  obtain ⟨fd, F⟩ := c.def_ 28 rfl
  have x := (cls_parts (c.parts.cls _ (List.mem_of_getElem? (i := 19) (a := (⟨"BadPlaces", 21, ["index", "what"]⟩ : ClsD)) rfl))).2.2.2.1 ne
  exact ⟨fd, oi_BadPlaces F x.ox (x.no "index" (List.mem_of_getElem? (i := 0) rfl)) (x.no "what" (List.mem_of_getElem? (i := 1) rfl)), [], .nil, FunD.bindsN (ps := ["self", "index", "what"]) F fun _ _ _ _ _ _ us hl => match us, hl with | [_, _, _], _ => rfl⟩
theorem in_BadClass (c : SaysM K) : IniOk P w K mg base ⟨"BadClass", 22, ["number"]⟩ := fun ne => by
  obtain ⟨fd, F⟩ := c.def_ 29 rfl
  have x := (cls_parts (c.parts.cls _ (List.mem_of_getElem? (i := 20) (a := (⟨"BadClass", 22, ["number"]⟩ : ClsD)) rfl))).2.2.2.1 ne
  exact ⟨fd, oi_BadClass F x.ox (x.no "number" (List.mem_of_getElem? (i := 0) rfl)), [], .nil, FunD.bindsN (ps := ["self", "number"]) F fun _ _ _ _ _ _ us hl => match us, hl with | [_, _], _ => rfl⟩
theorem in_BadMatch (c : SaysM K) : IniOk P w K mg base ⟨"BadMatch", 23, ["what"]⟩ := fun ne => by
  obtain ⟨fd, F⟩ := c.def_ 30 rfl
  have x := (cls_parts (c.parts.cls _ (List.mem_of_getElem? (i := 21) (a := (⟨"BadMatch", 23, ["what"]⟩ : ClsD)) rfl))).2.2.2.1 ne
  exact ⟨fd, oi_BadMatch F x.ox (x.no "what" (List.mem_of_getElem? (i := 0) rfl)), [], .nil, FunD.bindsN (ps := ["self", "what"]) F fun _ _ _ _ _ _ us hl => match us, hl with | [_, _], _ => rfl⟩
theorem in_BadCount (c : SaysM K) : IniOk P w K mg base ⟨"BadCount", 24, ["number"]⟩ := fun ne => by
  obtain ⟨fd, F⟩ := c.def_ 31 rfl
  have x := (cls_parts (c.parts.cls _ (List.mem_of_getElem? (i := 22) (a := (⟨"BadCount", 24, ["number"]⟩ : ClsD)) rfl))).2.2.2.1 ne
  exact ⟨fd, oi_BadCount F x.ox (x.no "number" (List.mem_of_getElem? (i := 0) rfl)), [], .nil, FunD.bindsN (ps := ["self", "number"]) F fun _ _ _ _ _ _ us hl => match us, hl with | [_, _], _ => rfl⟩
theorem in_BadIndex (c : SaysM K) : IniOk P w K mg base ⟨"BadIndex", 25, ["index"]⟩ := fun ne => by
  obtain ⟨fd, F⟩ := c.def_ 32 rfl
  have x := (cls_parts (c.parts.cls _ (List.mem_of_getElem? (i := 23) (a := (⟨"BadIndex", 25, ["index"]⟩ : ClsD)) rfl))).2.2.2.1 ne
  exact ⟨fd, oi_BadIndex F x.ox (x.no "index" (List.mem_of_getElem? (i := 0) rfl)), [], .nil, FunD.bindsN (ps := ["self", "index"]) F fun _ _ _ _ _ _ us hl => match us, hl with | [_, _], _ => rfl⟩
theorem in_BadJoining (c : SaysM K) : IniOk P w K mg base ⟨"BadJoining", 26, ["index", "what"]⟩ := fun ne => by
  obtain ⟨fd, F⟩ := c.def_ 33 rfl
  have x := (cls_parts (c.parts.cls _ (List.mem_of_getElem? (i := 24) (a := (⟨"BadJoining", 26, ["index", "what"]⟩ : ClsD)) rfl))).2.2.2.1 ne
  exact ⟨fd, oi_BadJoining F x.ox (x.no "index" (List.mem_of_getElem? (i := 0) rfl)) (x.no "what" (List.mem_of_getElem? (i := 1) rfl)), [], .nil, FunD.bindsN (ps := ["self", "index", "what"]) F fun _ _ _ _ _ _ us hl => match us, hl with | [_, _, _], _ => rfl⟩
theorem in_NoRenaming (c : SaysM K) : IniOk P w K mg base ⟨"NoRenaming", 27, ["place"]⟩ := fun ne => by
  obtain ⟨fd, F⟩ := c.def_ 34 rfl
  have x := (cls_parts (c.parts.cls _ (List.mem_of_getElem? (i := 25) (a := (⟨"NoRenaming", 27, ["place"]⟩ : ClsD)) rfl))).2.2.2.1 ne
  exact ⟨fd, oi_NoRenaming F x.ox (x.no "place" (List.mem_of_getElem? (i := 0) rfl)), [], .nil, FunD.bindsN (ps := ["self", "place"]) F fun _ _ _ _ _ _ us hl => match us, hl with | [_, _], _ => rfl⟩
theorem in_BadScope (c : SaysM K) : IniOk P w K mg base ⟨"BadScope", 28, ["what"]⟩ := fun ne => by
  obtain ⟨fd, F⟩ := c.def_ 35 rfl
  have x := (cls_parts (c.parts.cls _ (List.mem_of_getElem? (i := 26) (a := (⟨"BadScope", 28, ["what"]⟩ : ClsD)) rfl))).2.2.2.1 ne
  exact ⟨fd, oi_BadScope F x.ox (x.no "what" (List.mem_of_getElem? (i := 0) rfl)), [], .nil, FunD.bindsN (ps := ["self", "what"]) F fun _ _ _ _ _ _ us hl => match us, hl with | [_, _], _ => rfl⟩
theorem in_BadState (c : SaysM K) : IniOk P w K mg base ⟨"BadState", 29, ["what"]⟩ := fun ne => by
  obtain ⟨fd, F⟩ := c.def_ 36 rfl
  have x := (cls_parts (c.parts.cls _ (List.mem_of_getElem? (i := 27) (a := (⟨"BadState", 29, ["what"]⟩ : ClsD)) rfl))).2.2.2.1 ne
  exact ⟨fd, oi_BadState F x.ox (x.no "what" (List.mem_of_getElem? (i := 0) rfl)), [], .nil, FunD.bindsN (ps := ["self", "what"]) F fun _ _ _ _ _ _ us hl => match us, hl with | [_, _], _ => rfl⟩
theorem in_BadTable (c : SaysM K) : IniOk P w K mg base ⟨"BadTable", 30, ["index", "what"]⟩ := fun ne => by
  obtain ⟨fd, F⟩ := c.def_ 37 rfl
  have x := (cls_parts (c.parts.cls _ (List.mem_of_getElem? (i := 28) (a := (⟨"BadTable", 30, ["index", "what"]⟩ : ClsD)) rfl))).2.2.2.1 ne
  exact ⟨fd, oi_BadTable F x.ox (x.no "index" (List.mem_of_getElem? (i := 0) rfl)) (x.no "what" (List.mem_of_getElem? (i := 1) rfl)), [], .nil, FunD.bindsN (ps := ["self", "index", "what"]) F fun _ _ _ _ _ _ us hl => match us, hl with | [_, _, _], _ => rfl⟩
theorem in_BadPlay (c : SaysM K) : IniOk P w K mg base ⟨"BadPlay", 31, ["index"]⟩ := fun ne => by
  obtain ⟨fd, F⟩ := c.def_ 38 rfl
  have x := (cls_parts (c.parts.cls _ (List.mem_of_getElem? (i := 29) (a := (⟨"BadPlay", 31, ["index"]⟩ : ClsD)) rfl))).2.2.2.1 ne
  exact ⟨fd, oi_BadPlay F x.ox (x.no "index" (List.mem_of_getElem? (i := 0) rfl)), [], .nil, FunD.bindsN (ps := ["self", "index"]) F fun _ _ _ _ _ _ us hl => match us, hl with | [_, _], _ => rfl⟩
theorem in_NeverComes (c : SaysM K) : IniOk P w K mg base ⟨"NeverComes", 32, ["state"]⟩ := fun ne => by
  obtain ⟨fd, F⟩ := c.def_ 39 rfl
  have x := (cls_parts (c.parts.cls _ (List.mem_of_getElem? (i := 30) (a := (⟨"NeverComes", 32, ["state"]⟩ : ClsD)) rfl))).2.2.2.1 ne
  exact ⟨fd, oi_NeverComes F x.ox (x.no "state" (List.mem_of_getElem? (i := 0) rfl)), [], .nil, FunD.bindsN (ps := ["self", "state"]) F fun _ _ _ _ _ _ us hl => match us, hl with | [_, _], _ => rfl⟩
theorem in_NotUnwed (c : SaysM K) : IniOk P w K mg base ⟨"NotUnwed", 33, ["label"]⟩ := fun ne => by
  obtain ⟨fd, F⟩ := c.def_ 40 rfl
  have x := (cls_parts (c.parts.cls _ (List.mem_of_getElem? (i := 31) (a := (⟨"NotUnwed", 33, ["label"]⟩ : ClsD)) rfl))).2.2.2.1 ne
  exact ⟨fd, oi_NotUnwed F x.ox (x.no "label" (List.mem_of_getElem? (i := 0) rfl)), [], .nil, FunD.bindsN (ps := ["self", "label"]) F fun _ _ _ _ _ _ us hl => match us, hl with | [_, _], _ => rfl⟩
theorem in_BadAsked (c : SaysM K) : IniOk P w K mg base ⟨"BadAsked", 34, ["what"]⟩ := fun ne => by
  obtain ⟨fd, F⟩ := c.def_ 41 rfl
  have x := (cls_parts (c.parts.cls _ (List.mem_of_getElem? (i := 32) (a := (⟨"BadAsked", 34, ["what"]⟩ : ClsD)) rfl))).2.2.2.1 ne
  exact ⟨fd, oi_BadAsked F x.ox (x.no "what" (List.mem_of_getElem? (i := 0) rfl)), [], .nil, FunD.bindsN (ps := ["self", "what"]) F fun _ _ _ _ _ _ us hl => match us, hl with | [_, _], _ => rfl⟩
theorem in_TooLong (c : SaysM K) : IniOk P w K mg base ⟨"TooLong", 35, ["times"]⟩ := fun ne => by
  obtain ⟨fd, F⟩ := c.def_ 42 rfl
  have x := (cls_parts (c.parts.cls _ (List.mem_of_getElem? (i := 33) (a := (⟨"TooLong", 35, ["times"]⟩ : ClsD)) rfl))).2.2.2.1 ne
  exact ⟨fd, oi_TooLong F x.ox (x.no "times" (List.mem_of_getElem? (i := 0) rfl)), [], .nil, FunD.bindsN (ps := ["self", "times"]) F fun _ _ _ _ _ _ us hl => match us, hl with | [_, _], _ => rfl⟩
theorem in_NoWays (c : SaysM K) : IniOk P w K mg base ⟨"NoWays", 36, ["what"]⟩ := fun ne => by
  obtain ⟨fd, F⟩ := c.def_ 43 rfl
  have x := (cls_parts (c.parts.cls _ (List.mem_of_getElem? (i := 34) (a := (⟨"NoWays", 36, ["what"]⟩ : ClsD)) rfl))).2.2.2.1 ne
  exact ⟨fd, oi_NoWays F x.ox (x.no "what" (List.mem_of_getElem? (i := 0) rfl)), [], .nil, FunD.bindsN (ps := ["self", "what"]) F fun _ _ _ _ _ _ us hl => match us, hl with | [_, _], _ => rfl⟩
theorem in_NoState (c : SaysM K) : IniOk P w K mg base ⟨"NoState", 37, ["state"]⟩ := fun ne => by
  obtain ⟨fd, F⟩ := c.def_ 44 rfl
  have x := (cls_parts (c.parts.cls _ (List.mem_of_getElem? (i := 35) (a := (⟨"NoState", 37, ["state"]⟩ : ClsD)) rfl))).2.2.2.1 ne
  exact ⟨fd, oi_NoState F x.ox (x.no "state" (List.mem_of_getElem? (i := 0) rfl)), [], .nil, FunD.bindsN (ps := ["self", "state"]) F fun _ _ _ _ _ _ us hl => match us, hl with | [_, _], _ => rfl⟩
theorem in_BadWord (c : SaysM K) : IniOk P w K mg base ⟨"BadWord", 38, ["word"]⟩ := fun ne => by
  obtain ⟨fd, F⟩ := c.def_ 45 rfl
  have x := (cls_parts (c.parts.cls _ (List.mem_of_getElem? (i := 36) (a := (⟨"BadWord", 38, ["word"]⟩ : ClsD)) rfl))).2.2.2.1 ne
  exact ⟨fd, oi_BadWord F x.ox (x.no "word" (List.mem_of_getElem? (i := 0) rfl)), [], .nil, FunD.bindsN (ps := ["self", "word"]) F fun _ _ _ _ _ _ us hl => match us, hl with | [_, _], _ => rfl⟩
theorem in_BadLength (c : SaysM K) : IniOk P w K mg base ⟨"BadLength", 39, ["length"]⟩ := fun ne => by
  obtain ⟨fd, F⟩ := c.def_ 46 rfl
  have x := (cls_parts (c.parts.cls _ (List.mem_of_getElem? (i := 37) (a := (⟨"BadLength", 39, ["length"]⟩ : ClsD)) rfl))).2.2.2.1 ne
  exact ⟨fd, oi_BadLength F x.ox (x.no "length" (List.mem_of_getElem? (i := 0) rfl)), [], .nil, FunD.bindsN (ps := ["self", "length"]) F fun _ _ _ _ _ _ us hl => match us, hl with | [_, _], _ => rfl⟩
theorem in_BadOrigin (c : SaysM K) : IniOk P w K mg base ⟨"BadOrigin", 40, ["origin"]⟩ := fun ne => by
  obtain ⟨fd, F⟩ := c.def_ 47 rfl
  have x := (cls_parts (c.parts.cls _ (List.mem_of_getElem? (i := 38) (a := (⟨"BadOrigin", 40, ["origin"]⟩ : ClsD)) rfl))).2.2.2.1 ne
  exact ⟨fd, oi_BadOrigin F x.ox (x.no "origin" (List.mem_of_getElem? (i := 0) rfl)), [], .nil, FunD.bindsN (ps := ["self", "origin"]) F fun _ _ _ _ _ _ us hl => match us, hl with | [_, _], _ => rfl⟩
theorem in_NotLet (c : SaysM K) : IniOk P w K mg base ⟨"NotLet", 41, ["one", "other"]⟩ := fun ne => by
  obtain ⟨fd, F⟩ := c.def_ 48 rfl
  have x := (cls_parts (c.parts.cls _ (List.mem_of_getElem? (i := 39) (a := (⟨"NotLet", 41, ["one", "other"]⟩ : ClsD)) rfl))).2.2.2.1 ne
  refine ⟨fd, oi_NotLet F x.ox (x.no "one" (List.mem_of_getElem? (i := 0) rfl)) (x.no "other" (List.mem_of_getElem? (i := 1) rfl)), ?_⟩
  exact FunD.binds1 (ps := ["self", "one", "other"]) F 3 1 (List.cons_ne_nil _ _) rfl fun T kV doc pm an cdv ct us its h1 h2 => match us, h1, its, h2 with | [_, _, _], _, [_], _ => ⟨_, rfl, rfl⟩
theorem in_BadNumber (c : SaysM K) : IniOk P w K mg base ⟨"BadNumber", 42, ["number"]⟩ := fun ne => by
  obtain ⟨fd, F⟩ := c.def_ 49 rfl
  have x := (cls_parts (c.parts.cls _ (List.mem_of_getElem? (i := 40) (a := (⟨"BadNumber", 42, ["number"]⟩ : ClsD)) rfl))).2.2.2.1 ne
  exact ⟨fd, oi_BadNumber F x.ox (x.no "number" (List.mem_of_getElem? (i := 0) rfl)), [], .nil, FunD.bindsN (ps := ["self", "number"]) F fun _ _ _ _ _ _ us hl => match us, hl with | [_, _], _ => rfl⟩
theorem in_BadLine (c : SaysM K) : IniOk P w K mg base ⟨"BadLine", 43, ["index", "what"]⟩ := fun ne => by
  obtain ⟨fd, F⟩ := c.def_ 50 rfl
  have x := (cls_parts (c.parts.cls _ (List.mem_of_getElem? (i := 41) (a := (⟨"BadLine", 43, ["index", "what"]⟩ : ClsD)) rfl))).2.2.2.1 ne
  exact ⟨fd, oi_BadLine F x.ox (x.no "index" (List.mem_of_getElem? (i := 0) rfl)) (x.no "what" (List.mem_of_getElem? (i := 1) rfl)), [], .nil, FunD.bindsN (ps := ["self", "index", "what"]) F fun _ _ _ _ _ _ us hl => match us, hl with | [_, _, _], _ => rfl⟩
theorem in_BadGeneration (c : SaysM K) : IniOk P w K mg base ⟨"BadGeneration", 44, ["n"]⟩ := fun ne => by
  obtain ⟨fd, F⟩ := c.def_ 51 rfl
  have x := (cls_parts (c.parts.cls _ (List.mem_of_getElem? (i := 42) (a := (⟨"BadGeneration", 44, ["n"]⟩ : ClsD)) rfl))).2.2.2.1 ne
  exact ⟨fd, oi_BadGeneration F x.ox (x.no "n" (List.mem_of_getElem? (i := 0) rfl)), [], .nil, FunD.bindsN (ps := ["self", "n"]) F fun _ _ _ _ _ _ us hl => match us, hl with | [_, _], _ => rfl⟩
theorem in_UnlikePlans (c : SaysM K) : IniOk P w K mg base ⟨"UnlikePlans", 45, []⟩ := fun ne => by
  exact absurd rfl ne
theorem in_BadPair (c : SaysM K) : IniOk P w K mg base ⟨"BadPair", 46, ["index", "what"]⟩ := fun ne => by
  obtain ⟨fd, F⟩ := c.def_ 52 rfl
  have x := (cls_parts (c.parts.cls _ (List.mem_of_getElem? (i := 44) (a := (⟨"BadPair", 46, ["index", "what"]⟩ : ClsD)) rfl))).2.2.2.1 ne
  exact ⟨fd, oi_BadPair F x.ox (x.no "index" (List.mem_of_getElem? (i := 0) rfl)) (x.no "what" (List.mem_of_getElem? (i := 1) rfl)), [], .nil, FunD.bindsN (ps := ["self", "index", "what"]) F fun _ _ _ _ _ _ us hl => match us, hl with | [_, _, _], _ => rfl⟩
theorem in_BadLand (c : SaysM K) : IniOk P w K mg base ⟨"BadLand", 47, ["what"]⟩ := fun ne => by
  obtain ⟨fd, F⟩ := c.def_ 53 rfl
  have x := (cls_parts (c.parts.cls _ (List.mem_of_getElem? (i := 45) (a := (⟨"BadLand", 47, ["what"]⟩ : ClsD)) rfl))).2.2.2.1 ne
  exact ⟨fd, oi_BadLand F x.ox (x.no "what" (List.mem_of_getElem? (i := 0) rfl)), [], .nil, FunD.bindsN (ps := ["self", "what"]) F fun _ _ _ _ _ _ us hl => match us, hl with | [_, _], _ => rfl⟩
theorem in_BadSecond (c : SaysM K) : IniOk P w K mg base ⟨"BadSecond", 48, ["index", "what"]⟩ := fun ne => by
  obtain ⟨fd, F⟩ := c.def_ 54 rfl
  have x := (cls_parts (c.parts.cls _ (List.mem_of_getElem? (i := 46) (a := (⟨"BadSecond", 48, ["index", "what"]⟩ : ClsD)) rfl))).2.2.2.1 ne
  exact ⟨fd, oi_BadSecond F x.ox (x.no "index" (List.mem_of_getElem? (i := 0) rfl)) (x.no "what" (List.mem_of_getElem? (i := 1) rfl)), [], .nil, FunD.bindsN (ps := ["self", "index", "what"]) F fun _ _ _ _ _ _ us hl => match us, hl with | [_, _, _], _ => rfl⟩
theorem in_BadPage (c : SaysM K) : IniOk P w K mg base ⟨"BadPage", 49, ["index", "what"]⟩ := fun ne => by
  obtain ⟨fd, F⟩ := c.def_ 55 rfl
  have x := (cls_parts (c.parts.cls _ (List.mem_of_getElem? (i := 47) (a := (⟨"BadPage", 49, ["index", "what"]⟩ : ClsD)) rfl))).2.2.2.1 ne
  exact ⟨fd, oi_BadPage F x.ox (x.no "index" (List.mem_of_getElem? (i := 0) rfl)) (x.no "what" (List.mem_of_getElem? (i := 1) rfl)), [], .nil, FunD.bindsN (ps := ["self", "index", "what"]) F fun _ _ _ _ _ _ us hl => match us, hl with | [_, _, _], _ => rfl⟩
theorem in_BadSeen (c : SaysM K) : IniOk P w K mg base ⟨"BadSeen", 50, ["index", "what"]⟩ := fun ne => by
  obtain ⟨fd, F⟩ := c.def_ 56 rfl
  have x := (cls_parts (c.parts.cls _ (List.mem_of_getElem? (i := 48) (a := (⟨"BadSeen", 50, ["index", "what"]⟩ : ClsD)) rfl))).2.2.2.1 ne
  exact ⟨fd, oi_BadSeen F x.ox (x.no "index" (List.mem_of_getElem? (i := 0) rfl)) (x.no "what" (List.mem_of_getElem? (i := 1) rfl)), [], .nil, FunD.bindsN (ps := ["self", "index", "what"]) F fun _ _ _ _ _ _ us hl => match us, hl with | [_, _, _], _ => rfl⟩
theorem in_BadFilling (c : SaysM K) : IniOk P w K mg base ⟨"BadFilling", 51, ["what"]⟩ := fun ne => by
  obtain ⟨fd, F⟩ := c.def_ 57 rfl
  have x := (cls_parts (c.parts.cls _ (List.mem_of_getElem? (i := 49) (a := (⟨"BadFilling", 51, ["what"]⟩ : ClsD)) rfl))).2.2.2.1 ne
  exact ⟨fd, oi_BadFilling F x.ox (x.no "what" (List.mem_of_getElem? (i := 0) rfl)), [], .nil, FunD.bindsN (ps := ["self", "what"]) F fun _ _ _ _ _ _ us hl => match us, hl with | [_, _], _ => rfl⟩
theorem in_BadNotice (c : SaysM K) : IniOk P w K mg base ⟨"BadNotice", 52, ["what"]⟩ := fun ne => by
  obtain ⟨fd, F⟩ := c.def_ 58 rfl
  have x := (cls_parts (c.parts.cls _ (List.mem_of_getElem? (i := 50) (a := (⟨"BadNotice", 52, ["what"]⟩ : ClsD)) rfl))).2.2.2.1 ne
  exact ⟨fd, oi_BadNotice F x.ox (x.no "what" (List.mem_of_getElem? (i := 0) rfl)), [], .nil, FunD.bindsN (ps := ["self", "what"]) F fun _ _ _ _ _ _ us hl => match us, hl with | [_, _], _ => rfl⟩
theorem in_BadChange (c : SaysM K) : IniOk P w K mg base ⟨"BadChange", 53, ["index", "what"]⟩ := fun ne => by
  obtain ⟨fd, F⟩ := c.def_ 59 rfl
  have x := (cls_parts (c.parts.cls _ (List.mem_of_getElem? (i := 51) (a := (⟨"BadChange", 53, ["index", "what"]⟩ : ClsD)) rfl))).2.2.2.1 ne
  exact ⟨fd, oi_BadChange F x.ox (x.no "index" (List.mem_of_getElem? (i := 0) rfl)) (x.no "what" (List.mem_of_getElem? (i := 1) rfl)), [], .nil, FunD.bindsN (ps := ["self", "index", "what"]) F fun _ _ _ _ _ _ us hl => match us, hl with | [_, _, _], _ => rfl⟩
theorem in_BadPrices (c : SaysM K) : IniOk P w K mg base ⟨"BadPrices", 54, ["index"]⟩ := fun ne => by
  obtain ⟨fd, F⟩ := c.def_ 60 rfl
  have x := (cls_parts (c.parts.cls _ (List.mem_of_getElem? (i := 52) (a := (⟨"BadPrices", 54, ["index"]⟩ : ClsD)) rfl))).2.2.2.1 ne
  exact ⟨fd, oi_BadPrices F x.ox (x.no "index" (List.mem_of_getElem? (i := 0) rfl)), [], .nil, FunD.bindsN (ps := ["self", "index"]) F fun _ _ _ _ _ _ us hl => match us, hl with | [_, _], _ => rfl⟩
theorem inis (c : SaysM K) : ∀ d ∈ clsL, IniOk P w K mg base d := by
  intro d hd
  have z : d ∈ clsL := hd
  unfold clsL at z
  simp only [List.mem_cons, List.not_mem_nil, or_false] at z
  rcases z with rfl | rfl | rfl | rfl | rfl | rfl | rfl | rfl | rfl | rfl | rfl | rfl | rfl | rfl | rfl | rfl | rfl | rfl | rfl | rfl | rfl | rfl | rfl | rfl | rfl | rfl | rfl | rfl | rfl | rfl | rfl | rfl | rfl | rfl | rfl | rfl | rfl | rfl | rfl | rfl | rfl | rfl | rfl | rfl | rfl | rfl | rfl | rfl | rfl | rfl | rfl | rfl | rfl
  · exact in_BadRecord c
  · exact in_NoPerson c
  · exact in_BadWay c
  · exact in_NoRow c
  · exact in_BadWidth c
  · exact in_BadText c
  · exact in_BadPairs c
  · exact in_BadCondition c
  · exact in_BadClause c
  · exact in_BadCustom c
  · exact in_BadKind c
  · exact in_TooWide c
  · exact in_BadChoice c
  · exact in_NoCouple c
  · exact in_NoPlace c
  · exact in_NoRoot c
  · exact in_BadOrder c
  · exact in_BadPattern c
  · exact in_BadNames c
  · exact in_BadPlaces c
  · exact in_BadClass c
  · exact in_BadMatch c
  · exact in_BadCount c
  · exact in_BadIndex c
  · exact in_BadJoining c
  · exact in_NoRenaming c
  · exact in_BadScope c
  · exact in_BadState c
  · exact in_BadTable c
  · exact in_BadPlay c
  · exact in_NeverComes c
  · exact in_NotUnwed c
  · exact in_BadAsked c
  · exact in_TooLong c
  · exact in_NoWays c
  · exact in_NoState c
  · exact in_BadWord c
  · exact in_BadLength c
  · exact in_BadOrigin c
  · exact in_NotLet c
  · exact in_BadNumber c
  · exact in_BadLine c
  · exact in_BadGeneration c
  · exact in_UnlikePlans c
  · exact in_BadPair c
  · exact in_BadLand c
  · exact in_BadSecond c
  · exact in_BadPage c
  · exact in_BadSeen c
  · exact in_BadFilling c
  · exact in_BadNotice c
  · exact in_BadChange c
  · exact in_BadPrices c
theorem cf (X : K.In base) (G : base.Ns mainGlobals mg) (c : SaysM K) : ∀ d ∈ clsL, CF P w K mg base d := fun d hd => by
  obtain ⟨h1, h2, h3, h4, h5⟩ := cls_parts (c.parts.cls d hd)
  have hi := inis (P := P) (w := w) (mg := mg) (base := base) c d hd
  refine ⟨PySem.W.mg_of X G h1, h3.kp, h3.xc c.parts.dun, h3.xf, ?_, ?_, h5⟩
  · intro f hf
    exact (h4 (List.ne_nil_of_mem hf)).no f hf
  · intro ne
    obtain ⟨fd, k1, k2⟩ := hi ne
    exact ⟨(h4 ne).ox, _, fd, (h4 ne).fi, (h4 ne).ty, k1, k2⟩
theorem facts_of (X : K.In base) (G : base.Ns mainGlobals mg) (c : SaysM K) : Facts P w K mg base := by
  have p := c.parts
  obtain ⟨u1, u⟩ := b2 p.cus
  obtain ⟨u2, u⟩ := b2 u
  obtain ⟨u3, u4⟩ := b2 u
  have hx := excB_ok u2
  refine ⟨PySem.W.mg_none_of X G (p.free "len" (by decide +kernel)), PySem.W.mg_none_of X G (p.free "range" (by decide +kernel)), PySem.W.mg_none_of X G (p.free "isinstance" (by decide +kernel)), PySem.W.mg_none_of X G (p.free "ValueError" (by decide +kernel)),
    cf X G c, p.pairs, p.inCus, fun d hd => (cls_parts (p.cls d hd)).2.2.1.va, PySem.W.mg_of X G (of_decide_eq_true u1), hx.kp, hx.xc p.dun, u3, hx.va, p.cusN, ?_⟩
  obtain ⟨fd, F⟩ := c.def_ 48 rfl
  have x := (cls_parts (p.cls _ (List.mem_of_getElem? (i := 39) (a := (⟨"NotLet", 41, ["one", "other"]⟩ : ClsD)) rfl))).2.2.2.1 (List.cons_ne_nil _ _)
  obtain ⟨ds, v, b⟩ := FunD.binds1 (ps := ["self", "one", "other"]) F 2 0 (List.cons_ne_nil _ _) rfl fun T kV doc pm an cdv ct us its h1 h2 => match us, h1, its, h2 with | [_, _], _, [_], _ => ⟨_, rfl, rfl⟩
  exact ⟨_, fd, ds, x.fi, x.ty, oi_NotLet F x.ox (x.no "one" (List.mem_of_getElem? (i := 0) rfl)) (x.no "other" (List.mem_of_getElem? (i := 1) rfl)), v, b⟩
theorem facts {h : Heap} {f : Addr} (X : K.In h) (G : h.Ns mainGlobals mg) (hfa : mg ("law" : Str) = some (.ref f)) (c : SaysM K) :
    ∃ fd : FuncData, (∀ (s : Shared) (v : Value), BindsTo s fd ⟨[v], []⟩ [("_law_script", v)]) ∧ ∀ base : Heap, K.In base → base.Ns mainGlobals mg → FnOk P w K mg base CX0 5 f fd ["_law_script"] (spLaw K) := by
  have p := c.parts
  obtain ⟨fd0, F0⟩ := c.def_ 0 rfl
  obtain ⟨fd1, F1⟩ := c.def_ 1 rfl
  obtain ⟨fd2, F2⟩ := c.def_ 2 rfl
  obtain ⟨fd3, F3⟩ := c.def_ 3 rfl
  obtain ⟨fd4, F4⟩ := c.def_ 4 rfl
  obtain ⟨fd5, F5⟩ := c.def_ 5 rfl
  obtain ⟨fd6, F6⟩ := c.def_ 6 rfl
  obtain ⟨fd7, F7⟩ := c.def_ 7 rfl
  obtain ⟨fd8, F8⟩ := c.def_ 8 rfl
  have gg : ∀ x ∈ glob, mg x = some (.ref (He.ga K x)) := fun x m => PySem.W.mg_of X G (p.glob x m)
  have fr : ∀ x ∈ free, mg x = none := fun x m => PySem.W.mg_none_of X G (p.free x m)
  have e := hfa.symm.trans (gg "law" (by decide +kernel))
  cases e
  have b1 : Binds K fd1 ["_law_script"] [] := FunD.bindsN F1 fun _ _ _ _ _ _ us hl => match us, hl with | [_], _ => rfl
  have b2' : Binds K fd2 ["_law_hand_here", "_law_many"] [] := FunD.bindsN F2 fun _ _ _ _ _ _ us hl => match us, hl with | [_, _], _ => rfl
  have b3 : Binds K fd3 ["_law_hand_here", "_law_things"] [] := FunD.bindsN F3 fun _ _ _ _ _ _ us hl => match us, hl with | [_, _], _ => rfl
  have b4 : Binds K fd4 ["_law_hand_here"] [] := FunD.bindsN F4 fun _ _ _ _ _ _ us hl => match us, hl with | [_], _ => rfl
  have b5 : Binds K fd5 ["_law_error"] [] := FunD.bindsN F5 fun _ _ _ _ _ _ us hl => match us, hl with | [_], _ => rfl
  have b6 : Binds K fd6 ["_law_things"] [] := FunD.bindsN F6 fun _ _ _ _ _ _ us hl => match us, hl with | [_], _ => rfl
  have b7 : Binds K fd7 ["_law_made_here"] [] := FunD.bindsN F7 fun _ _ _ _ _ _ us hl => match us, hl with | [_], _ => rfl
  have b8 := FunD.bindsA (ps := ["_law_script"]) F8 fun _ _ _ _ _ _ us hl => match us, hl with | [_], _ => rfl
  refine ⟨fd8, fun s v => b8 s [v] rfl, fun base KX KG => ?_⟩
  have gD := gg "_law_draw" (by decide +kernel)
  have okD : FnOk P w K mg base CX0 2 _ fd2 ["_law_hand_here", "_law_many"] spDraw := ok_draw F2 (fr "int" (by decide +kernel)) (fr "len" (by decide +kernel)) F0 (gg "_law_mix" (by decide +kernel))
  have okP : FnOk P w K mg base CX0 3 _ fd3 ["_law_hand_here", "_law_things"] (spPick K) := ok_pick F3 (fr "len" (by decide +kernel)) okD b2' F2.kp gD
  exact ok_law F8 (facts_of KX KG c)
    ⟨gg "_law_hand" (by decide +kernel), ok_hand F1 (fr "int" (by decide +kernel)) (fr "abs" (by decide +kernel)) (fr "enumerate" (by decide +kernel)), b1, F1.kp⟩
    ⟨gg "_law_thing" (by decide +kernel), ok_thing F4 okD b2' F2.kp gD okP b3 F3.kp (gg "_law_pick" (by decide +kernel)), b4, F4.kp⟩
    ⟨gg "_law_made" (by decide +kernel), ok_made F6 (cf KX KG c), b6, F6.kp⟩
    ⟨gg "_law_kinds" (by decide +kernel), ok_kinds F5 (fr "isinstance" (by decide +kernel)) (fun d hd => (cf (P := P) (w := w) KX KG c d hd).gl), b5, F5.kp⟩
    ⟨gg "_law_fields" (by decide +kernel), ok_fields F7 (cf KX KG c), b7, F7.kp⟩
end
end K00
open PySem PySem.W PySem.Calls PyProof.Rows
set_option maxRecDepth 100000 in
set_option maxHeartbeats 0 in
theorem PySem.Challenge.cw_namesakes_k00_errors_side_by_side_holds : PySem.Challenge.rw_namesakes_k00_errors_side_by_side.Holds := by
  w_on; o_law
  refine HandSHeadRun.head_any (r := OpenLaw.row PySem.Challenge.rw_namesakes_k00_errors_side_by_side) (q := view (OpenLaw.row PySem.Challenge.rw_namesakes_k00_errors_side_by_side).prog [64]) (H := K00.hookM) (ob := K00.ob) (M := 20000) (loose := K00.looseL)
    (d := HandSHeadRun.topDef (OpenLaw.row PySem.Challenge.rw_namesakes_k00_errors_side_by_side).prog 64) (kwd := []) K00.ob_eq
    (by kernel_rfl) (fun s => by kernel_rfl) K00.run (by kernel_rfl) (by kernel_rfl) (by kernel_rfl) (by rfl) (by first | assumption | decide +kernel) (by decide +kernel) ⟨rfl, rfl, rfl, rfl, rfl, by decide +kernel⟩ ?hw ?hc
  case hw => w_witness2
  case hc =>
    refine L2.walk_ofE (l := PySem.Challenge.rw_namesakes_k00_errors_side_by_side) (n := 63) (k := 5) (x := "_law_script") (CX := L2.CX0) rfl (by decide) (by kernel_rfl) ⟨rfl, by decide, by decide⟩ ?F (fun _ _ _ _ z => z)
    intro w mg fa h Y G hmg0
    obtain ⟨K, KX, c⟩ := Y
    have hmg : mg ("law" : PySem.Str) = some (.ref fa) := by
      have e : (HandSHeadRun.topDef (OpenLaw.row PySem.Challenge.rw_namesakes_k00_errors_side_by_side).prog 64).name = ("law" : PySem.Str) := by kernel_rfl
      rw [← e]
      exact hmg0
    obtain ⟨fd, hb, hF⟩ := K00.facts (P := (PySem.Challenge.rw_namesakes_k00_errors_side_by_side).prog) (w := w) KX G hmg c
    exact ⟨K, fd, K00.spLaw K, KX, hb, fun H a ns hl _ hS => ⟨a, ns, rfl, hS, hl, fun _ => rfl⟩, hF⟩
