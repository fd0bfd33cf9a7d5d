import PyProof.Rows.All
import Wide.All
import OpenK.AllK
import Wide.FinOn
import HandS.ForMost
import HandS.IsInst
import HandS.Style
import HandS.Flow
import HandS.Codes
import HandS.Walk
import HandS.TupAny
import PySem.Challenge.RW_ringlessday_k00_errors_by_themselves
import KE.KStateDown
import HandS.Head0
import HandS.Head1
import HandS.Head2
import HandS.HeadEnd
import HandS.HeadHook1
import HandS.HeadHook2
import HandS.Exc
import HandS.ExcInit
import HandS.ExcField
import HandS.ExcIs
import HandS.TryMany
import HandS.Defaults
import KE.KExcInit
import KE.KExcIs
import HandS.Zip
set_option Elab.async false
set_option linter.all false
set_option maxRecDepth 100000
namespace Rd
open PySem PySem.Spec PyProof.Rows L2
def topS (i : Nat) : Stmt := PySem.Challenge.pw_ringlessday_k00_errors_by_themselves.main.body.getD i (.Pass ⟨0, 0, 0, 0⟩)
def inS (i : Nat) : Stmt := match topS i with
  | .ClassDef (body := b) .. => b.headD (.Pass ⟨0, 0, 0, 0⟩)
  | s => s
end Rd
set_option maxHeartbeats 0
namespace Rd
open PySem PySem.Spec PyProof.Rows L2
abbrev sq_law_bag : Stmt := topS 42
abbrev sq_law_draw : Stmt := topS 43
abbrev sq_law_of : Stmt := topS 44
abbrev sq_law_same : Stmt := topS 45
abbrev sq_law_fields : Stmt := topS 46
abbrev sq_law_by_name : Stmt := topS 47
abbrev sq_law_by_place : Stmt := topS 48
abbrev sq_law_codes : Stmt := topS 49
abbrev sq_law_classes : Stmt := topS 50
abbrev sq_law_caught : Stmt := topS 51
abbrev sq_law : Stmt := topS 52
def excB (K : PySem.W.Frag) (D : Addr) : Bool := decide (PySem.W.findIn K (.ref D) "__getattribute__" = some (some (.builtin "BaseException.__getattribute__"))) && (decide (PySem.W.findIn K (.ref D) "__getattr__" = some none) && (decide (PySem.W.subIn K (.ref D) (.type "BaseException") = some true) && (PySem.W.hasDictIn K D &&
  (decide (PySem.W.findIn K (.ref D) "__class__" = some (some (.builtin "object.__class__"))) && (decide (PySem.W.specialIn K (.builtin "object.__class__") "__get__" = some (some (.builtin "getset_descriptor.__get__"))) && (decide (PySem.W.takesIn K (.builtin "object.__class__") = some true) && decide (PySem.W.mroIn K D (.type "object") = some true)))))))
def xB (K : PySem.W.Frag) (C f : Addr) (bmB : List Value) (newId : String) (nm : List Str) : Bool := PySem.W.excInitIn K C bmB newId && (PySem.W.excOver K C bmB && (PySem.W.hasDictIn K C && (decide (PySem.W.findIn K (.ref C) "__setattr__" = some (some (.builtin "object.__setattr__"))) && (PySem.W.keepIn K (.ref C) &&
  (xfB K C && (excB K C && (decide (PySem.W.typeIn K (.ref f) = some (.type "function")) && (nm.all (fun n => decide (PySem.W.findIn K (.ref C) n = some none)) && decide (PySem.W.typeIn K (.ref C) = some (.type "type"))))))))))
def kitAll (K : PySem.W.Frag) (cs : List Addr) : Bool := (List.range cs.length).all fun k => (List.range cs.length).all fun j => decide (PySem.W.kitOne K (.ref (cs.getD k 0)) (.ref (cs.getD j 0)) = some (decide (j = k)))
def baseAll (K : PySem.W.Frag) (cs : List Addr) (v : Value) (p : Nat → Bool) : Bool := (List.range cs.length).all fun k => decide (PySem.W.kitOne K (.ref (cs.getD k 0)) v = some (p k))
abbrev AlB : Type := He.AlD × Bool
def obsB (n : Nat) (fa : List He.Fa) (fn : List He.DefD) (ex : PySem.W.Frag → Bool) (g : Addr → Option Obj) : AlB := (He.obsD fa fn (He.frG g (He.asD g n)), ex (He.frG g (He.asD g n)))
def hookB (n : Nat) (fa : List He.Fa) (fn : List He.DefD) (ex : PySem.W.Frag → Bool) : PySem.W.Hook where
  α := AlB
  obs := fun s => obsB n fa fn ex s.heap.get?
  val := fun _ => (He.valD fn, true)
  says := fun _ h => ∃ K : PySem.W.Frag, K.In h ∧ He.SaysD fa fn K ∧ ex K = true
  of := fun _ _ e => ⟨_, He.frG_in, congrArg (fun z : AlB => z.1) e, congrArg (fun z : AlB => z.2) e⟩
  keeps := fun _ _ _ ⟨K, hK, c⟩ k => ⟨K, PySem.W.Frag.In.keeps hK k, c⟩
def xB2 (K : PySem.W.Frag) (r : Str × List Value × String × List Str) : Bool := He.eqO (PySem.W.findIn K (.ref (He.ga K r.1)) "__init__") (some (some (.ref (He.ma K (He.ga K r.1) "__init__")))) && xB K (He.ga K r.1) (He.ma K (He.ga K r.1) "__init__") r.2.1 r.2.2.1 r.2.2.2
def exN : List Str := (["InvalidName", "InvalidNumber", "InvalidSection", "InvalidTimes", "InvalidStep", "InvalidStanding", "InvalidRow", "InvalidTable", "InvalidDelays", "InvalidPeriod"] : List Str) ++ ((["InvalidHeights", "InvalidDeed", "InvalidTurn", "InvalidWait", "InvalidWish", "InvalidJourney", "InvalidText", "DuplicateName", "InUse", "TakenEnd"] : List Str) ++ ((["LooseEnd", "TooMany", "MisplacedStep", "OwnRing", "Refused", "Lacking", "Unready", "Finished", "Barred", "NoDay"] : List Str) ++ ((["Doomed", "NeverCleared", "NoPeriod", "TooShort", "UnknownName", "UnknownEnd", "UnknownEntry", "NothingLeft"] : List Str))))
def exR : List (Str × List Value × String × List Str) := ([("InvalidName", [.type "ValueError", .type "Exception", .type "BaseException", .type "object"], "ValueError.__new__", ["value", "code"]), ("InvalidNumber", [.type "ValueError", .type "Exception", .type "BaseException", .type "object"], "ValueError.__new__", ["value", "code"]), ("InvalidSection", [.type "ValueError", .type "Exception", .type "BaseException", .type "object"], "ValueError.__new__", ["value", "code"]), ("InvalidTimes", [.type "ValueError", .type "Exception", .type "BaseException", .type "object"], "ValueError.__new__", ["value", "code"]), ("InvalidStep", [.type "ValueError", .type "Exception", .type "BaseException", .type "object"], "ValueError.__new__", ["value", "code"]), ("InvalidStanding", [.type "ValueError", .type "Exception", .type "BaseException", .type "object"], "ValueError.__new__", ["value", "code"]), ("InvalidRow", [.type "ValueError", .type "Exception", .type "BaseException", .type "object"], "ValueError.__new__", ["value", "code"]), ("InvalidTable", [.type "ValueError", .type "Exception", .type "BaseException", .type "object"], "ValueError.__new__", ["value", "code"]), ("InvalidDelays", [.type "ValueError", .type "Exception", .type "BaseException", .type "object"], "ValueError.__new__", ["value", "code"]), ("InvalidPeriod", [.type "ValueError", .type "Exception", .type "BaseException", .type "object"], "ValueError.__new__", ["value", "code"])] : List (Str × List Value × String × List Str)) ++ (([("InvalidHeights", [.type "ValueError", .type "Exception", .type "BaseException", .type "object"], "ValueError.__new__", ["value", "code"]), ("InvalidDeed", [.type "ValueError", .type "Exception", .type "BaseException", .type "object"], "ValueError.__new__", ["value", "code"]), ("InvalidTurn", [.type "ValueError", .type "Exception", .type "BaseException", .type "object"], "ValueError.__new__", ["at", "code"]), ("InvalidWait", [.type "ValueError", .type "Exception", .type "BaseException", .type "object"], "ValueError.__new__", ["at", "code"]), ("InvalidWish", [.type "ValueError", .type "Exception", .type "BaseException", .type "object"], "ValueError.__new__", ["at", "code"]), ("InvalidJourney", [.type "ValueError", .type "Exception", .type "BaseException", .type "object"], "ValueError.__new__", ["at", "code"]), ("InvalidText", [.type "ValueError", .type "Exception", .type "BaseException", .type "object"], "ValueError.__new__", ["line", "code"]), ("DuplicateName", [.type "ValueError", .type "Exception", .type "BaseException", .type "object"], "ValueError.__new__", ["name", "code"]), ("InUse", [.type "ValueError", .type "Exception", .type "BaseException", .type "object"], "ValueError.__new__", ["name", "code"]), ("TakenEnd", [.type "ValueError", .type "Exception", .type "BaseException", .type "object"], "ValueError.__new__", ["end", "code"])] : List (Str × List Value × String × List Str)) ++ (([("LooseEnd", [.type "ValueError", .type "Exception", .type "BaseException", .type "object"], "ValueError.__new__", ["end", "code"]), ("TooMany", [.type "ValueError", .type "Exception", .type "BaseException", .type "object"], "ValueError.__new__", ["subject", "most", "code"]), ("MisplacedStep", [.type "ValueError", .type "Exception", .type "BaseException", .type "object"], "ValueError.__new__", ["train", "step", "code"]), ("OwnRing", [.type "ValueError", .type "Exception", .type "BaseException", .type "object"], "ValueError.__new__", ["train", "step", "element", "code"]), ("Refused", [.type "ValueError", .type "Exception", .type "BaseException", .type "object"], "ValueError.__new__", ["train", "element", "holder", "code"]), ("Lacking", [.type "ValueError", .type "Exception", .type "BaseException", .type "object"], "ValueError.__new__", ["train", "other", "code"]), ("Unready", [.type "ValueError", .type "Exception", .type "BaseException", .type "object"], "ValueError.__new__", ["train", "code"]), ("Finished", [.type "ValueError", .type "Exception", .type "BaseException", .type "object"], "ValueError.__new__", ["train", "code"]), ("Barred", [.type "ValueError", .type "Exception", .type "BaseException", .type "object"], "ValueError.__new__", ["train", "step", "code"]), ("NoDay", [.type "ValueError", .type "Exception", .type "BaseException", .type "object"], "ValueError.__new__", ["code"])] : List (Str × List Value × String × List Str)) ++ (([("Doomed", [.type "ValueError", .type "Exception", .type "BaseException", .type "object"], "ValueError.__new__", ["code"]), ("NeverCleared", [.type "ValueError", .type "Exception", .type "BaseException", .type "object"], "ValueError.__new__", ["train", "step", "element", "code"]), ("NoPeriod", [.type "ValueError", .type "Exception", .type "BaseException", .type "object"], "ValueError.__new__", ["code"]), ("TooShort", [.type "ValueError", .type "Exception", .type "BaseException", .type "object"], "ValueError.__new__", ["period", "code"]), ("UnknownName", [.type "LookupError", .type "Exception", .type "BaseException", .type "object"], "LookupError.__new__", ["name", "code"]), ("UnknownEnd", [.type "LookupError", .type "Exception", .type "BaseException", .type "object"], "LookupError.__new__", ["end", "code"]), ("UnknownEntry", [.type "LookupError", .type "Exception", .type "BaseException", .type "object"], "LookupError.__new__", ["entry", "code"]), ("NothingLeft", [.type "IndexError", .type "LookupError", .type "Exception", .type "BaseException", .type "object"], "IndexError.__new__", ["code"])] : List (Str × List Value × String × List Str)))))
def faL : List He.Fa := ([.glo "_law_bag", .glo "_law_draw", .glo "_law_of", .glo "_law_same", .glo "_law_fields", .glo "_law_by_name", .glo "_law_by_place", .glo "_law_codes", .glo "_law_classes", .glo "_law_caught"] : List He.Fa) ++ (([.glo "law", .glo "InvalidName", .glo "InvalidNumber", .glo "InvalidSection", .glo "InvalidTimes", .glo "InvalidStep", .glo "InvalidStanding", .glo "InvalidRow", .glo "InvalidTable", .glo "InvalidDelays"] : List He.Fa) ++ (([.glo "InvalidPeriod", .glo "InvalidHeights", .glo "InvalidDeed", .glo "InvalidTurn", .glo "InvalidWait", .glo "InvalidWish", .glo "InvalidJourney", .glo "InvalidText", .glo "DuplicateName", .glo "InUse"] : List He.Fa) ++ (([.glo "TakenEnd", .glo "LooseEnd", .glo "TooMany", .glo "MisplacedStep", .glo "OwnRing", .glo "Refused", .glo "Lacking", .glo "Unready", .glo "Finished", .glo "Barred"] : List He.Fa) ++ (([.glo "NoDay", .glo "Doomed", .glo "NeverCleared", .glo "NoPeriod", .glo "TooShort", .glo "UnknownName", .glo "UnknownEnd", .glo "UnknownEntry", .glo "NothingLeft", .glo "DayError"] : List He.Fa) ++ (([.glo "Missing", .exm "InvalidText" "DayError" true, .exm "UnknownEntry" "DayError" false, .exm "UnknownEntry" "Missing" true, .exm "NothingLeft" "DayError" false, .exm "NothingLeft" "Missing" false, .exm "NothingLeft" "NothingLeft" true, .free "IndexError", .free "LookupError", .free "ValueError"] : List He.Fa) ++ (([.free "abs", .free "all", .free "bool", .free "int", .free "isinstance", .free "len", .free "list", .free "range", .free "str", .free "tuple"] : List He.Fa) ++ (([.free "zip"] : List He.Fa))))))))
def dd0 : He.DefD := ⟨("_law_bag", none), "_law_bag", "_law_bag", defArgs sq_law_bag, defBody sq_law_bag, defScope sq_law_bag, [], []⟩
def dd1 : He.DefD := ⟨("_law_draw", none), "_law_draw", "_law_draw", defArgs sq_law_draw, defBody sq_law_draw, defScope sq_law_draw, [], []⟩
def dd2 : He.DefD := ⟨("_law_of", none), "_law_of", "_law_of", defArgs sq_law_of, defBody sq_law_of, defScope sq_law_of, [], []⟩
def dd3 : He.DefD := ⟨("_law_same", none), "_law_same", "_law_same", defArgs sq_law_same, defBody sq_law_same, defScope sq_law_same, [], []⟩
def dd4 : He.DefD := ⟨("_law_fields", none), "_law_fields", "_law_fields", defArgs sq_law_fields, defBody sq_law_fields, defScope sq_law_fields, [], []⟩
def dd5 : He.DefD := ⟨("_law_by_name", none), "_law_by_name", "_law_by_name", defArgs sq_law_by_name, defBody sq_law_by_name, defScope sq_law_by_name, [], []⟩
def dd6 : He.DefD := ⟨("_law_by_place", none), "_law_by_place", "_law_by_place", defArgs sq_law_by_place, defBody sq_law_by_place, defScope sq_law_by_place, [], []⟩
def dd7 : He.DefD := ⟨("_law_codes", none), "_law_codes", "_law_codes", defArgs sq_law_codes, defBody sq_law_codes, defScope sq_law_codes, [], []⟩
def dd8 : He.DefD := ⟨("_law_classes", none), "_law_classes", "_law_classes", defArgs sq_law_classes, defBody sq_law_classes, defScope sq_law_classes, [], []⟩
def dd9 : He.DefD := ⟨("_law_caught", none), "_law_caught", "_law_caught", defArgs sq_law_caught, defBody sq_law_caught, defScope sq_law_caught, [], []⟩
def dd10 : He.DefD := ⟨("law", none), "law", "law", defArgs sq_law, defBody sq_law, defScope sq_law, [], []⟩
def dd11 : He.DefD := ⟨("InvalidName", some "__init__"), "__init__", "InvalidName.__init__", defArgs (inS 2), defBody (inS 2), defScope (inS 2), [], []⟩
def dd12 : He.DefD := ⟨("InvalidNumber", some "__init__"), "__init__", "InvalidNumber.__init__", defArgs (inS 3), defBody (inS 3), defScope (inS 3), [], []⟩
def dd13 : He.DefD := ⟨("InvalidSection", some "__init__"), "__init__", "InvalidSection.__init__", defArgs (inS 4), defBody (inS 4), defScope (inS 4), [], []⟩
def dd14 : He.DefD := ⟨("InvalidTimes", some "__init__"), "__init__", "InvalidTimes.__init__", defArgs (inS 5), defBody (inS 5), defScope (inS 5), [], []⟩
def dd15 : He.DefD := ⟨("InvalidStep", some "__init__"), "__init__", "InvalidStep.__init__", defArgs (inS 6), defBody (inS 6), defScope (inS 6), [], []⟩
def dd16 : He.DefD := ⟨("InvalidStanding", some "__init__"), "__init__", "InvalidStanding.__init__", defArgs (inS 7), defBody (inS 7), defScope (inS 7), [], []⟩
def dd17 : He.DefD := ⟨("InvalidRow", some "__init__"), "__init__", "InvalidRow.__init__", defArgs (inS 8), defBody (inS 8), defScope (inS 8), [], []⟩
def dd18 : He.DefD := ⟨("InvalidTable", some "__init__"), "__init__", "InvalidTable.__init__", defArgs (inS 9), defBody (inS 9), defScope (inS 9), [], []⟩
def dd19 : He.DefD := ⟨("InvalidDelays", some "__init__"), "__init__", "InvalidDelays.__init__", defArgs (inS 10), defBody (inS 10), defScope (inS 10), [], []⟩
def dd20 : He.DefD := ⟨("InvalidPeriod", some "__init__"), "__init__", "InvalidPeriod.__init__", defArgs (inS 11), defBody (inS 11), defScope (inS 11), [], []⟩
def dd21 : He.DefD := ⟨("InvalidHeights", some "__init__"), "__init__", "InvalidHeights.__init__", defArgs (inS 12), defBody (inS 12), defScope (inS 12), [], []⟩
def dd22 : He.DefD := ⟨("InvalidDeed", some "__init__"), "__init__", "InvalidDeed.__init__", defArgs (inS 13), defBody (inS 13), defScope (inS 13), [], []⟩
def dd23 : He.DefD := ⟨("InvalidTurn", some "__init__"), "__init__", "InvalidTurn.__init__", defArgs (inS 14), defBody (inS 14), defScope (inS 14), [], []⟩
def dd24 : He.DefD := ⟨("InvalidWait", some "__init__"), "__init__", "InvalidWait.__init__", defArgs (inS 15), defBody (inS 15), defScope (inS 15), [], []⟩
def dd25 : He.DefD := ⟨("InvalidWish", some "__init__"), "__init__", "InvalidWish.__init__", defArgs (inS 16), defBody (inS 16), defScope (inS 16), [], []⟩
def dd26 : He.DefD := ⟨("InvalidJourney", some "__init__"), "__init__", "InvalidJourney.__init__", defArgs (inS 17), defBody (inS 17), defScope (inS 17), [], []⟩
def dd27 : He.DefD := ⟨("InvalidText", some "__init__"), "__init__", "InvalidText.__init__", defArgs (inS 18), defBody (inS 18), defScope (inS 18), [], []⟩
def dd28 : He.DefD := ⟨("DuplicateName", some "__init__"), "__init__", "DuplicateName.__init__", defArgs (inS 19), defBody (inS 19), defScope (inS 19), [], []⟩
def dd29 : He.DefD := ⟨("InUse", some "__init__"), "__init__", "InUse.__init__", defArgs (inS 20), defBody (inS 20), defScope (inS 20), [], []⟩
def dd30 : He.DefD := ⟨("TakenEnd", some "__init__"), "__init__", "TakenEnd.__init__", defArgs (inS 21), defBody (inS 21), defScope (inS 21), [], []⟩
def dd31 : He.DefD := ⟨("LooseEnd", some "__init__"), "__init__", "LooseEnd.__init__", defArgs (inS 22), defBody (inS 22), defScope (inS 22), [], []⟩
def dd32 : He.DefD := ⟨("TooMany", some "__init__"), "__init__", "TooMany.__init__", defArgs (inS 23), defBody (inS 23), defScope (inS 23), [], []⟩
def dd33 : He.DefD := ⟨("MisplacedStep", some "__init__"), "__init__", "MisplacedStep.__init__", defArgs (inS 24), defBody (inS 24), defScope (inS 24), [], []⟩
def dd34 : He.DefD := ⟨("OwnRing", some "__init__"), "__init__", "OwnRing.__init__", defArgs (inS 25), defBody (inS 25), defScope (inS 25), [], []⟩
def dd35 : He.DefD := ⟨("Refused", some "__init__"), "__init__", "Refused.__init__", defArgs (inS 26), defBody (inS 26), defScope (inS 26), [], []⟩
def dd36 : He.DefD := ⟨("Lacking", some "__init__"), "__init__", "Lacking.__init__", defArgs (inS 27), defBody (inS 27), defScope (inS 27), [], []⟩
def dd37 : He.DefD := ⟨("Unready", some "__init__"), "__init__", "Unready.__init__", defArgs (inS 28), defBody (inS 28), defScope (inS 28), [], []⟩
def dd38 : He.DefD := ⟨("Finished", some "__init__"), "__init__", "Finished.__init__", defArgs (inS 29), defBody (inS 29), defScope (inS 29), [], []⟩
def dd39 : He.DefD := ⟨("Barred", some "__init__"), "__init__", "Barred.__init__", defArgs (inS 30), defBody (inS 30), defScope (inS 30), [], []⟩
def dd40 : He.DefD := ⟨("NoDay", some "__init__"), "__init__", "NoDay.__init__", defArgs (inS 31), defBody (inS 31), defScope (inS 31), [], []⟩
def dd41 : He.DefD := ⟨("Doomed", some "__init__"), "__init__", "Doomed.__init__", defArgs (inS 32), defBody (inS 32), defScope (inS 32), [], []⟩
def dd42 : He.DefD := ⟨("NeverCleared", some "__init__"), "__init__", "NeverCleared.__init__", defArgs (inS 33), defBody (inS 33), defScope (inS 33), [], []⟩
def dd43 : He.DefD := ⟨("NoPeriod", some "__init__"), "__init__", "NoPeriod.__init__", defArgs (inS 34), defBody (inS 34), defScope (inS 34), [], []⟩
def dd44 : He.DefD := ⟨("TooShort", some "__init__"), "__init__", "TooShort.__init__", defArgs (inS 35), defBody (inS 35), defScope (inS 35), [], []⟩
def dd45 : He.DefD := ⟨("UnknownName", some "__init__"), "__init__", "UnknownName.__init__", defArgs (inS 37), defBody (inS 37), defScope (inS 37), [], []⟩
def dd46 : He.DefD := ⟨("UnknownEnd", some "__init__"), "__init__", "UnknownEnd.__init__", defArgs (inS 38), defBody (inS 38), defScope (inS 38), [], []⟩
def dd47 : He.DefD := ⟨("UnknownEntry", some "__init__"), "__init__", "UnknownEntry.__init__", defArgs (inS 39), defBody (inS 39), defScope (inS 39), [], []⟩
def dd48 : He.DefD := ⟨("NothingLeft", some "__init__"), "__init__", "NothingLeft.__init__", defArgs (inS 40), defBody (inS 40), defScope (inS 40), [], []⟩
def fnL : List He.DefD := ([dd0, dd1, dd2, dd3, dd4, dd5, dd6, dd7, dd8, dd9] : List He.DefD) ++ (([dd10, dd11, dd12, dd13, dd14, dd15, dd16, dd17, dd18, dd19] : List He.DefD) ++ (([dd20, dd21, dd22, dd23, dd24, dd25, dd26, dd27, dd28, dd29] : List He.DefD) ++ (([dd30, dd31, dd32, dd33, dd34, dd35, dd36, dd37, dd38, dd39] : List He.DefD) ++ (([dd40, dd41, dd42, dd43, dd44, dd45, dd46, dd47, dd48] : List He.DefD)))))
def kB (K : PySem.W.Frag) (cs : List Addr) : Bool := kitAll K cs && (baseAll K cs (.ref (He.ga K "DayError")) (fun k => decide (k < 34)) && (baseAll K cs (.ref (He.ga K "Missing")) (fun k => decide (34 ≤ k) && decide (k < 37)) && (baseAll K cs (.type "ValueError") (fun k => decide (k < 34)) &&
  (baseAll K cs (.type "LookupError") (fun k => decide (34 ≤ k)) && baseAll K cs (.type "IndexError") (fun k => decide (k = 37))))))
def exB (K : PySem.W.Frag) : Bool := exR.all (xB2 K) && kB K (exN.map (He.ga K))
abbrev Rr : PySem.W.OpenRow := PySem.W.OpenLaw.row PySem.Challenge.rw_ringlessday_k00_errors_by_themselves
abbrev hkB : PySem.W.Hook := hookB 5 faL fnL exB
def obB (s : PySem.W.SharedT) : AlB := obsB 5 faL fnL exB (HandSHeadRun.getT s)
theorem obB_eq (s : PySem.W.SharedT) : obB s = hkB.obs s.abs := by
  show obsB 5 faL fnL exB (HandSHeadRun.getT s) = obsB 5 faL fnL exB s.abs.heap.get?
  rw [show HandSHeadRun.getT s = s.abs.heap.get? from funext (HandSHeadRun.getT_eq s)]
abbrev qv : Program := PySem.W.view Rr.prog (([1, 2, 3, 4, 5, 6, 7, 8, 9, 10] : List Nat) ++ (([11, 12, 13, 14, 15, 16, 17, 18, 19, 20] : List Nat) ++ (([21, 22, 23, 24, 25, 26, 27, 28, 29, 30] : List Nat) ++ (([31, 32, 33, 34, 35, 36, 37, 38, 39, 40] : List Nat) ++ (([42, 43, 44, 45, 46, 47, 48, 49, 50, 51] : List Nat) ++ (([52] : List Nat)))))))
section
open HandSHeadRun PySem.W
noncomputable abbrev oB (w : World) (os : OsState) : Option SharedT := endF (stepQ (denQ tabQ) Rr.prog w) 10600 Rr.prog w os
abbrev kOf (s : SharedT) : Frag := He.frG (getT s) (He.asD (getT s) 5)
theorem run1 (w : World) (os : OsState) : (oB w os).map (fun s => (looksF Rr.prog (boot_heap w.params) s.abs, seenQ qv [] (importedModules Rr.prog.main.body) (fun s => xlAt qv [] s && recOk Rr.toRowW.records s) s.abs)) = some (true, openGood qv []) := by kernel_rfl
theorem run2 (w : World) (os : OsState) : (oB w os).map (fun s => He.obsD faL fnL (kOf s)) = some (He.valD fnL) := by kernel_rfl
theorem run3 (w : World) (os : OsState) : (oB w os).map (fun s => exR.all (xB2 (kOf s))) = some true := by kernel_rfl
theorem run4 (w : World) (os : OsState) : (oB w os).map (fun s => kB (kOf s) (exN.map (He.ga (kOf s)))) = some true := by kernel_rfl
theorem runB (w : World) : HandSHeadRun.RunEq Rr qv hkB obB 10600 [] w := by
  intro os
  have h1 := run1 w os
  have h2 := run2 w os
  have h3 := run3 w os
  have h4 := run4 w os
  show (oB w os).map _ = _
  generalize oB w os = o at h1 h2 h3 h4
  cases o with
  | none => cases h1
  | some s =>
    have e1 : (looksF Rr.prog (boot_heap w.params) s.abs, seenQ qv [] (importedModules Rr.prog.main.body) (fun s => xlAt qv [] s && recOk Rr.toRowW.records s) s.abs) = (true, openGood qv []) := Option.some.inj h1
    have e2 : He.obsD faL fnL (kOf s) = He.valD fnL := Option.some.inj h2
    have e3 : exR.all (xB2 (kOf s)) = true := Option.some.inj h3
    have e4 : kB (kOf s) (exN.map (He.ga (kOf s))) = true := Option.some.inj h4
    have e5 : obB s = (He.valD fnL, true) := by
      show (He.obsD faL fnL (kOf s), exR.all (xB2 (kOf s)) && kB (kOf s) (exN.map (He.ga (kOf s)))) = _
      rw [e2, e3, e4]; rfl
    obtain ⟨a, b⟩ := Prod.mk.inj e1
    have e6 : (looksF Rr.prog (boot_heap w.params) s.abs, seenQ qv [] (importedModules Rr.prog.main.body) (fun s => xlAt qv [] s && recOk Rr.toRowW.records s) s.abs, obB s) = (true, openGood qv [], (He.valD fnL, true)) := by rw [a, b, e5]
    exact congrArg some e6
end
end Rd
set_option maxHeartbeats 4000000
namespace Rd
open PySem PySem.Spec PyProof.Rows L2
/-! ## own exceptions over any base, as values -/
/-- what the top says of such a class -/
structure XC (K : PySem.W.Frag) (C : Addr) (B newId initId : String) (bmB : List Value) : Prop where
  F : ExcBaseFacts B newId initId bmB
  S : StoreFacts B bmB "object.__setattr__" "object"
  ini : PySem.W.excInitIn K C bmB newId = true
  ovr : PySem.W.excOver K C bmB = true
  hasd : PySem.W.hasDictIn K C = true
  sa : PySem.W.findIn K (.ref C) "__setattr__" = some (some (.builtin "object.__setattr__"))
  kC : PySem.W.keepIn K (.ref C) = true
section
variable {X : Cx} {pins : List (Addr × Obj)} {σ : L2.St} {H : Hp} {s : Shared} {a C dx : Addr} {f : Str} {y : V} {u : Value} {fs : List (Str × V)} {Q : Unit → Shared → Prop} {E : Value → Shared → Prop} {A : Around} {B newId initId : String} {bmB : List Value}
theorem cls_of (T : XC X.K C B newId initId bmB) : ∃ cd, PySem.W.clsIn X.K C = some cd ∧ cd.hasDict = true := by
  have h : (PySem.W.clsIn X.K C).any (·.hasDict) = true := T.hasd
  cases e : PySem.W.clsIn X.K C with
  | none => rw [e] at h; cases h
  | some cd => rw [e] at h; exact ⟨cd, rfl, h⟩
theorem gst_new (T : XC X.K C B newId initId bmB) (I : Inv X pins σ H s) (e : H a = some (exo a C none)) (hno : PySem.W.findIn X.K (.ref C) f = some none) (ry : RelV y u)
    (h : ∀ dx s', H dx = none → dx ≠ a → Inv X pins σ (upd (upd H dx (exd dx [(f, y)])) a (exo a C (some dx))) s' → Q () s') : wpAny (model X.prog X.w) A (setAttr (.ref a) f u) Q E s := by
  obtain ⟨cd, hcl, hdc⟩ := cls_of T
  obtain ⟨t1, ho⟩ := exo_at I.hok e
  obtain ⟨hp, g, d, t, os⟩ := s
  have hcls : PySem.W.Looks (model X.prog X.w) hp (classData C) cd := PySem.W.looks_clsIn I.kIn hcl
  have IA : PySem.W.InstAt hp a { cls := .ref C, dict := none, data := .fields #[.ref t1, .none, .none, .none, .bool false, .none] } C none := ⟨ho, rfl, rfl, trivial⟩
  refine PySem.W.set_plain I.kIn IA T.sa ?_
  refine PySem.W.osa_openX T.S I.kIn IA T.ovr (r := none) (by unfold PySem.W.takerIn; rw [hno]; rfl) fun b => ?_
  show wpAny _ _ (Builtin.ObjectAttr.storeInOwnDict (.ref a) (.ref C) (.str f _) f u b) _ _ _
  obtain ⟨nm, bs, mro, ns, qn, hd, sn, sb, ab, col, del⟩ := cd
  dsimp only at hdc
  subst hdc
  have ha : a ≠ hp.objs.size := Nat.ne_of_lt (Heap.lt_size ho)
  unfold Builtin.ObjectAttr.storeInOwnDict Builtin.ObjectAttr.ownDictForStores
  repeat (first | with_reducible refine PySem.HandSPX.store_in_new ?_ ?_ | with_reducible refine wpAny_loadPart_at ho ?_ | with_reducible refine hcls.at ?_ | wp_step)
  · exact ⟨_, #[], _, (Heap.get?_update_ne _ _ _ _ ha.symm).trans (Heap.get?_push_at rfl rfl), rfl, fun e he => absurd he (by simp), fun _ => rfl⟩
  · intro h' tk' hn' hs
    have h1 : (hp.push { cls := .type "dict", data := .dict #[] }).get? a = some { cls := .ref C, dict := none, data := .fields #[.ref t1, .none, .none, .none, .bool false, .none] } := Heap.get?_push_of_some _ ho
    have ha' : h'.get? a = some { cls := .ref C, dict := some hp.objs.size, data := .fields #[.ref t1, .none, .none, .none, .bool false, .none] } := (hs.2 a ha).trans (Heap.get?_update_self _ h1 rfl)
    have keep : ∀ b o, b ≠ a → hp.get? b = some o → h'.get? b = some o := fun b o hb hob => (hs.2 b (Nat.ne_of_lt (Heap.lt_size hob))).trans ((Heap.get?_update_ne _ _ _ _ hb).trans (Heap.get?_push_of_some _ hob))
    -- the dict alone, then the exception's own object
    have g1 : ∀ b, b ≠ a → (h'.update a fun _ => ({ cls := .ref C, dict := none, data := .fields #[.ref t1, .none, .none, .none, .bool false, .none] } : Obj)).get? b = h'.get? b := fun b hb => Heap.get?_update_other _ _ (Ne.symm hb)
    have g2 := Heap.get?_update_self (fun _ => ({ cls := .ref C, dict := none, data := .fields #[.ref t1, .none, .none, .none, .bool false, .none] } : Obj)) ha' rfl
    have J1 := I.laid (t' := tk') (a := hp.objs.size) (o := exd hp.objs.size [(f, y)]) (h' := h'.update a fun _ => ({ cls := .ref C, dict := none, data := .fields #[.ref t1, .none, .none, .none, .bool false, .none] } : Obj))
      (fun b o hob => by
        by_cases hb : b = a
        · subst hb
          rw [ho] at hob
          cases hob
          exact g2
        · exact (g1 b hb).trans (keep b o hb hob)) (Nat.le_refl _)
      (exd_ok (hn'.at fun o q => (g1 _ ha.symm).trans q) (relO_put (fs := []) ry fun g => True.intro))
    have ea : upd H hp.objs.size (exd hp.objs.size [(f, y)]) a = some (exo a C none) := by rw [upd_ne ha]; exact e
    have J2 := J1.write (t' := tk') (x := a) (e := a) (h' := h') (o := exo a C (some hp.objs.size)) (by rw [ea]; exact True.intro) (.inl rfl) (fun b o hb hob => (g1 b hb).symm.trans hob) ⟨_, ha'⟩ (exo_ok ha')
    exact h _ _ (I.hok.fresh (Nat.le_refl _)) ha.symm J2
theorem gst_old (T : XC X.K C B newId initId bmB) (I : Inv X pins σ H s) (e : H a = some (exo a C (some dx))) (ed : H dx = some (exd dx fs)) (hl : fs.length ≤ 900) (hno : PySem.W.findIn X.K (.ref C) f = some none) (ry : RelV y u)
    (h : ∀ s', Inv X pins σ (upd H dx (exd dx ((f, y) :: fs))) s' → Q () s') : wpAny (model X.prog X.w) A (setAttr (.ref a) f u) Q E s := by
  obtain ⟨cd, hcl, hdc⟩ := cls_of T
  obtain ⟨t1, ho⟩ := exo_at I.hok e
  obtain ⟨mA, hns, rel⟩ := exd_at I.hok ed
  have hw := within_of rel
  obtain ⟨hp, g, d, t, os⟩ := s
  obtain ⟨oD, _, _, hoD, _, _⟩ := hns.count hw
  have hcls : PySem.W.Looks (model X.prog X.w) hp (classData C) cd := PySem.W.looks_clsIn I.kIn hcl
  have IA : PySem.W.InstAt hp a { cls := .ref C, dict := some dx, data := .fields #[.ref t1, .none, .none, .none, .bool false, .none] } C (some oD) := ⟨ho, rfl, rfl, hoD⟩
  refine PySem.W.set_plain I.kIn IA T.sa ?_
  refine PySem.W.osa_openX T.S I.kIn IA T.ovr (r := none) (by unfold PySem.W.takerIn; rw [hno]; rfl) fun b => ?_
  show wpAny _ _ (Builtin.ObjectAttr.storeInOwnDict (.ref a) (.ref C) (.str f _) f u b) _ _ _
  obtain ⟨nm, bs, mro, ns, qn, hd, sn, sb, ab, col, del⟩ := cd
  dsimp only at hdc
  subst hdc
  unfold Builtin.ObjectAttr.storeInOwnDict Builtin.ObjectAttr.ownDictForStores
  have hz : (fs.map (·.1)).length ≤ 1000 := by rw [List.length_map]; omega
  repeat (first | with_reducible refine PySem.OEX.store_in_old hns hw hz ?_ | with_reducible refine wpAny_loadPart_at ho ?_ | with_reducible refine hcls.at ?_ | wp_step)
  intro h' tk' hn' hs
  have hd : ∃ o, h'.get? dx = some o := by
    obtain ⟨o, _, _, e', _⟩ := hn'
    exact ⟨o, e'⟩
  exact h _ (I.write (t' := tk') (x := dx) (e := dx) (o := exd dx ((f, y) :: fs)) (by rw [ed]; exact True.intro) (.inl rfl) (fun b o hb hob => (hs.2 b hb).trans hob) hd (exd_ok hn' (relO_put ry rel)))
end
/-! ### readings and rules -/
/-- self.f = e, self an exception that is made or stands -/
def tGst (K : PySem.W.Frag) (f : Str) (to te : TE) : TS := fun D σ H => te σ H fun y H1 => to σ H1 fun x H2 => ∃ (a C : Addr) (B newId initId : String) (bmB : List Value), x = .ref a ∧ XC K C B newId initId bmB ∧ PySem.W.findIn K (.ref C) f = some none ∧
  ((H2 a = some (exo a C none) ∧ ∀ dx, H2 dx = none → dx ≠ a → D.nx σ (upd (upd H2 dx (exd dx [(f, y)])) a (exo a C (some dx)))) ∨
    ∃ (dx : Addr) (fs : List (Str × V)), H2 a = some (exo a C (some dx)) ∧ H2 dx = some (exd dx fs) ∧ fs.length ≤ 900 ∧ D.nx σ (upd H2 dx (exd dx ((f, y) :: fs))))
/-- C(e, ..) as a value -/
def tGmk (C : Addr) (sp : Sp) (gV : List V → List V) (ta : TA) : TE := fun σ H Q => ta σ H fun vs H1 => vs.length ≤ 1000 ∧ ∀ a, H1 a = none → sp (.ref a :: gV vs) (upd H1 a (exo a C none)) (fun v H2 => v = .non ∧ Q (.ref a) H2) E0
/-- e.f of an exception that is tracked -/
structure XF (K : PySem.W.Frag) (C : Addr) : Prop where
  x : XfC K C
  i : ExcC K C
def tGf (K : PySem.W.Frag) (f : Str) (te : TE) : TE := fun σ H Q => te σ H fun x H1 => ∃ (a C d : Addr) (fs : List (Str × V)) (v : V), x = .ref a ∧ XF K C ∧ PySem.W.findIn K (.ref C) f = some none ∧ H1 a = some (exo a C (some d)) ∧ H1 d = some (exd d fs) ∧ fs.lookup f = some v ∧ Q v H1
def rIsX (K : PySem.W.Frag) : List V → Hp → VK → Prop := fun xs H Q => ∃ (a C d : Addr) (fs : List (Str × V)) (c : V) (cv : Value) (b : Bool), xs = [.ref a, c] ∧ ClsV c cv ∧ H a = some (exo a C (some d)) ∧ H d = some (exd d fs) ∧ XF K C ∧ PySem.W.kitOne K (.ref C) cv = some b ∧ Q (.bl b) H
section
variable {X : Cx} {o e : Expr} {es : List Expr} {to te : TE} {ta : TA} {f : Str} {p p' pos : Pos}
theorem ps_gst (ho : PE X o to) (he : PE X e te) (hs : swapsWith e (some (.Attribute o f p')) pos.line X.env = pure false := by rfl) : PS X (.Assign [.Attribute o f p'] e pos) (tGst X.K f to te) where
  run := fun pins s σ H D I h => plainObj_wpAny_Assign_Attribute (thn (he.run pins s σ H _ I h) fun v s1 ⟨y, H1, I1, r1, q1⟩ => thn (ho.run pins s1 σ H1 _ I1 q1) fun u s2 hh => by
    obtain ⟨x, H2, I2, r2, a, C, B, nI, iI, bmB, ex, T, hno, q⟩ := hh
    subst ex
    obtain rfl : u = Value.ref a := r2
    rcases q with ⟨ea, q⟩ | ⟨dx, fs, ea, ed, hl, q⟩
    · exact gst_new T I2 ea hno r1 fun dx s' n ne J => ⟨σ, _, J, q dx n ne⟩
    · exact gst_old T I2 ea ed hl hno r1 fun s' J => ⟨σ, _, J, q⟩) hs
theorem pe_gf (he : PE X e te) (hb : attributeBase e f X.env (eval e X.env) = eval e X.env := by rfl) : PE X (.Attribute e f pos) (tGf X.K f te) where
  run := fun pins s σ H Q I h => attr_of hb (thn (he.run pins s σ H _ I h) fun u s1 hh => by
    obtain ⟨x, H1, I1, rx, a, C, d, fs, v, ex, T, hno, ea, ed, l, q⟩ := hh
    subst ex
    obtain rfl : u = Value.ref a := rx
    obtain ⟨t1, ho⟩ := exo_at I1.hok ea
    obtain ⟨mA, hns, rel⟩ := exd_at I1.hok ed
    obtain ⟨od, hod, hl⟩ := lookIn_ns hns
    obtain ⟨u, hu, ru⟩ := RelO.some_of (v := v) (o := mA f) (by rw [← l]; exact rel f)
    have J : PySem.W.InstAt s1.heap a _ C (some od) := ⟨ho, rfl, rfl, hod⟩
    exact HandSPX.exc_get I1.kIn J T.x.ga T.x.gg T.x.exC (PySem.W.findObj_own T.x.hdC hno rfl (by rw [hl, hu])) (handed_of ru) ⟨v, H1, I1.tok _, ru, q⟩)
theorem some_dict {K : PySem.W.Frag} {C : Addr} (h : PySem.W.hasDictIn K C = true) : (PySem.W.clsIn K C).isSome = true := by
  unfold PySem.W.hasDictIn at h
  cases e : PySem.W.clsIn K C with
  | none => rw [e] at h; cases h
  | some _ => rfl
theorem call_isX : CallR X (.builtin "isinstance") (rIsX X.K) := by
  intro pins s σ H xs us Q I r h
  obtain ⟨a, C, d, fs, c, cv, b, rfl, hcv, ea, ed, T, e, q⟩ := h
  obtain ⟨u1, u2, rfl, r1, r2⟩ := vals2 r
  obtain rfl : u1 = Value.ref a := r1
  have ec := hcv.eq r2
  subst ec
  obtain ⟨t1, ho⟩ := exo_at I.hok ea
  obtain ⟨mA, hns, rel⟩ := exd_at I.hok ed
  obtain ⟨od, hod, hl⟩ := lookIn_ns hns
  have J : PySem.W.InstAt s.heap a _ C (some od) := ⟨ho, rfl, rfl, hod⟩
  exact PySem.W.kia_one (PySem.W.kitx_exc (some_dict T.i.hd) T.i.hg T.i.hk T.i.hs T.i.ha T.i.hn T.i.ht T.i.hm) I.kIn J e (fun z => nomatch z) fun tk => ⟨.bl b, H, I.tok tk, rfl, q⟩
end
end Rd
set_option maxHeartbeats 1000000
namespace PySem
namespace RdK
open Builtin Builtin.ObjectAttr HandSPX
section
variable {M : Model} {A : Around} {E : Value → Shared → Prop} {h : Heap} {g : Array GenState} {d : Drawn} {t : Nat} {os : OsState}
variable {nm q : Str} {C N : Addr} {bs bm bmB : List Value} {hdct : Bool} {sn : List Str} {sub : List Value} {ab : Bool} {col : Option Bool} {dd : Option Addr} {k0 k1 k2 k3 k5 : Option Value} {B newId initId : String} {kw : List (Str × Value)}
theorem chk_newK (F : ExcBaseFacts B newId initId bmB) (hT : ∀ X : String, bm.contains (.type X) = bmB.contains (.type X)) {Q : Unit → Shared → Prop}
    (hC : h.get? C = some (excClassObj nm q C N bs bm hdct sn sub ab col dd k0 k1 k2 k3 k5 newId)) (hq : Q () ⟨h, g, d, t, os⟩) :
    wpAny M A (checkBuiltinCall newId ⟨[.ref C], kw⟩) Q E ⟨h, g, d, t, os⟩ := by
  have hcont : (Value.ref C :: bm).contains (.type B) = true := by rw [List.contains_cons, hT, F.hasB, Bool.or_true]
  have hstar := F.noStar
  simp only [checkBuiltinCall, F.newKind, F.newSplit, F.newRow]
  repeat (first
    | refine wpAny_loadPart_at hC ?_
    | (refine wpAny_isSubtype_exc hC ?_; rw [hcont])
    | refine wpAny_staticBase_exc hC ?_
    | refine wpAny_madeBy_exc hC ?_
    | simp only [bne_self_eq_false, Bool.false_eq_true, if_false]
    | wp_step)
  exact hq
end
section
variable {prog : Program} {w : World} {A : Around} {E : Value → Shared → Prop} {R : Result → Shared → Prop} {h : Heap} {g : Array GenState} {d : Drawn} {t : Nat} {os : OsState}
variable {nm q : Str} {C N : Addr} {bs bm bmB : List Value} {hdct : Bool} {sn : List Str} {sub : List Value} {ab : Bool} {col : Option Bool} {dd : Option Addr} {k0 k1 k2 k3 k5 : Option Value} {B newId initId : String} {kw : List (Str × Value)}
theorem newK (F : ExcBaseFacts B newId initId bmB) (hT : ∀ X : String, bm.contains (.type X) = bmB.contains (.type X))
    (hC : h.get? C = some (excClassObj nm q C N bs bm hdct sn sub ab col dd k0 k1 k2 k3 k5 newId))
    (hq : R (.ok (.ret (.ref (h.objs.size + 1)))) ⟨(h.push (PySem.W.kdv_tup [])).push (PySem.HandSPX.excO C h.objs.size), g, d, t, os⟩) :
    codeAny (model prog w) A (.builtin newId ⟨[.ref C], kw⟩) R ⟨h, g, d, t, os⟩ := by
  have hends := F.ends
  have c1 : (Value.ref C :: bm).contains (.type B) = true := by rw [List.contains_cons, hT, F.hasB, Bool.or_true]
  have c2 : (Value.ref C :: bm).contains (.type "AttributeError") = false := by rw [List.contains_cons, hT, F.noAttr]; rfl
  have c3 : (Value.ref C :: bm).contains (.type "NameError") = false := by rw [List.contains_cons, hT, F.noName]; rfl
  refine codeAny_builtinAt F.entry ?_
  unfold Builtin.«BaseException.__new__»
  refine wpAt_bind ?_
  show wpAt _ _ _ (stack >>= _) _ _ _
  refine wpAt_bind (wpAt_stack fun p below => wpAt_of_wpAny ?_)
  wp_walk
  refine wpAt_of_wpAny ?_
  rw [F.owner]
  repeat (first
    | with_reducible refine wpAny_madeHere_exc F.canon hC ?_
    | with_reducible refine wpAny_loadPart_at hC ?_
    | (with_reducible refine wpAny_isSubtype_exc hC ?_; first | rw [c1] | rw [c2] | rw [c3])
    | wp_step)
  show R _ _
  rw [Heap.size_push]
  exact hq
theorem tcallK (F : ExcBaseFacts B newId initId bmB) (hT : ∀ X : String, bm.contains (.type X) = bmB.contains (.type X)) {fI : Addr} {Q : Fin → Shared → Prop}
    (hC : h.get? C = some (excClassObj nm q C N bs bm hdct sn sub ab col dd k0 k1 k2 k3 k5 newId))
    (hi : W.Looks (model prog w) h (typeLookup (.ref C) "__init__") (some (.ref fI))) (hb : ∀ self, W.Looks (model prog w) h (bindSpecial (.ref fI) self) (.ref fI, [self]))
    (hq : codeAny (model prog w) A (.call (.ref fI) ⟨[.ref (h.objs.size + 1)], kw⟩) (fun r s' => match r with | .ok (.ret v) => v = .none ∧ Q (.done (.ret (.ref (h.objs.size + 1)))) s' | .ok _ => False | .error e => E e s')
      ⟨(h.push (W.kdv_tup [])).push (excO C h.objs.size), g, d, t, os⟩) :
    wpAny (model prog w) A (Builtin.«type.__call__» ⟨[.ref C], kw⟩) Q E ⟨h, g, d, t, os⟩ := by
  repeat (first
    | with_reducible refine wpAny_loadPart_at hC ?_
    | with_reducible refine wpAny_madeBy_exc hC ?_
    | wp_step)
  refine codeAny_call_builtin_code (Code.quiet_builtin _ F.quiet) (chk_newK F hT hC ?_)
  refine newK F hT hC ?_
  show wpAny _ _ _ _ _ _
  have kk : ∀ b o, h.get? b = some o → ((h.push (W.kdv_tup [])).push (excO C h.objs.size)).get? b = some o := fun b o e => Heap.get?_push_of_some _ (Heap.get?_push_of_some _ e)
  have hC₁ := kk _ _ hC
  have he : ((h.push (W.kdv_tup [])).push (excO C h.objs.size)).get? (h.objs.size + 1) = some (excO C h.objs.size) := by heap_get
  have hcC : (Value.ref C :: bm).contains (.ref C) = true := by simp
  have i1 := hi.keeps kk
  have b1 := (hb (.ref (h.objs.size + 1))).keeps kk
  unfold isInstance
  repeat (first
    | with_reducible refine wpAny_loadPart_at he ?_
    | (with_reducible refine wpAny_isSubtype_exc hC₁ ?_; rw [hcC])
    | wp_step)
  show wpAny _ _ (typeLookup (.ref C) _) _ _ _
  refine i1.at (wpAny_holding (wpAny_bind (b1.at (wpAny_bind (wpAny_call (codeAny_mono hq fun r s' z => ?_))))))
  rcases r with e | (v | _ | _ | _) <;> first | exact z | exact z.elim | skip
  obtain ⟨rfl, z⟩ := z
  first
    | exact wpAny_pure (wpAny_pure z)
    | (wp_walk; exact z)
theorem ccallK (F : ExcBaseFacts B newId initId bmB) (hT : ∀ X : String, bm.contains (.type X) = bmB.contains (.type X)) {fI : Addr}
    (hC : h.get? C = some (excClassObj nm q C N bs bm hdct sn sub ab col dd k0 k1 k2 k3 k5 newId))
    (hi : W.Looks (model prog w) h (typeLookup (.ref C) "__init__") (some (.ref fI))) (hb : ∀ self, W.Looks (model prog w) h (bindSpecial (.ref fI) self) (.ref fI, [self]))
    (hq : codeAny (model prog w) (A.under (.builtin "type.__call__" ⟨[.ref C], kw⟩)) (.call (.ref fI) ⟨[.ref (h.objs.size + 1)], kw⟩) (W.InitBack (h.objs.size + 1) R)
      ⟨(h.push (W.kdv_tup [])).push (excO C h.objs.size), g, d, t, os⟩) :
    codeAny (model prog w) A (.call (.ref C) ⟨[], kw⟩) R ⟨h, g, d, t, os⟩ := by
  have f1 := tc_lookup
  have f2 := tc_bind (.ref C)
  have hTy : (⟨h, g, d, t, os⟩ : Shared).TypeIs (.ref C) "type" := ⟨_, hC, rfl⟩
  refine codeAny_of_tree ?_
  show wpAny _ _ (callAny (.ref C) _) _ _ _
  repeat (any_goals (first
    | assumption
    | with_reducible refine wpAny_loadPart_at hC ?_
    | wp_step))
  refine ⟨rfl, ?_⟩
  show codeAny (model prog w) A (.call (.builtin "type.__call__") ⟨[.ref C], kw⟩) R _
  refine codeAny_call_builtin_at (Code.quiet_builtin _ (by decide +kernel)) entry_typeCall (wpAny_check_type_call_sub hC (tcallK F hT hC hi hb ?_))
  exact codeAny_mono hq fun r s' z => by rcases r with e | (v | _ | _ | _) <;> exact z
end
end RdK
end PySem
set_option maxHeartbeats 1000000
namespace Rd
open PySem PySem.Spec PyProof.Rows L2
/-! ## an own exception is made: by position, by keywords, as a value, to be raised -/
/-- what is asked of the class's own __init__ -/
structure XI (X : Cx) (CX : CXT) (k : Nat) (C : Addr) (fI : Addr) (fd : FuncData) (ps : List Str) (sp : Sp) : Prop where
  iC : PySem.W.findIn X.K (.ref C) "__init__" = some (some (.ref fI))
  tI : PySem.W.typeIn X.K (.ref fI) = some (.type "function")
  F : FnOk X.prog X.w X.K X.mg X.base CX k fI fd ps sp
def MkQ (sp : Sp) (C : Addr) (f : V → List V) (H1 : Hp) (Q : VK) : Prop := ∀ a, H1 a = none → sp (f (.ref a)) (upd H1 a (exo a C none)) (fun v H2 => v = .non ∧ Q (.ref a) H2) E0
section
variable {X : Cx} {CX : CXT} {pins : List (Addr × Obj)} {σ : L2.St} {H1 : Hp} {s1 : Shared} {C fI : Addr} {k : Nat} {fd : FuncData} {ps ks : List Str} {sp : Sp} {Q : VK} {B newId initId : String} {bmB : List Value} {us ws : List Value} {vs zs : List V} {g : List Value → List Value → List Value} {gV : List V → List V → List V}
theorem mk_pos (T : XC X.K C B newId initId bmB) (N : XI X CX k C fI fd ps sp) (hr : Room (k + 1) X.A) (hb : Binds X.K fd ps []) (hx : Passes CX X E0) (I1 : Inv X pins σ H1 s1) (r1 : Vals vs us) (hz : vs.length ≤ 1000) (q1 : MkQ sp C (fun a => a :: vs) H1 Q) :
    wpAny (model X.prog X.w) X.A (call (.ref C) us) (EP X pins σ Q) X.xe s1 := by
  obtain ⟨nm, N', qn, bs, bm, hdct, sn, sub, ab, col, dd, k0, k1, k2, k3, k5, hC, hT⟩ := PySem.W.excInit_of I1.kIn T.ini
  obtain ⟨hp, g, dr, tk, os⟩ := s1
  have hsz : hp.objs.size ≤ hp.objs.size + 1 := Nat.le_succ _
  have hn : H1 (hp.objs.size + 1) = none := I1.hok.fresh hsz
  have hq := q1 (hp.objs.size + 1) hn
  have kk : ∀ b o, hp.get? b = some o → ((hp.push (PySem.W.kdv_tup us)).push (PySem.HandSPX.excO C hp.objs.size)).get? b = some o := fun b o e => Heap.get?_push_of_some _ (Heap.get?_push_of_some _ e)
  have hget : ((hp.push (PySem.W.kdv_tup us)).push (PySem.HandSPX.excO C hp.objs.size)).get? (hp.objs.size + 1) = some (PySem.HandSPX.excO C hp.objs.size) := by heap_get
  have I2 : Inv X pins σ (upd H1 (hp.objs.size + 1) (exo (hp.objs.size + 1) C none)) ⟨(hp.push (PySem.W.kdv_tup us)).push (PySem.HandSPX.excO C hp.objs.size), g, dr, tk, os⟩ :=
    I1.laid (t' := tk) (a := hp.objs.size + 1) (o := exo (hp.objs.size + 1) C none) (h' := (hp.push (PySem.W.kdv_tup us)).push (PySem.HandSPX.excO C hp.objs.size)) kk hsz (exo_ok hget)
  have r2 : Vals (V.ref (hp.objs.size + 1) :: vs) ((Value.ref (hp.objs.size + 1) :: us) ++ []) := by rw [List.append_nil]; exact .cons rfl r1
  have hl : (Value.ref (hp.objs.size + 1) :: us ++ []).length = ps.length := by
    have e := r2.length
    rw [N.F.len _ _ _ _ hq] at e
    exact e.symm
  have hus : us.length ≤ sizeLine := by
    rw [← Paired.length r1, sizeLine_eq]
    omega
  refine wpAny_call (PySem.HandSPX.call_own T.F hT hC (PySem.W.looks_findIn I1.kIn N.iC) (fun self => PySem.W.bind_fn I1.kIn self N.tI) hus
    (codeAny_mono (N.F.run _ X.stack _ _ ⟨Value.ref (hp.objs.size + 1) :: us, []⟩ ((Value.ref (hp.objs.size + 1) :: us) ++ []) _ _ E0 (hr.make C us []) (I2.env0.make C us []) (hb _ (Value.ref (hp.objs.size + 1) :: us) I2.kIn hl) r2 hq) fun r s' hq' => ?_))
  cases r with
  | error er => exact hx pins σ _ _ er s' I2 hq'
  | ok fl =>
    cases fl with
    | ret u =>
      obtain ⟨v, H2, J, rv, ev, q⟩ := I2.after hq'
      subst ev
      exact ⟨rv, .ref _, H2, J, rfl, q⟩
    | next => exact False.elim hq'
    | brk => exact False.elim hq'
    | cont => exact False.elim hq'
theorem mk_kw (T : XC X.K C B newId initId bmB) (N : XI X CX k C fI fd ps sp) (hr : Room (k + 1) X.A) (hb : KBn X.K fd ps 1 ks g gV) (hx : Passes CX X E0) (I1 : Inv X pins σ H1 s1) (r1 : Vals zs ws) (hz : zs.length = ks.length) (q1 : MkQ sp C (fun a => gV [a] zs) H1 Q) :
    wpAny (model X.prog X.w) X.A (call (.ref C) [] (ks.zip ws)) (EP X pins σ Q) X.xe s1 := by
  obtain ⟨nm, N', qn, bs, bm, hdct, sn, sub, ab, col, dd, k0, k1, k2, k3, k5, hC, hT⟩ := PySem.W.excInit_of I1.kIn T.ini
  obtain ⟨hp, g', dr, tk, os⟩ := s1
  have hsz : hp.objs.size ≤ hp.objs.size + 1 := Nat.le_succ _
  have hn : H1 (hp.objs.size + 1) = none := I1.hok.fresh hsz
  have hq := q1 (hp.objs.size + 1) hn
  have kk : ∀ b o, hp.get? b = some o → ((hp.push (PySem.W.kdv_tup [])).push (PySem.HandSPX.excO C hp.objs.size)).get? b = some o := fun b o e => Heap.get?_push_of_some _ (Heap.get?_push_of_some _ e)
  have hget : ((hp.push (PySem.W.kdv_tup [])).push (PySem.HandSPX.excO C hp.objs.size)).get? (hp.objs.size + 1) = some (PySem.HandSPX.excO C hp.objs.size) := by heap_get
  have I2 : Inv X pins σ (upd H1 (hp.objs.size + 1) (exo (hp.objs.size + 1) C none)) ⟨(hp.push (PySem.W.kdv_tup [])).push (PySem.HandSPX.excO C hp.objs.size), g', dr, tk, os⟩ :=
    I1.laid (t' := tk) (a := hp.objs.size + 1) (o := exo (hp.objs.size + 1) C none) (h' := (hp.push (PySem.W.kdv_tup [])).push (PySem.HandSPX.excO C hp.objs.size)) kk hsz (exo_ok hget)
  have r2 := hb.rel (vs := [V.ref (hp.objs.size + 1)]) (us := [Value.ref (hp.objs.size + 1)]) (.cons rfl .nil) r1
  refine wpAny_call (PySem.RdK.ccallK T.F hT hC (PySem.W.looks_findIn I1.kIn N.iC) (fun self => PySem.W.bind_fn I1.kIn self N.tI)
    (codeAny_mono (N.F.run _ X.stack _ _ ⟨[Value.ref (hp.objs.size + 1)], ks.zip ws⟩ (g [Value.ref (hp.objs.size + 1)] ws) _ _ E0 (hr.make C [] (ks.zip ws)) (I2.env0.make C [] (ks.zip ws)) (hb.to _ [Value.ref (hp.objs.size + 1)] ws I2.kIn rfl (r1.length.symm.trans hz)) r2 hq) fun r s' hq' => ?_))
  cases r with
  | error er => exact hx pins σ _ _ er s' I2 hq'
  | ok fl =>
    cases fl with
    | ret u =>
      obtain ⟨v, H2, J, rv, ev, q⟩ := I2.after hq'
      subst ev
      exact ⟨rv, .ref _, H2, J, rfl, q⟩
    | next => exact False.elim hq'
    | brk => exact False.elim hq'
    | cont => exact False.elim hq'
/-- C(e, ..) to be raised: as a value, then its object is let go -/
theorem mk_raise (T : XC X.K C B newId initId bmB) (hR : Raises X (.ref C)) (N : XI X CX k C fI fd ps sp) (hr : Room (k + 1) X.A) (hb : Binds X.K fd ps []) (hx : Passes CX X E0) (I1 : Inv X pins σ H1 s1) (r1 : Vals vs us) (hz : vs.length ≤ 1000) {Q : XK}
    (q1 : MkQ sp C (fun a => a :: vs) H1 (fun v H2 => ∃ (a d : Addr) (fs : List (Str × V)), v = .ref a ∧ H2 a = some (exo a C (some d)) ∧ H2 d = some (exd d fs) ∧ H1 d = none ∧ Q (.ref C) (some d) (upd (del H2 a) d (.xd fs)))) :
    wpAny (model X.prog X.w) X.A (call (.ref C) us) (MkP X pins σ Q) X.xe s1 := by
  obtain ⟨nm, N', qn, bs, bm, hdct, sn, sub, ab, col, dd, k0, k1, k2, k3, k5, hC, hT⟩ := PySem.W.excInit_of I1.kIn T.ini
  obtain ⟨hp, g, dr, tk, os⟩ := s1
  have hsz : hp.objs.size ≤ hp.objs.size + 1 := Nat.le_succ _
  have hn : H1 (hp.objs.size + 1) = none := I1.hok.fresh hsz
  have hq := q1 (hp.objs.size + 1) hn
  have kk : ∀ b o, hp.get? b = some o → ((hp.push (PySem.W.kdv_tup us)).push (PySem.HandSPX.excO C hp.objs.size)).get? b = some o := fun b o e => Heap.get?_push_of_some _ (Heap.get?_push_of_some _ e)
  have hget : ((hp.push (PySem.W.kdv_tup us)).push (PySem.HandSPX.excO C hp.objs.size)).get? (hp.objs.size + 1) = some (PySem.HandSPX.excO C hp.objs.size) := by heap_get
  have I2 : Inv X pins σ (upd H1 (hp.objs.size + 1) (exo (hp.objs.size + 1) C none)) ⟨(hp.push (PySem.W.kdv_tup us)).push (PySem.HandSPX.excO C hp.objs.size), g, dr, tk, os⟩ :=
    I1.laid (t' := tk) (a := hp.objs.size + 1) (o := exo (hp.objs.size + 1) C none) (h' := (hp.push (PySem.W.kdv_tup us)).push (PySem.HandSPX.excO C hp.objs.size)) kk hsz (exo_ok hget)
  have r2 : Vals (V.ref (hp.objs.size + 1) :: vs) ((Value.ref (hp.objs.size + 1) :: us) ++ []) := by rw [List.append_nil]; exact .cons rfl r1
  have hl : (Value.ref (hp.objs.size + 1) :: us ++ []).length = ps.length := by
    have e := r2.length
    rw [N.F.len _ _ _ _ hq] at e
    exact e.symm
  have hus : us.length ≤ sizeLine := by
    rw [← Paired.length r1, sizeLine_eq]
    omega
  refine wpAny_call (PySem.HandSPX.call_own T.F hT hC (PySem.W.looks_findIn I1.kIn N.iC) (fun self => PySem.W.bind_fn I1.kIn self N.tI) hus
    (codeAny_mono (N.F.run _ X.stack _ _ ⟨Value.ref (hp.objs.size + 1) :: us, []⟩ ((Value.ref (hp.objs.size + 1) :: us) ++ []) _ _ E0 (hr.make C us []) (I2.env0.make C us []) (hb _ (Value.ref (hp.objs.size + 1) :: us) I2.kIn hl) r2 hq) fun r s' hq' => ?_))
  cases r with
  | error er => exact hx pins σ _ _ er s' I2 hq'
  | ok fl =>
    cases fl with
    | ret u =>
      obtain ⟨v, H2, os2, bare2, un2, hok2, rv, ev, a, d, fs, ea0, ea, ed, hd1, q2⟩ := hq'
      subst ev
      cases ea0
      obtain ⟨h2, g2, d2, t2, os'⟩ := s'
      exact ⟨rv, mk_end hR I1 hsz kk un2 hok2 os2 bare2 ea ed hd1 q2⟩
    | next => exact False.elim hq'
    | brk => exact False.elim hq'
    | cont => exact False.elim hq'
end
/-! ### readings -/
def tMkV (C : Addr) (sp : Sp) (ta : TA) : TE := fun σ H Q => ta σ H fun vs H1 => vs.length ≤ 1000 ∧ MkQ sp C (fun a => a :: vs) H1 Q
def tMkK (C : Addr) (m : Nat) (sp : Sp) (gV : List V → List V → List V) (tk : TA) : TE := fun σ H Q => tk σ H fun zs H1 => zs.length = m ∧ MkQ sp C (fun a => gV [a] zs) H1 Q
def tMkR (C : Addr) (sp : Sp) (ta : TA) : L2.St → Hp → XK → Prop := fun σ H Q => ta σ H fun vs H1 => vs.length ≤ 1000 ∧
  MkQ sp C (fun a => a :: vs) H1 (fun v H2 => ∃ (a d : Addr) (fs : List (Str × V)), v = .ref a ∧ H2 a = some (exo a C (some d)) ∧ H2 d = some (exd d fs) ∧ H1 d = none ∧ Q (.ref C) (some d) (upd (del H2 a) d (.xd fs)))
section
variable {X : Cx} {CX : CXT} {x : Str} {e : Expr} {es : List Expr} {kws : List Keyword} {ta tk : TA} {p pos : Pos} {C fI : Addr} {k : Nat} {fd : FuncData} {ps ks : List Str} {sp : Sp} {B newId initId : String} {bmB : List Value} {g : List Value → List Value → List Value} {gV : List V → List V → List V}
theorem pe_mkV (T : XC X.K C B newId initId bmB) (N : XI X CX k C fI fd ps sp) (hr : Room (k + 1) X.A) (hb : Binds X.K fd ps []) (hx : Passes CX X E0) (hg : Gl X x) (hm : X.mg x = some (.ref C)) (ha : PA X (e :: es) ta)
    (hdb : (x == ("__debug__" : Str)) = false := by decide) (he : starEach (e :: es) X.env = (false, eval e X.env) :: starEach es X.env := by rfl) (hpl : (backTo pos (starEach es X.env)).any (·.1) = false := by rfl) :
    PE X (.Call (.Name x p) (e :: es) [] pos) (tMkV C sp ta) := by
  refine ⟨fun pins s σ H Q I h => ?_⟩
  refine wpAny_Call_Name_kw (ld_glob I hg hm ?_ hdb)
  exact PySem.W.callWith_K (h₀ := X.base) I.ok.mod.kin T.kC (thn (ha.run pos pins s σ H _ I h) fun us s1 ⟨vs, H1, I1, r1, hz, q1⟩ => ⟨I1.kIn, mk_pos T N hr hb hx I1 r1 hz q1⟩) he hpl
theorem pe_mkV0 (T : XC X.K C B newId initId bmB) (N : XI X CX k C fI fd ps sp) (hr : Room (k + 1) X.A) (hb : Binds X.K fd ps []) (hx : Passes CX X E0) (hg : Gl X x) (hm : X.mg x = some (.ref C))
    (hdb : (x == ("__debug__" : Str)) = false := by decide) : PE X (.Call (.Name x p) [] [] pos) (tMkV C sp tNil) := by
  refine ⟨fun pins s σ H Q I h => ?_⟩
  refine wpAny_Call_Name_kw (ld_glob I hg hm ?_ hdb)
  obtain ⟨hz, q1⟩ := h
  exact PySem.W.callWith_K0 I.kIn T.kC (mk_pos (us := []) (vs := []) T N hr hb hx I .nil hz q1)
theorem pe_mkK (T : XC X.K C B newId initId bmB) (N : XI X CX k C fI fd ps sp) (hr : Room (k + 1) X.A) (hb : KBn X.K fd ps 1 ks g gV) (hx : Passes CX X E0) (hg : Gl X x) (hm : X.mg x = some (.ref C)) (hkw : PK X kws tk)
    (hall : (backToKw pos (keywordEach kws X.env)).all (·.1.isSome) = true := by rfl) (hks : (backToKw pos (keywordEach kws X.env)).filterMap (·.1) = ks := by rfl) (hdb : (x == ("__debug__" : Str)) = false := by decide)
    (hpl : ((backTo pos (starEach [] X.env)).any (·.1) || (backToKw pos (keywordEach kws X.env)).any (·.1.isNone)) = false := by rfl) :
    PE X (.Call (.Name x p) [] kws pos) (tMkK C ks.length sp gV tk) where
  run := fun pins s σ H Q I h => wpAny_Call_Name_kw (ld_glob I hg hm (PySem.W.callWith_KW0 (h₀ := X.base) I.ok.mod.kin T.kC hall
    (thn (hkw.run pos pins s σ H _ I h) fun ws s2 ⟨zs, H2, I2, rz, l2, q2⟩ => ⟨I2.kIn, by rw [hks]; exact mk_kw T N hr hb hx I2 rz l2 q2⟩) hpl) hdb)
theorem pmk_V (T : XC X.K C B newId initId bmB) (hR : Raises X (.ref C)) (N : XI X CX k C fI fd ps sp) (hr : Room (k + 1) X.A) (hb : Binds X.K fd ps []) (hx : Passes CX X E0) (hg : Gl X x) (hm : X.mg x = some (.ref C)) (ha : PA X (e :: es) ta)
    (hdb : (x == ("__debug__" : Str)) = false := by decide) (he : starEach (e :: es) X.env = (false, eval e X.env) :: starEach es X.env := by rfl) (hpl : (backTo pos (starEach es X.env)).any (·.1) = false := by rfl) :
    PMk X (.Call (.Name x p) (e :: es) [] pos) (tMkR C sp ta) := by
  intro pins s σ H Q I h
  refine wpAny_Call_Name_kw (ld_glob I hg hm ?_ hdb)
  exact PySem.W.callWith_K (h₀ := X.base) I.ok.mod.kin T.kC (thn (ha.run pos pins s σ H _ I h) fun us s1 ⟨vs, H1, I1, r1, hz, q1⟩ => ⟨I1.kIn, mk_raise T hR N hr hb hx I1 r1 hz q1⟩) he hpl
theorem pmk_V0 (T : XC X.K C B newId initId bmB) (hR : Raises X (.ref C)) (N : XI X CX k C fI fd ps sp) (hr : Room (k + 1) X.A) (hb : Binds X.K fd ps []) (hx : Passes CX X E0) (hg : Gl X x) (hm : X.mg x = some (.ref C))
    (hdb : (x == ("__debug__" : Str)) = false := by decide) : PMk X (.Call (.Name x p) [] [] pos) (tMkR C sp tNil) := by
  intro pins s σ H Q I h
  refine wpAny_Call_Name_kw (ld_glob I hg hm ?_ hdb)
  obtain ⟨hz, q1⟩ := h
  exact PySem.W.callWith_K0 I.kIn T.kC (mk_raise (us := []) (vs := []) T hR N hr hb hx I .nil hz q1)
end
end Rd
set_option maxHeartbeats 4000000
namespace L2
open PySem PySem.Spec PyProof.Rows
/-! ## several except clauses, each with «as n» -/
abbrev HdA := Value × Nat × (Addr → Value → Option Addr → TS)
def wManyAs (K : PySem.W.Frag) (Wout : WX) (D : Ends) : List HdA → WX
  | [] => Wout
  | (c, i, ts) :: r => fun cls d σ H => ∃ b, PySem.W.exmOne K cls c = some b ∧ (b = true → ∀ a, H a = none → ts a cls d { nx := fun σ' H' => D.nx (σ'.set i none) H', rt := D.rt, bk := fun σ' H' => D.bk (σ'.set i none) H', ct := fun σ' H' => D.ct (σ'.set i none) H' } (σ.set i (some (.ref a))) H) ∧
    (b = false → wManyAs K Wout D r cls d σ H)
inductive HdsAs (X : Cx) : List ExceptHandler → List HdA → Prop
  | nil : HdsAs X [] []
  | cons {x n : Str} {i : Nat} {c : Value} {ts : Addr → Value → Option Addr → TS} {b₀ : Stmt} {suite : List Stmt} {np pos' : Pos} {hds : List ExceptHandler} {l : List HdA} (hi : X.N[i]? = some n) (hln : X.env.kindOf n = some .local) (hc : Names X x c)
      (hsu : ∀ (a : Addr) (oe : Obj) (cls : Value) (d : Option Addr) (pn : List (Addr × Obj)), Zc cls d oe → (∃ vs, oe.data = .fields vs) → PSs (X.suite a ((a, oe) :: pn)) (b₀ :: suite) (ts a cls d)) (r : HdsAs X hds l) :
      HdsAs X (.ExceptHandler (some (.Name x np)) (some n) (b₀ :: suite) pos' :: hds) ((c, i, ts) :: l)
section
variable {X : Cx} {body : List Stmt} {h₀ : ExceptHandler} {hds : List ExceptHandler} {l : List HdA} {pos : Pos} {tb : WX → TS} {Wout : WX}
theorem ps_try_manyAs (hs : X.stack = X.env :: X.outer) (hf : X.env.frame = some X.env.locals) (hN : X.N.Nodup) (tk : Takes X Wout)
    (hb : ∀ (W : WX) (pn : List (Addr × Obj)) (xe : Value → Shared → Prop), Takes (X.tr pn xe) W → PassesOwn (model X.prog X.w) X.A X.env xe → PSs (X.tr pn xe) body (tb W))
    (hh : HdsAs X (h₀ :: hds) l) : PS X (.Try body (h₀ :: hds) [] [] pos) (fun D σ H => tb (wManyAs X.K Wout D l) D σ H) := by
  refine ⟨fun pins s σ H D I h => ?_⟩
  have ok := I.ok
  have hfr : X.A.frames = some (X.env :: X.outer) := by rw [ok.frames, hs]
  refine wpAny_Try_except ?_
  refine wpAny_mono ((hb (wManyAs X.K Wout D l) (X.pn ++ pins) (fun e s₁ => wpAny (model X.prog X.w) X.A (noteFrame e X.env) (fun _ s₂ => wpAny (model X.prog X.w) X.A (setFlight e none) (fun _ s₃ =>
    wpAny (model X.prog X.w) X.A (handleBy e X.env (h₀ :: hds)) (SP X pins D) X.xe s₃) X.xe s₂) X.xe s₁) (fun u s' xx => ?_) PassesOwn.looking).run [] s σ H D (I.toTry _) h) (fun f s1 hsp => ?_) (fun e s1 he => he)
  · obtain ⟨a, B, sI, pins', σ', H', cls, d, rfl, J', nb, up, sky, na, os, ag, w⟩ := xx
    have J : Inv X pins σ' H' sI := J'.ofTry ok
    have sky' : Sky B (X.env :: X.outer) a (Zc cls d) X.env.locals s'.heap := by rw [← hs]; exact sky
    show wpAny (model X.prog X.w) X.A (noteFrame (.ref a) X.env) _ _ _
    refine Sky.land Zc.steady hfr hf sky' fun h3 fl3 up3 => ?_
    have J3 : Inv X pins σ' H' { s' with heap := h3 } := J.landed nb fl3.1 (up.trans up3) os ag
    obtain ⟨oe3, vs3, he3, hz3, hd3⟩ := fl3.there
    have notFr : ∀ {h : Heap} {o : Obj} {vs : Array Value}, h.FunFrames B (X.env :: X.outer) → h.get? a = some o → o.data = .fields vs → a ∉ frs (X.env :: X.outer) := fun {h o vs} ff e dd hm => by
      obtain ⟨_, o', e', hnf⟩ := ff.mem hm
      rw [e] at e'; cases e'
      exact hnf _ dd
    have nfr := notFr fl3.2.2.1 he3 hd3
    have nL : a ≠ X.env.locals := fun z => nfr (List.mem_filterMap.mpr ⟨X.env, List.mem_cons_self, by rw [hf, z]⟩)
    have nF : a ∉ X.fs := fun hm => by
      obtain ⟨e, he, q⟩ := List.mem_filterMap.mp hm
      exact nfr (List.mem_filterMap.mpr ⟨e, List.mem_cons_of_mem _ he, q⟩)
    have S3 := J3.suite he3 hd3 na nL nF
    have go : ∀ {hds' : List ExceptHandler} {l' : List HdA}, HdsAs X hds' l' → wManyAs X.K Wout D l' cls d σ' H' →
        wpAny (model X.prog X.w) X.A (handleBy (.ref a) X.env hds') (SP X pins D) X.xe { s' with heap := h3 } := by
      intro hds' l' hk
      induction hk with
      | nil =>
        intro w
        refine wpAny_handleBy_nil ?_
        obtain ⟨k1, k2, k3, oe, vs, T, oT, ts', he, hz, hd, h1, hr⟩ := id fl3
        unfold PySem.passOn
        refine wpAny_bind (wpAny_field he hd h1 ?_)
        rw [if_neg (show ¬ ((Value.ref T == Value.none) = true) from by simp)]
        have fin : wpAny (model X.prog X.w) X.A (setFlight (.ref a) X.env.frame) (fun _ s4 => wpAny (model X.prog X.w) X.A (throw (.ref a) : Sem Flow) (SP X pins D) X.xe s4) X.xe { s' with heap := h3 } := by
          rw [hf]
          refine HandSPX.setFlight_upZ fl3 fun h4 hh4 up4 => wpAny_throw (tk _ _ ?_)
          exact ⟨a, B, sI, pins, σ', H', cls, d, rfl, J, nb, (up.trans up3).trans up4, .inr (.inr (by rw [hs]; exact hh4)), na, os, ag, w⟩
        first
          | exact wpAny_bind (wpAny_pure (wpAny_bind fin))
          | exact wpAny_bind fin
      | @cons x n i c ts b₀ suite np pos' hds2 l2 hi hln hc hsu r ih =>
        intro w
        have hloc : Loc X.env.scope n := .inl hln
        obtain ⟨b, hb1, hyes, hno⟩ := w
        refine wpAny_handleBy_cons (codeAny_handlers_test ?_) (by intro q; cases q)
        have LT : PySem.W.Looks (model X.prog X.w) h3 (typeOf (.ref a)) cls := fun A Q E s k q => wpAny_typeOf_ref (k _ _ he3) (by rw [hz3.1]; exact q)
        have LM := PySem.W.exm_one (M := model X.prog X.w) (J3.kIn) LT hb1
        have test : ∀ {Q : Value → Shared → Prop} {E : Value → Shared → Prop}, Q c { s' with heap := h3 } → wpAny (model X.prog X.w) (X.A.mark (some (.ref a))) (eval (.Name x np) X.env) Q E { s' with heap := h3 } := fun {Q E} q => by
          obtain ⟨hg, hdbg, hm | ⟨hm, hv, hnn⟩⟩ := hc
          · exact ld_glob (X := X.suite a ((a, oe3) :: (X.pn ++ pins))) S3 hg hm q hdbg
          · exact ld_blt (X := X.suite a ((a, oe3) :: (X.pn ++ pins))) S3 hg hm hv q hnn hdbg
        refine test (LM.here ?_)
        cases b with
        | true =>
          refine codeAny_handlers_suite_as ?_
          refine HandSPX.lands_againZ fl3 fun h4 fl4 up4 => ?_
          have J4 : Inv X pins σ' H' { s' with heap := h4 } := J.landed nb fl4.1 ((up.trans up3).trans up4) os ag
          obtain ⟨oe4, vs4, he4, hz4, hd4⟩ := fl4.there
          have S4 := J4.suite he4 hd4 na nL nF
          refine store_ok (X := X.suite a ((a, oe4) :: (X.pn ++ pins))) (v := .ref a) S4 hN hi hloc rfl (fun s5 S5 => ?_) (.inr hln)
          refine wpAny_mono ((hsu a oe4 cls d (X.pn ++ pins) hz4 ⟨_, hd4⟩).run [] s5 _ H' _ S5 (hyes rfl a na)) (fun f s6 hsp => ?_) (fun _ _ z => False.elim z)
          have end_ : ∀ {σ6 : L2.St} {H6 : Hp} {Q : Shared → Prop}, Inv (X.suite a ((a, oe4) :: (X.pn ++ pins))) [] σ6 H6 s6 → (∀ s7, Inv X pins (σ6.set i none) H6 s7 → Q s7) →
              wpAny (model X.prog X.w) X.A (do bindName X.env n .none; unbindBehindTheSuite X.env n pos') (fun _ s7 => Q s7) X.xe s6 := fun {σ6 H6 Q} S6 hq => gone_ok (S6.unsuite ok) hN hi hln hq
          cases f with
          | next =>
            obtain ⟨σ6, H6, S6, q6⟩ := hsp
            exact end_ S6 fun s7 J7 => ⟨_, _, J7, q6⟩
          | brk =>
            obtain ⟨σ6, H6, S6, q6⟩ := hsp
            exact end_ S6 fun s7 J7 => ⟨_, _, J7, q6⟩
          | cont =>
            obtain ⟨σ6, H6, S6, q6⟩ := hsp
            exact end_ S6 fun s7 J7 => ⟨_, _, J7, q6⟩
          | ret u =>
            obtain ⟨v6, σ6, H6, S6, r6, q6⟩ := hsp
            exact end_ S6 fun s7 J7 => ⟨_, _, _, J7, r6, q6⟩
        | false =>
          show wpAny _ X.A (handleBy (.ref a) X.env hds2) _ _ _
          exact ih (hno rfl)
    exact go hh w
  · cases f with
    | next =>
      obtain ⟨σ', H', J', q⟩ := hsp
      exact wpAny_execs_nil ⟨σ', H', J'.ofTry ok, q⟩
    | brk =>
      obtain ⟨σ', H', J', q⟩ := hsp
      exact ⟨σ', H', J'.ofTry ok, q⟩
    | cont =>
      obtain ⟨σ', H', J', q⟩ := hsp
      exact ⟨σ', H', J'.ofTry ok, q⟩
    | ret u =>
      obtain ⟨v, σ', H', J', r, q⟩ := hsp
      exact ⟨v, σ', H', J'.ofTry ok, r, q⟩
end
end L2
set_option maxHeartbeats 2000000
namespace Rd
open PySem PySem.Spec PyProof.Rows L2
open C8 (pss_cut tCut)
/-! ## a def of the text, where it stands and how it binds -/
structure Def (K : PySem.W.Frag) (mg : Str → Option Value) (x : Str) (st : Stmt) (ps : List Str) where
  f : Addr
  fd : FuncData
  F : Fun K x x st f fd
  g : mg x = some (.ref f)
  b : Binds K fd ps []
/-! ## the bag of drawn numbers -/
def Bag (H : Hp) (b : Addr) : Prop := ∃ (c : Addr) (ns : List Int) (i r m n : Int),
  H b = some (.lst [.ref c, .int i, .int r, .int m, .int n]) ∧ c ≠ b ∧ H c = some (.lst (ns.map V.int)) ∧ 0 ≤ i ∧ 0 ≤ r ∧ 0 ≤ m ∧ m < 2147483587
def Cell (H : Hp) (b c : Addr) : Prop := ∃ r, H b = some (.lst (.ref c :: r))
/-- from one heap to a later one: the bag may have moved on, all else stands -/
structure Go (b : Addr) (H H' : Hp) : Prop where
  bag : Bag H' b
  keep : ∀ a o, a ≠ b → H a = some o → H' a = some o
  cell : ∀ c, Cell H b c → Cell H' b c
theorem Bag.some {H : Hp} {b : Addr} (h : Bag H b) : ∃ xs, H b = some (.lst xs) := let ⟨_, _, _, _, _, _, e, _⟩ := h; ⟨_, e⟩
theorem Go.refl {H : Hp} {b : Addr} (h : Bag H b) : Go b H H := ⟨h, fun _ _ _ e => e, fun _ h => h⟩
theorem Go.trans {H H1 H2 : Hp} {b : Addr} (g : Go b H H1) (k : Go b H1 H2) : Go b H H2 := ⟨k.1, fun a o n e => k.2 a o n (g.2 a o n e), fun c h => k.3 c (g.3 c h)⟩
theorem Bag.new {H : Hp} {b p : Addr} {o : HO} (h : Bag H b) (np : H p = none) : Bag (upd H p o) b := by
  obtain ⟨c, ns, i, r, m, n, e, hc, ec, k⟩ := h
  exact ⟨c, ns, i, r, m, n, by rw [upd_ne (ne_of_none e np)]; exact e, hc, by rw [upd_ne (ne_of_none ec np)]; exact ec, k⟩
theorem Go.new {H H' : Hp} {b p : Addr} {o : HO} (g : Go b H H') (np : H' p = none) : Go b H (upd H' p o) :=
  ⟨g.1.new np, fun a u n e => by rw [upd_ne (ne_of_none (g.2 a u n e) np)]; exact g.2 a u n e, fun c h => by
    obtain ⟨r, e⟩ := g.3 c h
    exact ⟨r, by rw [upd_ne (ne_of_none e np)]; exact e⟩⟩
theorem Bag.same {H H' : Hp} {b : Addr} (h : Bag H b) (s : Same H H') : Bag H' b := by
  obtain ⟨c, ns, i, r, m, n, e, hc, ec, k⟩ := h
  exact ⟨c, ns, i, r, m, n, s _ _ e, hc, s _ _ ec, k⟩
theorem Go.same {H H1 H' : Hp} {b : Addr} (g : Go b H H1) (s : Same H1 H') : Go b H H' := ⟨g.1.same s, fun a o n e => s _ _ (g.2 a o n e), fun c h => let ⟨r, e⟩ := g.3 c h; ⟨r, s _ _ e⟩⟩
/-- an object that is neither the bag nor its list of cells may change -/
theorem Bag.put {H : Hp} {b p c : Addr} {o : HO} (h : Bag H b) (hc : Cell H b c) (n : p ≠ b) (n2 : p ≠ c) : Bag (upd H p o) b := by
  obtain ⟨c', ns, i, r, m, k, e, hc', ec, q⟩ := h
  obtain ⟨r', e'⟩ := hc
  rw [e] at e'
  cases e'
  exact ⟨c, ns, i, r, m, k, by rw [upd_ne (Ne.symm n)]; exact e, hc', by rw [upd_ne (Ne.symm n2)]; exact ec, q⟩
theorem Cell.put {H : Hp} {b p c : Addr} {o : HO} (h : Cell H b c) (n : p ≠ b) : Cell (upd H p o) b c := by
  obtain ⟨r, e⟩ := h
  exact ⟨r, by rw [upd_ne (Ne.symm n)]; exact e⟩
theorem Bag.cell {H : Hp} {b : Addr} (h : Bag H b) : ∃ c, Cell H b c ∧ ∃ o, H c = Option.some o := by
  obtain ⟨c, ns, i, r, m, k, e, hc', ec, q⟩ := h
  exact ⟨c, ⟨_, e⟩, _, ec⟩
/-- what the bag is not -/
theorem Go.back {H H' : Hp} {b p : Addr} (g : Go b H H') (hb : Bag H b) (np : H' p = none) : H p = none := by
  cases e : H p with
  | none => rfl
  | some o =>
    by_cases h : p = b
    · obtain ⟨xs, ex⟩ := g.1.some
      rw [h, ex] at np
      cases np
    · rw [g.2 p o h e] at np
      cases np
theorem Bag.ne {H : Hp} {b p : Addr} (h : Bag H b) (np : H p = none) : p ≠ b := fun e => by
  obtain ⟨xs, ex⟩ := h.some
  rw [e, ex] at np
  cases np
abbrev s_law_bag : Stmt := topS 42
abbrev N_law_bag : List Str := ["_law_script", "_law_mixed", "_law_cell"]
theorem sc_law_bag : FnScope ["_law_script", "_law_mixed", "_law_cell"] ["_law_script"] (defScope s_law_bag) := ⟨rfl, rfl, rfl, by decide +kernel, rfl, by decide +kernel, by decide +kernel⟩
abbrev s_law_draw : Stmt := topS 43
abbrev N_law_draw : List Str := ["_law_bag_here", "_law_many", "_law_cell", "_law_digit", "_law_seed"]
theorem sc_law_draw : FnScope ["_law_bag_here", "_law_many", "_law_cell", "_law_digit", "_law_seed"] ["_law_bag_here", "_law_many"] (defScope s_law_draw) := ⟨rfl, rfl, rfl, by decide +kernel, rfl, by decide +kernel, by decide +kernel⟩
abbrev s_law_of : Stmt := topS 44
abbrev N_law_of : List Str := ["_law_bag_here", "_law_some"]
theorem sc_law_of : FnScope ["_law_bag_here", "_law_some"] ["_law_bag_here", "_law_some"] (defScope s_law_of) := ⟨rfl, rfl, rfl, by decide +kernel, rfl, by decide +kernel, by decide +kernel⟩
abbrev s_law_same : Stmt := topS 45
abbrev N_law_same : List Str := ["_law_found", "_law_due", "_law_low", "_law_high"]
theorem sc_law_same : FnScope ["_law_found", "_law_due", "_law_low", "_law_high"] ["_law_found", "_law_due"] (defScope s_law_same) := ⟨rfl, rfl, rfl, by decide +kernel, rfl, by decide +kernel, by decide +kernel⟩
abbrev s_law_fields : Stmt := topS 46
abbrev N_law_fields : List Str := ["_law_e"]
theorem sc_law_fields : FnScope ["_law_e"] ["_law_e"] (defScope s_law_fields) := ⟨rfl, rfl, rfl, by decide +kernel, rfl, by decide +kernel, by decide +kernel⟩
abbrev s_law_by_name : Stmt := topS 47
abbrev N_law_by_name : List Str := ["_law_first", "_law_second", "_law_third", "_law_found"]
theorem sc_law_by_name : FnScope ["_law_first", "_law_second", "_law_third", "_law_found"] ["_law_first", "_law_second", "_law_third"] (defScope s_law_by_name) := ⟨rfl, rfl, rfl, by decide +kernel, rfl, by decide +kernel, by decide +kernel⟩
abbrev s_law_by_place : Stmt := topS 48
abbrev N_law_by_place : List Str := ["_law_first", "_law_second", "_law_third", "_law_found"]
theorem sc_law_by_place : FnScope ["_law_first", "_law_second", "_law_third", "_law_found"] ["_law_first", "_law_second", "_law_third"] (defScope s_law_by_place) := ⟨rfl, rfl, rfl, by decide +kernel, rfl, by decide +kernel, by decide +kernel⟩
abbrev s_law_codes : Stmt := topS 49
abbrev N_law_codes : List Str := ["_law_found"]
theorem sc_law_codes : FnScope ["_law_found"] [] (defScope s_law_codes) := ⟨rfl, rfl, rfl, by decide +kernel, rfl, by decide +kernel, by decide +kernel⟩
abbrev s_law_classes : Stmt := topS 50
abbrev N_law_classes : List Str := ["_law_e", "_law_found"]
theorem sc_law_classes : FnScope ["_law_e", "_law_found"] ["_law_e"] (defScope s_law_classes) := ⟨rfl, rfl, rfl, by decide +kernel, rfl, by decide +kernel, by decide +kernel⟩
abbrev s_law : Stmt := topS 52
abbrev N_law : List Str := ["_law_script", "_law_bag_here", "_law_some", "_law_first", "_law_second", "_law_third", "_law_widths", "_law_rows", "_law_e", "_law_k", "_law_due", "_law_found", "_law_j", "_law_way"]
theorem sc_law : FnScope ["_law_script", "_law_bag_here", "_law_some", "_law_first", "_law_second", "_law_third", "_law_widths", "_law_rows", "_law_e", "_law_k", "_law_due", "_law_found", "_law_j", "_law_way"] ["_law_script"] (defScope s_law) := ⟨rfl, rfl, rfl, by decide +kernel, rfl, by decide +kernel, by decide +kernel⟩
abbrev s_law_caught : Stmt := topS 51
abbrev N_law_caught : List Str := ["_law_way", "_law_thing", "_law_e"]
theorem sc_law_caught : FnScope ["_law_way", "_law_thing", "_law_e"] ["_law_way", "_law_thing"] (defScope s_law_caught) := ⟨rfl, rfl, rfl, by decide +kernel, rfl, by decide +kernel, by decide +kernel⟩
theorem sc_i_InvalidName : FnScope ["self", "value"] ["self", "value"] (defScope (inS 2)) := ⟨rfl, rfl, rfl, by decide +kernel, rfl, by decide +kernel, by decide +kernel⟩
theorem sc_i_InvalidNumber : FnScope ["self", "value"] ["self", "value"] (defScope (inS 3)) := ⟨rfl, rfl, rfl, by decide +kernel, rfl, by decide +kernel, by decide +kernel⟩
theorem sc_i_InvalidSection : FnScope ["self", "value"] ["self", "value"] (defScope (inS 4)) := ⟨rfl, rfl, rfl, by decide +kernel, rfl, by decide +kernel, by decide +kernel⟩
theorem sc_i_InvalidTimes : FnScope ["self", "value"] ["self", "value"] (defScope (inS 5)) := ⟨rfl, rfl, rfl, by decide +kernel, rfl, by decide +kernel, by decide +kernel⟩
theorem sc_i_InvalidStep : FnScope ["self", "value"] ["self", "value"] (defScope (inS 6)) := ⟨rfl, rfl, rfl, by decide +kernel, rfl, by decide +kernel, by decide +kernel⟩
theorem sc_i_InvalidStanding : FnScope ["self", "value"] ["self", "value"] (defScope (inS 7)) := ⟨rfl, rfl, rfl, by decide +kernel, rfl, by decide +kernel, by decide +kernel⟩
theorem sc_i_InvalidRow : FnScope ["self", "value"] ["self", "value"] (defScope (inS 8)) := ⟨rfl, rfl, rfl, by decide +kernel, rfl, by decide +kernel, by decide +kernel⟩
theorem sc_i_InvalidTable : FnScope ["self", "value"] ["self", "value"] (defScope (inS 9)) := ⟨rfl, rfl, rfl, by decide +kernel, rfl, by decide +kernel, by decide +kernel⟩
theorem sc_i_InvalidDelays : FnScope ["self", "value"] ["self", "value"] (defScope (inS 10)) := ⟨rfl, rfl, rfl, by decide +kernel, rfl, by decide +kernel, by decide +kernel⟩
theorem sc_i_InvalidPeriod : FnScope ["self", "value"] ["self", "value"] (defScope (inS 11)) := ⟨rfl, rfl, rfl, by decide +kernel, rfl, by decide +kernel, by decide +kernel⟩
theorem sc_i_InvalidHeights : FnScope ["self", "value"] ["self", "value"] (defScope (inS 12)) := ⟨rfl, rfl, rfl, by decide +kernel, rfl, by decide +kernel, by decide +kernel⟩
theorem sc_i_InvalidDeed : FnScope ["self", "value"] ["self", "value"] (defScope (inS 13)) := ⟨rfl, rfl, rfl, by decide +kernel, rfl, by decide +kernel, by decide +kernel⟩
theorem sc_i_InvalidTurn : FnScope ["self", "at"] ["self", "at"] (defScope (inS 14)) := ⟨rfl, rfl, rfl, by decide +kernel, rfl, by decide +kernel, by decide +kernel⟩
theorem sc_i_InvalidWait : FnScope ["self", "at"] ["self", "at"] (defScope (inS 15)) := ⟨rfl, rfl, rfl, by decide +kernel, rfl, by decide +kernel, by decide +kernel⟩
theorem sc_i_InvalidWish : FnScope ["self", "at"] ["self", "at"] (defScope (inS 16)) := ⟨rfl, rfl, rfl, by decide +kernel, rfl, by decide +kernel, by decide +kernel⟩
theorem sc_i_InvalidJourney : FnScope ["self", "at"] ["self", "at"] (defScope (inS 17)) := ⟨rfl, rfl, rfl, by decide +kernel, rfl, by decide +kernel, by decide +kernel⟩
theorem sc_i_InvalidText : FnScope ["self", "line"] ["self", "line"] (defScope (inS 18)) := ⟨rfl, rfl, rfl, by decide +kernel, rfl, by decide +kernel, by decide +kernel⟩
theorem sc_i_DuplicateName : FnScope ["self", "name"] ["self", "name"] (defScope (inS 19)) := ⟨rfl, rfl, rfl, by decide +kernel, rfl, by decide +kernel, by decide +kernel⟩
theorem sc_i_InUse : FnScope ["self", "name"] ["self", "name"] (defScope (inS 20)) := ⟨rfl, rfl, rfl, by decide +kernel, rfl, by decide +kernel, by decide +kernel⟩
theorem sc_i_TakenEnd : FnScope ["self", "end"] ["self", "end"] (defScope (inS 21)) := ⟨rfl, rfl, rfl, by decide +kernel, rfl, by decide +kernel, by decide +kernel⟩
theorem sc_i_LooseEnd : FnScope ["self", "end"] ["self", "end"] (defScope (inS 22)) := ⟨rfl, rfl, rfl, by decide +kernel, rfl, by decide +kernel, by decide +kernel⟩
theorem sc_i_TooMany : FnScope ["self", "subject", "most"] ["self", "subject", "most"] (defScope (inS 23)) := ⟨rfl, rfl, rfl, by decide +kernel, rfl, by decide +kernel, by decide +kernel⟩
theorem sc_i_MisplacedStep : FnScope ["self", "train", "step"] ["self", "train", "step"] (defScope (inS 24)) := ⟨rfl, rfl, rfl, by decide +kernel, rfl, by decide +kernel, by decide +kernel⟩
theorem sc_i_OwnRing : FnScope ["self", "train", "step", "element"] ["self", "train", "step", "element"] (defScope (inS 25)) := ⟨rfl, rfl, rfl, by decide +kernel, rfl, by decide +kernel, by decide +kernel⟩
theorem sc_i_Refused : FnScope ["self", "train", "element", "holder"] ["self", "train", "element", "holder"] (defScope (inS 26)) := ⟨rfl, rfl, rfl, by decide +kernel, rfl, by decide +kernel, by decide +kernel⟩
theorem sc_i_Lacking : FnScope ["self", "train", "other"] ["self", "train", "other"] (defScope (inS 27)) := ⟨rfl, rfl, rfl, by decide +kernel, rfl, by decide +kernel, by decide +kernel⟩
theorem sc_i_Unready : FnScope ["self", "train"] ["self", "train"] (defScope (inS 28)) := ⟨rfl, rfl, rfl, by decide +kernel, rfl, by decide +kernel, by decide +kernel⟩
theorem sc_i_Finished : FnScope ["self", "train"] ["self", "train"] (defScope (inS 29)) := ⟨rfl, rfl, rfl, by decide +kernel, rfl, by decide +kernel, by decide +kernel⟩
theorem sc_i_Barred : FnScope ["self", "train", "step"] ["self", "train", "step"] (defScope (inS 30)) := ⟨rfl, rfl, rfl, by decide +kernel, rfl, by decide +kernel, by decide +kernel⟩
theorem sc_i_NoDay : FnScope ["self"] ["self"] (defScope (inS 31)) := ⟨rfl, rfl, rfl, by decide +kernel, rfl, by decide +kernel, by decide +kernel⟩
theorem sc_i_Doomed : FnScope ["self"] ["self"] (defScope (inS 32)) := ⟨rfl, rfl, rfl, by decide +kernel, rfl, by decide +kernel, by decide +kernel⟩
theorem sc_i_NeverCleared : FnScope ["self", "train", "step", "element"] ["self", "train", "step", "element"] (defScope (inS 33)) := ⟨rfl, rfl, rfl, by decide +kernel, rfl, by decide +kernel, by decide +kernel⟩
theorem sc_i_NoPeriod : FnScope ["self"] ["self"] (defScope (inS 34)) := ⟨rfl, rfl, rfl, by decide +kernel, rfl, by decide +kernel, by decide +kernel⟩
theorem sc_i_TooShort : FnScope ["self", "period"] ["self", "period"] (defScope (inS 35)) := ⟨rfl, rfl, rfl, by decide +kernel, rfl, by decide +kernel, by decide +kernel⟩
theorem sc_i_UnknownName : FnScope ["self", "name"] ["self", "name"] (defScope (inS 37)) := ⟨rfl, rfl, rfl, by decide +kernel, rfl, by decide +kernel, by decide +kernel⟩
theorem sc_i_UnknownEnd : FnScope ["self", "end"] ["self", "end"] (defScope (inS 38)) := ⟨rfl, rfl, rfl, by decide +kernel, rfl, by decide +kernel, by decide +kernel⟩
theorem sc_i_UnknownEntry : FnScope ["self", "entry"] ["self", "entry"] (defScope (inS 39)) := ⟨rfl, rfl, rfl, by decide +kernel, rfl, by decide +kernel, by decide +kernel⟩
theorem sc_i_NothingLeft : FnScope ["self"] ["self"] (defScope (inS 40)) := ⟨rfl, rfl, rfl, by decide +kernel, rfl, by decide +kernel, by decide +kernel⟩
/-- an own exception class with an own __init__ -/
structure DX (K : PySem.W.Frag) (mg : Str → Option Value) (x qual : Str) (st : Stmt) (ps nm : List Str) (B newId initId : String) (bmB : List Value) where
  C : Addr
  f : Addr
  fd : FuncData
  g : mg x = some (.ref C)
  T : XC K C B newId initId bmB
  iC : PySem.W.findIn K (.ref C) "__init__" = some (some (.ref f))
  tI : PySem.W.typeIn K (.ref f) = some (.type "function")
  F : Fun K "__init__" qual st f fd
  b : Binds K fd ps []
  xf : XF K C
  no : ∀ n, nm.contains n = true → PySem.W.findIn K (.ref C) n = some none
  ty : PySem.W.typeIn K (.ref C) = some (.type "type")
structure Txt (K : PySem.W.Frag) (mg : Str → Option Value) where
  z_IndexError : mg "IndexError" = none
  z_LookupError : mg "LookupError" = none
  z_ValueError : mg "ValueError" = none
  z_abs : mg "abs" = none
  z_all : mg "all" = none
  z_bool : mg "bool" = none
  z_int : mg "int" = none
  z_isinstance : mg "isinstance" = none
  z_len : mg "len" = none
  z_list : mg "list" = none
  z_range : mg "range" = none
  z_str : mg "str" = none
  z_tuple : mg "tuple" = none
  z_zip : mg "zip" = none
  d__law_bag : Def K mg "_law_bag" s_law_bag ["_law_script"]
  d__law_draw : Def K mg "_law_draw" s_law_draw ["_law_bag_here", "_law_many"]
  d__law_of : Def K mg "_law_of" s_law_of ["_law_bag_here", "_law_some"]
  d__law_same : Def K mg "_law_same" s_law_same ["_law_found", "_law_due"]
  d__law_fields : Def K mg "_law_fields" s_law_fields ["_law_e"]
  d__law_by_name : Def K mg "_law_by_name" s_law_by_name ["_law_first", "_law_second", "_law_third"]
  d__law_by_place : Def K mg "_law_by_place" s_law_by_place ["_law_first", "_law_second", "_law_third"]
  d__law_codes : Def K mg "_law_codes" s_law_codes []
  d__law_classes : Def K mg "_law_classes" s_law_classes ["_law_e"]
  d__law_caught : Def K mg "_law_caught" s_law_caught ["_law_way", "_law_thing"]
  d_law : Def K mg "law" s_law ["_law_script"]
  x_InvalidName : DX K mg "InvalidName" "InvalidName.__init__" (inS 2) ["self", "value"] ["value", "code"] "ValueError" "ValueError.__new__" "ValueError.__init__" [.type "ValueError", .type "Exception", .type "BaseException", .type "object"]
  x_InvalidNumber : DX K mg "InvalidNumber" "InvalidNumber.__init__" (inS 3) ["self", "value"] ["value", "code"] "ValueError" "ValueError.__new__" "ValueError.__init__" [.type "ValueError", .type "Exception", .type "BaseException", .type "object"]
  x_InvalidSection : DX K mg "InvalidSection" "InvalidSection.__init__" (inS 4) ["self", "value"] ["value", "code"] "ValueError" "ValueError.__new__" "ValueError.__init__" [.type "ValueError", .type "Exception", .type "BaseException", .type "object"]
  x_InvalidTimes : DX K mg "InvalidTimes" "InvalidTimes.__init__" (inS 5) ["self", "value"] ["value", "code"] "ValueError" "ValueError.__new__" "ValueError.__init__" [.type "ValueError", .type "Exception", .type "BaseException", .type "object"]
  x_InvalidStep : DX K mg "InvalidStep" "InvalidStep.__init__" (inS 6) ["self", "value"] ["value", "code"] "ValueError" "ValueError.__new__" "ValueError.__init__" [.type "ValueError", .type "Exception", .type "BaseException", .type "object"]
  x_InvalidStanding : DX K mg "InvalidStanding" "InvalidStanding.__init__" (inS 7) ["self", "value"] ["value", "code"] "ValueError" "ValueError.__new__" "ValueError.__init__" [.type "ValueError", .type "Exception", .type "BaseException", .type "object"]
  x_InvalidRow : DX K mg "InvalidRow" "InvalidRow.__init__" (inS 8) ["self", "value"] ["value", "code"] "ValueError" "ValueError.__new__" "ValueError.__init__" [.type "ValueError", .type "Exception", .type "BaseException", .type "object"]
  x_InvalidTable : DX K mg "InvalidTable" "InvalidTable.__init__" (inS 9) ["self", "value"] ["value", "code"] "ValueError" "ValueError.__new__" "ValueError.__init__" [.type "ValueError", .type "Exception", .type "BaseException", .type "object"]
  x_InvalidDelays : DX K mg "InvalidDelays" "InvalidDelays.__init__" (inS 10) ["self", "value"] ["value", "code"] "ValueError" "ValueError.__new__" "ValueError.__init__" [.type "ValueError", .type "Exception", .type "BaseException", .type "object"]
  x_InvalidPeriod : DX K mg "InvalidPeriod" "InvalidPeriod.__init__" (inS 11) ["self", "value"] ["value", "code"] "ValueError" "ValueError.__new__" "ValueError.__init__" [.type "ValueError", .type "Exception", .type "BaseException", .type "object"]
  x_InvalidHeights : DX K mg "InvalidHeights" "InvalidHeights.__init__" (inS 12) ["self", "value"] ["value", "code"] "ValueError" "ValueError.__new__" "ValueError.__init__" [.type "ValueError", .type "Exception", .type "BaseException", .type "object"]
  x_InvalidDeed : DX K mg "InvalidDeed" "InvalidDeed.__init__" (inS 13) ["self", "value"] ["value", "code"] "ValueError" "ValueError.__new__" "ValueError.__init__" [.type "ValueError", .type "Exception", .type "BaseException", .type "object"]
  x_InvalidTurn : DX K mg "InvalidTurn" "InvalidTurn.__init__" (inS 14) ["self", "at"] ["at", "code"] "ValueError" "ValueError.__new__" "ValueError.__init__" [.type "ValueError", .type "Exception", .type "BaseException", .type "object"]
  x_InvalidWait : DX K mg "InvalidWait" "InvalidWait.__init__" (inS 15) ["self", "at"] ["at", "code"] "ValueError" "ValueError.__new__" "ValueError.__init__" [.type "ValueError", .type "Exception", .type "BaseException", .type "object"]
  x_InvalidWish : DX K mg "InvalidWish" "InvalidWish.__init__" (inS 16) ["self", "at"] ["at", "code"] "ValueError" "ValueError.__new__" "ValueError.__init__" [.type "ValueError", .type "Exception", .type "BaseException", .type "object"]
  x_InvalidJourney : DX K mg "InvalidJourney" "InvalidJourney.__init__" (inS 17) ["self", "at"] ["at", "code"] "ValueError" "ValueError.__new__" "ValueError.__init__" [.type "ValueError", .type "Exception", .type "BaseException", .type "object"]
  x_InvalidText : DX K mg "InvalidText" "InvalidText.__init__" (inS 18) ["self", "line"] ["line", "code"] "ValueError" "ValueError.__new__" "ValueError.__init__" [.type "ValueError", .type "Exception", .type "BaseException", .type "object"]
  x_DuplicateName : DX K mg "DuplicateName" "DuplicateName.__init__" (inS 19) ["self", "name"] ["name", "code"] "ValueError" "ValueError.__new__" "ValueError.__init__" [.type "ValueError", .type "Exception", .type "BaseException", .type "object"]
  x_InUse : DX K mg "InUse" "InUse.__init__" (inS 20) ["self", "name"] ["name", "code"] "ValueError" "ValueError.__new__" "ValueError.__init__" [.type "ValueError", .type "Exception", .type "BaseException", .type "object"]
  x_TakenEnd : DX K mg "TakenEnd" "TakenEnd.__init__" (inS 21) ["self", "end"] ["end", "code"] "ValueError" "ValueError.__new__" "ValueError.__init__" [.type "ValueError", .type "Exception", .type "BaseException", .type "object"]
  x_LooseEnd : DX K mg "LooseEnd" "LooseEnd.__init__" (inS 22) ["self", "end"] ["end", "code"] "ValueError" "ValueError.__new__" "ValueError.__init__" [.type "ValueError", .type "Exception", .type "BaseException", .type "object"]
  x_TooMany : DX K mg "TooMany" "TooMany.__init__" (inS 23) ["self", "subject", "most"] ["subject", "most", "code"] "ValueError" "ValueError.__new__" "ValueError.__init__" [.type "ValueError", .type "Exception", .type "BaseException", .type "object"]
  x_MisplacedStep : DX K mg "MisplacedStep" "MisplacedStep.__init__" (inS 24) ["self", "train", "step"] ["train", "step", "code"] "ValueError" "ValueError.__new__" "ValueError.__init__" [.type "ValueError", .type "Exception", .type "BaseException", .type "object"]
  x_OwnRing : DX K mg "OwnRing" "OwnRing.__init__" (inS 25) ["self", "train", "step", "element"] ["train", "step", "element", "code"] "ValueError" "ValueError.__new__" "ValueError.__init__" [.type "ValueError", .type "Exception", .type "BaseException", .type "object"]
  x_Refused : DX K mg "Refused" "Refused.__init__" (inS 26) ["self", "train", "element", "holder"] ["train", "element", "holder", "code"] "ValueError" "ValueError.__new__" "ValueError.__init__" [.type "ValueError", .type "Exception", .type "BaseException", .type "object"]
  x_Lacking : DX K mg "Lacking" "Lacking.__init__" (inS 27) ["self", "train", "other"] ["train", "other", "code"] "ValueError" "ValueError.__new__" "ValueError.__init__" [.type "ValueError", .type "Exception", .type "BaseException", .type "object"]
  x_Unready : DX K mg "Unready" "Unready.__init__" (inS 28) ["self", "train"] ["train", "code"] "ValueError" "ValueError.__new__" "ValueError.__init__" [.type "ValueError", .type "Exception", .type "BaseException", .type "object"]
  x_Finished : DX K mg "Finished" "Finished.__init__" (inS 29) ["self", "train"] ["train", "code"] "ValueError" "ValueError.__new__" "ValueError.__init__" [.type "ValueError", .type "Exception", .type "BaseException", .type "object"]
  x_Barred : DX K mg "Barred" "Barred.__init__" (inS 30) ["self", "train", "step"] ["train", "step", "code"] "ValueError" "ValueError.__new__" "ValueError.__init__" [.type "ValueError", .type "Exception", .type "BaseException", .type "object"]
  x_NoDay : DX K mg "NoDay" "NoDay.__init__" (inS 31) ["self"] ["code"] "ValueError" "ValueError.__new__" "ValueError.__init__" [.type "ValueError", .type "Exception", .type "BaseException", .type "object"]
  x_Doomed : DX K mg "Doomed" "Doomed.__init__" (inS 32) ["self"] ["code"] "ValueError" "ValueError.__new__" "ValueError.__init__" [.type "ValueError", .type "Exception", .type "BaseException", .type "object"]
  x_NeverCleared : DX K mg "NeverCleared" "NeverCleared.__init__" (inS 33) ["self", "train", "step", "element"] ["train", "step", "element", "code"] "ValueError" "ValueError.__new__" "ValueError.__init__" [.type "ValueError", .type "Exception", .type "BaseException", .type "object"]
  x_NoPeriod : DX K mg "NoPeriod" "NoPeriod.__init__" (inS 34) ["self"] ["code"] "ValueError" "ValueError.__new__" "ValueError.__init__" [.type "ValueError", .type "Exception", .type "BaseException", .type "object"]
  x_TooShort : DX K mg "TooShort" "TooShort.__init__" (inS 35) ["self", "period"] ["period", "code"] "ValueError" "ValueError.__new__" "ValueError.__init__" [.type "ValueError", .type "Exception", .type "BaseException", .type "object"]
  x_UnknownName : DX K mg "UnknownName" "UnknownName.__init__" (inS 37) ["self", "name"] ["name", "code"] "LookupError" "LookupError.__new__" "LookupError.__init__" [.type "LookupError", .type "Exception", .type "BaseException", .type "object"]
  x_UnknownEnd : DX K mg "UnknownEnd" "UnknownEnd.__init__" (inS 38) ["self", "end"] ["end", "code"] "LookupError" "LookupError.__new__" "LookupError.__init__" [.type "LookupError", .type "Exception", .type "BaseException", .type "object"]
  x_UnknownEntry : DX K mg "UnknownEntry" "UnknownEntry.__init__" (inS 39) ["self", "entry"] ["entry", "code"] "LookupError" "LookupError.__new__" "LookupError.__init__" [.type "LookupError", .type "Exception", .type "BaseException", .type "object"]
  x_NothingLeft : DX K mg "NothingLeft" "NothingLeft.__init__" (inS 40) ["self"] ["code"] "IndexError" "IndexError.__new__" "IndexError.__init__" [.type "IndexError", .type "LookupError", .type "Exception", .type "BaseException", .type "object"]
  a_DayError : Addr
  c_DayError : mg "DayError" = some (.ref a_DayError)
  a_Missing : Addr
  c_Missing : mg "Missing" = some (.ref a_Missing)
def Txt.cs {K : PySem.W.Frag} {mg : Str → Option Value} (T : Txt K mg) : List Addr := [T.x_InvalidName.C, T.x_InvalidNumber.C, T.x_InvalidSection.C, T.x_InvalidTimes.C, T.x_InvalidStep.C, T.x_InvalidStanding.C, T.x_InvalidRow.C, T.x_InvalidTable.C, T.x_InvalidDelays.C, T.x_InvalidPeriod.C, T.x_InvalidHeights.C, T.x_InvalidDeed.C, T.x_InvalidTurn.C, T.x_InvalidWait.C, T.x_InvalidWish.C, T.x_InvalidJourney.C, T.x_InvalidText.C, T.x_DuplicateName.C, T.x_InUse.C, T.x_TakenEnd.C, T.x_LooseEnd.C, T.x_TooMany.C, T.x_MisplacedStep.C, T.x_OwnRing.C, T.x_Refused.C, T.x_Lacking.C, T.x_Unready.C, T.x_Finished.C, T.x_Barred.C, T.x_NoDay.C, T.x_Doomed.C, T.x_NeverCleared.C, T.x_NoPeriod.C, T.x_TooShort.C, T.x_UnknownName.C, T.x_UnknownEnd.C, T.x_UnknownEntry.C, T.x_NothingLeft.C]
def clsV (c : Nat × Value) : Value := c.2
def bl (c : Addr) (i r m n : Int) : HO := .lst [.ref c, .int i, .int r, .int m, .int n]
section
variable {P : Program} {w : World} {K : PySem.W.Frag} {mg : Str → Option Value} {base : Heap}
def spDraw : Sp := fun vs H Q _ => ∃ (b : Addr) (k : Int), vs = [.ref b, .int k] ∧ Bag H b ∧ 0 < k ∧ k < 1000000 ∧
  ∀ d H', Go b H H' → 0 ≤ d → d < k → Q (.int d) H'
theorem at0 {α : Type} {x : α} {r : List α} : atI (x :: r) 0 = some x := atI_nat (j := 0) rfl
theorem ok_law_draw (T : Txt K mg) : FnOk P w K mg base CX0 1 T.d__law_draw.f T.d__law_draw.fd ["_law_bag_here", "_law_many"] spDraw := by
  refine T.d__law_draw.F.ok sc_law_draw (fun vs H Q E h => ?_) (fun cdv A outer s H vs Q E hr h => ?_)
  · obtain ⟨b, k, rfl, _⟩ := h
    rfl
  · obtain ⟨b, k, rfl, hB, k0, k1, q⟩ := h
    refine ⟨_, (pss_cut (ps_asg (pe_op op_add (pe_ix ix_list (pv 0) pe_int (fun _ _ => rfl)) pe_int) (pg_sub (pv 0) pe_int set_list))
      (pss_cut (ps_if (PW.pt (pw_and (pt_cmpR op_eq (pe_ix ix_list (pv 0) pe_int (fun _ _ => rfl)) pe_int (nomark _)) (pw_and1 (pt_cmpR op_lt (pe_ix ix_list (pv 0) pe_int (fun _ _ => rfl)) (pe_callB call_len_seq (by rfl) T.z_len (by decide +kernel) (pa_cons (pe_ix ix_list (pv 0) pe_int (fun _ _ => rfl)) pa_nil)) (nomark _))))) (pss_cons (ps_set (i := 2) sc_law_draw.nd rfl (Or.inl rfl) (pe_callB call_abs (by rfl) T.z_abs (by decide +kernel) (pa_cons (pe_ix ix_list (pe_ix ix_list (pv 0) pe_int (fun _ _ => rfl)) (pe_ix ix_list (pv 0) pe_int (fun _ _ => rfl)) (fun _ _ => rfl)) pa_nil)))
      (pss_cons (ps_asg (pe_op op_add (pe_ix ix_list (pv 0) pe_int (fun _ _ => rfl)) pe_int) (pg_sub (pv 0) pe_int set_list))
      (pss_one (ps_if (pt_cmpR op_ge (pv 2) (pe_op op_pow pe_int pe_int) (nomark _)) (pss_one (ps_asg (pv 2) (pg_sub (pv 0) pe_int set_list))) (pss_one (ps_asg (pe_op op_mod (pe_callTy call_int1 (by rfl) T.z_int (by decide +kernel) (pa_cons (pe_op op_add (pe_op op_add (pe_op op_mul (pe_ix ix_list (pv 0) pe_int (fun _ _ => rfl)) pe_int) (pe_op op_mul (pe_op op_mod (pe_callTy call_int1 (by rfl) T.z_int (by decide +kernel) (pa_cons (pv 2) pa_nil)) pe_int) pe_int)) pe_int) pa_nil)) pe_int) (pg_sub (pv 0) pe_int set_list))))))) pss_nil)
      (pss_cut (ps_if (pt_cmpR op_gt (pe_ix ix_list (pv 0) pe_int (fun _ _ => rfl)) pe_int (nomark _)) (pss_cons (ps_set (i := 3) sc_law_draw.nd rfl (Or.inl rfl) (pe_op op_mod (pe_callTy call_int1 (by rfl) T.z_int (by decide +kernel) (pa_cons (pe_ix ix_list (pv 0) pe_int (fun _ _ => rfl)) pa_nil)) (pv 1)))
      (pss_cons (ps_asg (pe_op op_fdiv (pe_ix ix_list (pv 0) pe_int (fun _ _ => rfl)) (pv 1)) (pg_sub (pv 0) pe_int set_list))
      (pss_one (ps_ret (pv 3))))) pss_nil)
      (pss_cons (ps_set (i := 4) sc_law_draw.nd rfl (Or.inl rfl) (pe_op op_mod (pe_callTy call_int1 (by rfl) T.z_int (by decide +kernel) (pa_cons (pe_op op_add (pe_op op_mul (pe_ix ix_list (pv 0) pe_int (fun _ _ => rfl)) (pe_ix ix_list (pv 0) pe_int (fun _ _ => rfl))) (pe_op op_mul (pe_ix ix_list (pv 0) pe_int (fun _ _ => rfl)) pe_int)) pa_nil)) pe_int))
      (pss_cons (ps_asg (pe_op op_mod (pe_callTy call_int1 (by rfl) T.z_int (by decide +kernel) (pa_cons (pe_op op_add (pe_op op_add (pe_op op_mul (pv 4) pe_int) (pe_op op_mul (pe_ix ix_list (pv 0) pe_int (fun _ _ => rfl)) pe_int)) pe_int) pa_nil)) pe_int) (pg_sub (pv 0) pe_int set_list))
      (pss_one (ps_ret (pe_op op_mod (pe_callTy call_int1 (by rfl) T.z_int (by decide +kernel) (pa_cons (pe_op op_add (pe_op op_fdiv (pe_ix ix_list (pv 0) pe_int (fun _ _ => rfl)) pe_int) (pe_op op_mul (pe_op op_mod (pe_callTy call_int1 (by rfl) T.z_int (by decide +kernel) (pa_cons (pe_ix ix_list (pv 0) pe_int (fun _ _ => rfl)) pa_nil)) pe_int) pe_int)) pa_nil)) (pv 1))))))))), ?_⟩
    obtain ⟨c, ns, i, r, m, n, hb, hc, ec, i0, r0, m0, m1⟩ := hB
    have hcb : ∀ o, (upd H b o) c = some (.lst (ns.map V.int)) := fun o => by rw [upd_ne hc]; exact ec
    refine ⟨fun σ H' => σ = [some (.ref b), some (.int k), none, none, none] ∧ H' = upd H b (bl c i r m (n + 1)), ?_, ?_⟩
    · refine ⟨.ref b, rfl, b, _, 4, .int n, rfl, rfl, SqL.of hb, atI_nat (j := 4) rfl, n, 1, rfl, rfl, .ref b, rfl, b, _, 4, 4, rfl, rfl, hb, rfl, rfl, rfl⟩
    rintro σ H' ⟨rfl, rfl⟩
    refine ⟨fun σ H' => ∃ v i r m n, σ = [some (.ref b), some (.int k), v, none, none] ∧ H' = upd H b (bl c i r m n) ∧ 0 ≤ i ∧ 0 ≤ r ∧ 0 ≤ m ∧ m < 2147483587, ?_, ?_⟩
    · refine ⟨.ref b, rfl, b, _, 2, .int r, rfl, rfl, SqL.of upd_same, atI_nat (j := 2) rfl, rfl, _, rfl, ite2 (fun e => ?_) (fun e => ?_)⟩
      · refine ⟨.ref b, rfl, b, _, 1, .int i, rfl, rfl, SqL.of upd_same, atI_nat (j := 1) rfl, .ref b, rfl, b, _, 0, .ref c, rfl, rfl, SqL.of upd_same, atI_nat (j := 0) rfl, c, _, rfl, .inl (SqL.of (hcb _)), i, _, rfl, rfl, _, rfl, ite2 (fun e2 => ?_) (fun e2 => ?_)⟩
        · have hi : i < ns.length := by
            have := of_decide_eq_true e2
            rw [List.length_map] at this
            exact this
          obtain ⟨x, hx⟩ : ∃ x, (ns.map V.int)[i.toNat]? = some (.int x) := by
            have hj : i.toNat < ns.length := by omega
            exact ⟨ns[i.toNat], by rw [List.getElem?_map, List.getElem?_eq_getElem hj]; rfl⟩
          have ha : atI (ns.map V.int) i = some (.int x) := by
            have := atI_nat hx
            rwa [Int.toNat_of_nonneg i0] at this
          refine ⟨.ref b, rfl, b, _, 0, .ref c, rfl, rfl, SqL.of upd_same, atI_nat (j := 0) rfl, .ref b, rfl, b, _, 1, .int i, rfl, rfl, SqL.of upd_same, atI_nat (j := 1) rfl, c, _, i, .int x, rfl, rfl, SqL.of (hcb _), ha, x, rfl, ?_⟩
          generalize ey : (if x < 0 then -x else x) = y
          have y0 : 0 ≤ y := by rw [← ey]; split <;> omega
          refine ⟨.ref b, rfl, b, _, 1, .int i, rfl, rfl, SqL.of upd_same, atI_nat (j := 1) rfl, i, 1, rfl, rfl, .ref b, rfl, b, _, 1, 1, rfl, rfl, upd_same, rfl, ?_⟩
          rw [upd_upd]
          refine ⟨.int y, rfl, 10, 18, rfl, rfl, ⟨by decide, by decide, by decide⟩, y, _, rfl, rfl, _, rfl, ite2 (fun e3 => ?_) (fun e3 => ?_)⟩
          · refine ⟨.int y, rfl, .ref b, rfl, b, _, 2, 2, rfl, rfl, upd_same, rfl, ?_⟩
            rw [upd_upd]
            exact ⟨_, i + 1, y, m, n + 1, rfl, rfl, by omega, y0, m0, m1⟩
          · refine ⟨.ref b, rfl, b, _, 3, .int m, rfl, rfl, SqL.of upd_same, atI_nat (j := 3) rfl, m, _, rfl, rfl, .inr ⟨by decide, by decide⟩, .int y, rfl, .inl ⟨y, rfl, y, _, rfl, rfl, (by show (0 : Int) < 1000033; decide), _, _, rfl, rfl, .inr ⟨by decide, by decide⟩, _, _, rfl, rfl, _, _, rfl, rfl, .inl ⟨_, rfl, ?_⟩⟩⟩
            refine ⟨_, _, rfl, rfl, (by show (0 : Int) < 2147483587; decide), .ref b, rfl, b, _, 3, 3, rfl, rfl, upd_same, rfl, ?_⟩
            rw [upd_upd]
            exact ⟨_, i + 1, r, _, n + 1, rfl, rfl, by omega, r0, Int.emod_nonneg _ (by decide), Int.emod_lt_of_pos _ (by decide)⟩
        · exact ⟨none, i, r, m, n + 1, rfl, rfl, i0, r0, m0, m1⟩
      · exact iteF ⟨none, i, r, m, n + 1, rfl, rfl, i0, r0, m0, m1⟩
    rintro σ H' ⟨v, i, r, m, n, rfl, rfl, i0, r0, m0, m1⟩
    have fin : ∀ i r m n : Int, 0 ≤ i → 0 ≤ r → 0 ≤ m → m < 2147483587 → Go b H (upd H b (bl c i r m n)) := fun i r m n i0 r0 m0 m1 =>
      ⟨⟨c, ns, i, r, m, n, upd_same, hc, hcb _, i0, r0, m0, m1⟩, fun a o na e => by rw [upd_ne na]; exact e, fun c2 h2 => by
        obtain ⟨r2, e2⟩ := h2
        rw [hb] at e2
        cases e2
        exact ⟨_, upd_same⟩⟩
    refine ⟨fun σ H' => σ = [some (.ref b), some (.int k), v, none, none] ∧ H' = upd H b (bl c i r m n), ?_, ?_⟩
    · refine ⟨.ref b, rfl, b, _, 2, .int r, rfl, rfl, SqL.of upd_same, atI_nat (j := 2) rfl, r, _, rfl, rfl, _, rfl, ite2 (fun e => ?_) (fun e => ?_)⟩
      · refine ⟨.ref b, rfl, b, _, 2, .int r, rfl, rfl, SqL.of upd_same, atI_nat (j := 2) rfl, .inl ⟨r, rfl, .int k, rfl, r, k, rfl, rfl, k0, ?_⟩⟩
        refine ⟨.ref b, rfl, b, _, 2, .int r, rfl, rfl, SqL.of upd_same, atI_nat (j := 2) rfl, .int k, rfl, r, k, rfl, rfl, ⟨k0, by omega⟩, .ref b, rfl, b, _, 2, 2, rfl, rfl, upd_same, rfl, ?_⟩
        rw [upd_upd]
        refine ⟨_, rfl, ?_⟩
        exact q _ _ (fin i (r / k) m n i0 (Int.ediv_nonneg r0 (by omega)) m0 m1) (Int.emod_nonneg _ (by omega)) (Int.emod_lt_of_pos _ k0)
      · exact ⟨rfl, rfl⟩
    rintro σ H' ⟨rfl, rfl⟩
    refine ⟨.ref b, rfl, b, _, 3, .int m, rfl, rfl, SqL.of upd_same, atI_nat (j := 3) rfl, .ref b, rfl, b, _, 3, .int m, rfl, rfl, SqL.of upd_same, atI_nat (j := 3) rfl, m, m, rfl, rfl, .inl ⟨by omega, by omega⟩, .ref b, rfl, b, _, 4, .int n, rfl, rfl, SqL.of upd_same, atI_nat (j := 4) rfl, n, _, rfl, rfl, .inr ⟨by decide, by decide⟩, _, _, rfl, rfl, .inl ⟨_, rfl, _, _, rfl, rfl, (by show (0 : Int) < 2147483629; decide), ?_⟩⟩
    dsimp only
    generalize ez : (m * m + n * 10331) % 2147483629 = z
    have z0 : 0 ≤ z := by rw [← ez]; exact Int.emod_nonneg _ (by decide)
    have z1 : z < 2147483629 := by rw [← ez]; exact Int.emod_lt_of_pos _ (by decide)
    refine ⟨.int z, rfl, z, _, rfl, rfl, .inr ⟨by decide, by decide⟩, .ref b, rfl, b, _, 3, .int m, rfl, rfl, SqL.of upd_same, atI_nat (j := 3) rfl, m, _, rfl, rfl, .inr ⟨by decide, by decide⟩, _, _, rfl, rfl, _, _, rfl, rfl, .inl ⟨_, rfl, _, _, rfl, rfl, (by show (0 : Int) < 2147483587; decide), .ref b, rfl, b, _, 3, 3, rfl, rfl, upd_same, rfl, ?_⟩⟩
    rw [upd_upd]
    dsimp only
    generalize ey : (z * 19319 + m * 43037 + 70019) % 2147483587 = y
    have y0 : 0 ≤ y := by rw [← ey]; exact Int.emod_nonneg _ (by decide)
    have y1 : y < 2147483587 := by rw [← ey]; exact Int.emod_lt_of_pos _ (by decide)
    refine ⟨.ref b, rfl, b, _, 3, .int y, rfl, rfl, SqL.of upd_same, atI_nat (j := 3) rfl, y, _, rfl, rfl, ⟨by decide, by decide⟩, .ref b, rfl, b, _, 3, .int y, rfl, rfl, SqL.of upd_same, atI_nat (j := 3) rfl, .inl ⟨y, rfl, y, _, rfl, rfl, (by show (0 : Int) < 7919; decide), _, _, rfl, rfl, .inr ⟨by decide, by decide⟩, _, _, rfl, rfl, .inl ⟨_, rfl, .int k, rfl, _, k, rfl, rfl, k0, ?_⟩⟩⟩
    exact q _ _ (fin i r y n i0 r0 y0 y1) (Int.emod_nonneg _ (by omega)) (Int.emod_lt_of_pos _ k0)
end
end Rd
set_option maxHeartbeats 2000000
namespace Rd
open PySem PySem.Spec PyProof.Rows L2
open C8 (pss_cut tCut)
section
variable {P : Program} {w : World} {K : PySem.W.Frag} {mg : Str → Option Value} {base : Heap}
theorem same_new {H : Hp} {p : Addr} {o : HO} (h : H p = none) : Same H (upd H p o) := fun b x e => by
  rw [upd_ne (ne_of_none e h)]
  exact e
theorem ints_at {ns : List Int} {i : Nat} {y : V} (h : (ns.map V.int)[i]? = some y) : ∃ z, y = V.int z := by
  rw [List.getElem?_map] at h
  cases e : ns[i]? with
  | none => rw [e] at h; cases h
  | some z => rw [e] at h; exact ⟨z, (Option.some.inj h).symm⟩
theorem cut63 (ns : List Int) (h : ns.length ≤ 63) : cutV (ns.map V.int) none (some 63) = ns.map V.int := by
  unfold cutV
  have e1 : HT.sIx (ns.map V.int).length 0 none = 0 := HT.sIx_none _ _
  have e2 : HT.sIx (ns.map V.int).length (ns.map V.int).length (some 63) = min 63 (ns.map V.int).length := HT.sIx_nat _ _ 63
  rw [e1, e2, List.drop_zero, List.length_map]
  exact List.take_of_length_le (by rw [List.length_map]; omega)
def spBag (K : PySem.W.Frag) : Sp := fun vs H Q _ => ∃ (a : Addr) (ns : List Int), vs = [.ref a] ∧ SqL K H a (ns.map V.int) ∧ ns.length ≤ 63 ∧
  ∀ b H', H b = none → Same H H' → Bag H' b → Q (.ref b) H'
theorem ok_law_bag (T : Txt K mg) : FnOk P w K mg base CX0 1 T.d__law_bag.f T.d__law_bag.fd ["_law_script"] (spBag K) := by
  refine T.d__law_bag.F.ok sc_law_bag (fun vs H Q E h => ?_) (fun cdv A outer s H vs Q E hr h => ?_)
  · obtain ⟨b, k, rfl, _⟩ := h
    rfl
  · obtain ⟨a, ns, rfl, hS, hl, q⟩ := h
    refine ⟨_, (pss_cons (ps_set (i := 1) sc_law_bag.nd rfl (Or.inl rfl) pe_int)
      (pss_cons (ps_for PassesOwn.never rfl (pi_list (pe_slice sl_list (pv 0) po_none (po_some pe_int))) (pg_name (i := 2) sc_law_bag.nd rfl (Or.inl rfl)) (pss_one (ps_set (i := 1) sc_law_bag.nd rfl (Or.inl rfl) (pe_op op_mod (pe_callTy call_int1 (by rfl) T.z_int (by decide +kernel) (pa_cons (pe_op op_add (pe_op op_add (pe_op op_mul (pv 1) pe_int) (pe_op op_mul (pe_op op_mod (pe_callTy call_int1 (by rfl) T.z_int (by decide +kernel) (pa_cons (pv 2) pa_nil)) pe_int) pe_int)) pe_int) pa_nil)) pe_int))))
      (pss_one (ps_ret (pe_lst (pa_cons (pe_callTy call_list_of (by rfl) T.z_list (by decide +kernel) (pa_cons (pe_slice sl_list (pv 0) po_none (po_some pe_int)) pa_nil)) (pa_cons pe_int (pa_cons pe_int (pa_cons (pv 1) (pa_cons pe_int pa_nil)))))))))), ?_⟩
    refine ⟨.ref a, rfl, 63, rfl, a, _, rfl, hS, fun p np => ?_⟩
    rw [cut63 ns hl]
    refine ⟨p, rfl, ⟨_, SqL.of upd_same⟩, for_list (K := K) (a := p) (xs := ns.map V.int) (fun i σ H2 => ∃ (m : Int) (v : Option V), σ = [some (.ref a), some (.int m), v] ∧ 0 ≤ m ∧ m < 2147483587 ∧ H2 = upd H p (.lst (ns.map V.int)))
      ⟨12027, none, rfl, by decide, by decide, rfl⟩ (fun i σ H2 _ ⟨_, _, _, _, _, e⟩ => by rw [e]; exact SqL.of upd_same) ?_ ?_⟩
    · rintro i y σ H2 hi ⟨m, v, rfl, m0, m1, rfl⟩
      obtain ⟨z, rfl⟩ := ints_at hi
      refine ⟨.int m, rfl, m, _, rfl, rfl, .inr ⟨by decide, by decide⟩, .int z, rfl, .inl ⟨z, rfl, z, _, rfl, rfl, (by show (0 : Int) < 1000033; decide), _, _, rfl, rfl, .inr ⟨by decide, by decide⟩, _, _, rfl, rfl, _, _, rfl, rfl, .inl ⟨_, rfl, _, _, rfl, rfl, (by show (0 : Int) < 2147483563; decide), ?_⟩⟩⟩
      exact ⟨_, _, rfl, Int.emod_nonneg _ (by decide), Int.lt_of_lt_of_le (Int.emod_lt_of_pos _ (by decide)) (by decide), rfl⟩
    · rintro σ H2 ⟨m, v, rfl, m0, m1, rfl⟩
      refine ⟨.ref a, rfl, 63, rfl, a, _, rfl, (same_new np).seq hS, fun p2 np2 => ?_⟩
      rw [cut63 ns hl]
      refine ⟨p2, _, rfl, .inl (SqL.of upd_same), fun c nc => ⟨.int m, rfl, by show 5 ≤ sizeLine; decide, fun b nb => ?_⟩⟩
      have s1 := same_new (o := .lst (ns.map V.int)) np
      have s2 := s1.trans (same_new (o := .lst (ns.map V.int)) np2)
      have s3 := s2.trans (same_new (o := .lst (ns.map V.int)) nc)
      have ncb : c ≠ b := ne_of_none upd_same nb
      refine q b _ (s3.free nb) (s3.trans (same_new nb)) ⟨c, ns, 0, 0, m, 0, upd_same, ncb, by rw [upd_ne ncb]; exact upd_same, by decide, by decide, m0, m1⟩
/-! ### one of some -/
def spOfL : Sp := fun vs H Q _ => ∃ (b l : Addr) (xs : List V), vs = [.ref b, .ref l] ∧ Bag H b ∧ l ≠ b ∧ H l = some (.lst xs) ∧ 0 < xs.length ∧ xs.length < 1000 ∧
  ∀ v H', Go b H H' → v ∈ xs → Q v H'
theorem sc_of' : FnScope N_law_of ["_law_bag_here", "_law_some"] (defScope s_law_of) := sc_law_of
theorem atI_mem {xs : List V} {d : Int} (h0 : 0 ≤ d) (h1 : d < xs.length) : ∃ v, atI xs d = some v ∧ v ∈ xs := by
  have hj : d.toNat < xs.length := by omega
  refine ⟨xs[d.toNat], ?_, List.getElem_mem hj⟩
  have := atI_nat (xs := xs) (j := d.toNat) (v := xs[d.toNat]) (List.getElem?_eq_getElem hj)
  rwa [Int.toNat_of_nonneg h0] at this
theorem ok_law_ofL (T : Txt K mg) : FnOk P w K mg base CX0 2 T.d__law_of.f T.d__law_of.fd ["_law_bag_here", "_law_some"] spOfL := by
  refine T.d__law_of.F.ok sc_law_of (fun vs H Q E h => ?_) (fun cdv A outer s H vs Q E hr h => ?_)
  · obtain ⟨b, l, xs, rfl, _⟩ := h
    rfl
  · obtain ⟨b, l, xs, rfl, hB, nl, hl, h0, h1, q⟩ := h
    refine ⟨_, (pss_one (ps_ret (pe_ix ix_list (pv 1) (pe_call (ok_law_draw T) (hr.mono (by decide)) (by rfl) T.d__law_draw.g T.d__law_draw.F.kp T.d__law_draw.b .nil pass0 (pa_cons (pv 0) (pa_cons (pe_callB call_len_seq (by rfl) T.z_len (by decide +kernel) (pa_cons (pv 1) pa_nil)) pa_nil))) (fun _ _ => rfl)))), ?_⟩
    refine ⟨.ref l, rfl, .ref b, rfl, .ref l, rfl, l, xs, rfl, .inl (SqL.of hl), b, _, rfl, hB, by omega, by omega, fun d H' g d0 d1 => ?_⟩
    obtain ⟨v, hv, mv⟩ := atI_mem d0 d1
    exact ⟨l, xs, d, v, rfl, rfl, SqL.of (g.2 _ _ nl hl), hv, q v H' g mv⟩
/-- one sign of a text -/
def spOfS : Sp := fun vs H Q _ => ∃ (b : Addr) (z : Str), vs = [.ref b, .str z] ∧ Bag H b ∧ 0 < z.length ∧ z.length < 1000 ∧
  ∀ c H', Go b H H' → c ∈ z.cps.toList → Q (.str ⟨#[c]⟩) H'
theorem ok_law_ofS (T : Txt K mg) : FnOk P w K mg base CX0 2 T.d__law_of.f T.d__law_of.fd ["_law_bag_here", "_law_some"] spOfS := by
  refine T.d__law_of.F.ok sc_law_of (fun vs H Q E h => ?_) (fun cdv A outer s H vs Q E hr h => ?_)
  · obtain ⟨b, z, rfl, _⟩ := h
    rfl
  · obtain ⟨b, z, rfl, hB, h0, h1, q⟩ := h
    refine ⟨_, (pss_one (ps_ret (pe_ix ix_str (pv 1) (pe_call (ok_law_draw T) (hr.mono (by decide)) (by rfl) T.d__law_draw.g T.d__law_draw.F.kp T.d__law_draw.b .nil pass0 (pa_cons (pv 0) (pa_cons (pe_callB call_len_str (by rfl) T.z_len (by decide +kernel) (pa_cons (pv 1) pa_nil)) pa_nil))) (fun _ _ => rfl)))), ?_⟩
    refine ⟨.str z, rfl, .ref b, rfl, .str z, rfl, z, rfl, Nat.le_of_lt (small1000 (by omega)), b, _, rfl, hB, by omega, by omega, fun d H' g d0 d1 => ?_⟩
    have e : z.cps.toList.length = z.length := by simp [Str.length]
    have hj : d.toNat < z.cps.toList.length := by omega
    have ha := atI_nat (xs := z.cps.toList) (j := d.toNat) (List.getElem?_eq_getElem hj)
    rw [Int.toNat_of_nonneg d0] at ha
    exact ⟨z, d, _, rfl, rfl, Nat.le_of_lt (small1000 (by omega)), ha, q _ H' g (List.getElem_mem hj)⟩
end
end Rd
set_option maxHeartbeats 4000000
namespace Rd
open PySem PySem.Spec PyProof.Rows L2
open C8 (pss_cut tCut)
open RZ (ItzT pi_zipA)
/-! ### two values that are the same data -/
def isSc : V → Bool
  | .non => true
  | .bl _ => true
  | .int _ => true
  | .str _ => true
  | _ => false
def Eqv (K : PySem.W.Frag) (H : Hp) : Nat → V → V → Prop
  | 0, x, y => x = y ∧ isSc x = true
  | n + 1, x, y => (x = y ∧ isSc x = true) ∨ ∃ (a b : Addr) (xs ys : List V), x = .ref a ∧ y = .ref b ∧ ((SqL K H a xs ∧ SqL K H b ys) ∨ (SqT K H a xs ∧ SqT K H b ys)) ∧ xs.length = ys.length ∧ xs.length ≤ 1000 ∧
      ∀ (i : Nat) (x y : V), xs[i]? = some x → ys[i]? = some y → Eqv K H n x y
theorem Eqv.sc {K : PySem.W.Frag} {H : Hp} {x : V} (h : isSc x = true) : ∀ n, Eqv K H n x x
  | 0 => ⟨rfl, h⟩
  | _ + 1 => .inl ⟨rfl, h⟩
theorem same_seqT {K : PySem.W.Frag} {H H' : Hp} {a : Addr} {xs : List V} (e : Same H H') (h : SqT K H a xs) : SqT K H' a xs := by
  rcases h with (h | ⟨o, h⟩) | h
  · exact .inl (.inl (e _ _ h))
  · exact .inl (.inr ⟨o, e _ _ h⟩)
  · exact .inr h
theorem Eqv.same {K : PySem.W.Frag} {H H' : Hp} (s : Same H H') : ∀ {n : Nat} {x y : V}, Eqv K H n x y → Eqv K H' n x y
  | 0, _, _, h => h
  | n + 1, _, _, h => by
    rcases h with h | ⟨a, b, xs, ys, e1, e2, hq, l, l2, r⟩
    · exact .inl h
    · refine .inr ⟨a, b, xs, ys, e1, e2, ?_, l, l2, fun i x y h1 h2 => (r i x y h1 h2).same s⟩
      rcases hq with ⟨h1, h2⟩ | ⟨h1, h2⟩
      · exact .inl ⟨s.seq h1, s.seq h2⟩
      · exact .inr ⟨same_seqT s h1, same_seqT s h2⟩
theorem ty_seqL {K : PySem.W.Frag} {H : Hp} {a : Addr} {xs : List V} (h : SqL K H a xs) : TyX K H (.ref a) (.type "list") := by
  rcases h with (h | ⟨o, h⟩) | ⟨o, its, n, h, c, _⟩
  · exact .base (.lst h)
  · exact .base (.frz h)
  · exact .kList h c
theorem ty_seqT {K : PySem.W.Frag} {H : Hp} {a : Addr} {xs : List V} (h : SqT K H a xs) : TyX K H (.ref a) (.type "tuple") := by
  rcases h with (h | ⟨o, h⟩) | ⟨o, its, n, h, c, _⟩
  · exact .base (.tup h)
  · exact .fTuple h
  · exact .kTuple h c
/-- the built-in type of a value that is no object of an own class -/
def tyn : V → String
  | .non => "NoneType"
  | .bl _ => "bool"
  | .int _ => "int"
  | .str _ => "str"
  | _ => "list"
theorem ty_sc {K : PySem.W.Frag} {H : Hp} {x : V} (h : isSc x = true) : TyX K H x (.type (tyn x)) := by
  cases x with
  | non => exact .base .non
  | bl b => exact .base (.bl b)
  | int i => exact .base (.int i)
  | str s => exact .base (.str s)
  | _ => cases h
theorem kit2 {K : PySem.W.Frag} {t c1 c2 : String} {b1 b2 : Bool} (h1 : kitB t c1 = some b1) (h2 : kitB t c2 = some b2) : PySem.W.kitAny K (.type t) [.type c1, .type c2] = some (b1 || b2) := by
  refine kitAny_cons (kit_ty h1) (fun e => kitAny_cons (kit_ty h2) (fun e2 => ?_) fun e2 => ?_) fun e => ?_
  · rw [e, e2]; exact kitAny_nil
  · rw [e, e2]; rfl
  · rw [e]; rfl
section
variable {K : PySem.W.Frag} {a b : Addr} {xs ys : List V}
theorem walk_zipT {n : Nat} (hn : n = min xs.length ys.length) : Walk (ItzT K a b) n (fun H => SqT K H a xs ∧ SqT K H b ys) (YPair (fun i => xs[i]?) (fun i => ys[i]?)) where
  goes := fun i H hi q => by
    have h1 : i < xs.length := by omega
    have h2 : i < ys.length := by omega
    exact ⟨xs, ys, xs[i], ys[i], q.1, q.2, List.getElem?_eq_getElem h1, List.getElem?_eq_getElem h2⟩
  stops := fun H q => ⟨xs, ys, q.1, q.2, by omega⟩
  yields := fun i H v H' hi q y => by
    obtain ⟨T, x, z, h1, h2, h3, h4, h5⟩ := y
    exact ⟨T, x, z, h1, h2, h3, h4 xs q.1, h5 ys q.2⟩
end
section
variable {P : Program} {w : World} {K : PySem.W.Frag} {mg : Str → Option Value} {base : Heap}
def spSame (K : PySem.W.Frag) (n : Nat) : Sp := fun vs H Q _ => ∃ x y, vs = [x, y] ∧ Eqv K H n x y ∧ ∀ H', Same H H' → Q (.bl true) H'
theorem all_true (k : Nat) : (List.replicate k true).all id = true := by
  induction k with
  | zero => rfl
  | succ n ih => rw [List.replicate_succ, List.all_cons, ih]; rfl
theorem ok_law_same (T : Txt K mg) : ∀ n, FnOk P w K mg base CX0 (n + 1) T.d__law_same.f T.d__law_same.fd ["_law_found", "_law_due"] (spSame K n) := by
  -- the way of a value that is no list and no tuple
  have sc : ∀ (n : Nat) (x : V), isSc x = true → ∀ (cdv : Value) (A : Around) (outer : List Env) (s : Shared) (H : Hp) (Q : VK) (E : XK), Room n (A.deeper (envOfC "_law_same" (defScope s_law_same) s.heap.objs.size T.d__law_same.f cdv)) →
      (∀ H', Same H H' → Q (.bl true) H') →
      ∃ t, PSs (cxOf CX0 P w K mg base N_law_same "_law_same" (defScope s_law_same) T.d__law_same.f cdv A outer s H E).nox (defBody s_law_same) t ∧ t { nx := fun _ H' => Q .non H', rt := Q } (start N_law_same [x, x]) H := by
    intro n x hx cdv A outer s H Q E hr q
    refine ⟨_, (pss_cons (ps_if (PW.pt (pw_or (pt_cmpR op_isN (pv 1) pe_non (nomark _)) (pw_or1 (pt_cmpR op_isN (pv 0) pe_non (nomark _))))) (pss_one (ps_ret (pe_and (pe_cmpR op_isN (pv 1) pe_non (nomark _)) (pe_one (pe_cmpR op_isN (pv 0) pe_non (nomark _)))))) pss_nil)
      (pss_cons (ps_if (pt_val (pe_callB call_isiT (by rfl) T.z_isinstance (by decide +kernel) (pa_cons (pv 1) (pa_cons (pe_tup (pa_cons (pe_bltn (v := .ty "list") (by rfl) T.z_list (by decide +kernel) rfl) (pa_cons (pe_bltn (v := .ty "tuple") (by rfl) T.z_tuple (by decide +kernel) rfl) pa_nil))) pa_nil)))) (pss_cons ps_never (pss_one ps_never)) pss_nil)
      (pss_cons (ps_if (PW.pt (pw_or (pt_cmpR op_ne (pe_callB call_isi (by rfl) T.z_isinstance (by decide +kernel) (pa_cons (pv 0) (pa_cons (pe_bltn (v := .ty "bool") (by rfl) T.z_bool (by decide +kernel) rfl) pa_nil))) (pe_callB call_isi (by rfl) T.z_isinstance (by decide +kernel) (pa_cons (pv 1) (pa_cons (pe_bltn (v := .ty "bool") (by rfl) T.z_bool (by decide +kernel) rfl) pa_nil))) (nomark _)) (pw_or1 (pt_cmpR op_ne (pe_callB call_isi (by rfl) T.z_isinstance (by decide +kernel) (pa_cons (pv 0) (pa_cons (pe_bltn (v := .ty "int") (by rfl) T.z_int (by decide +kernel) rfl) pa_nil))) (pe_callB call_isi (by rfl) T.z_isinstance (by decide +kernel) (pa_cons (pv 1) (pa_cons (pe_bltn (v := .ty "int") (by rfl) T.z_int (by decide +kernel) rfl) pa_nil))) (nomark _))))) (pss_one (ps_ret pe_bl)) pss_nil)
      (pss_one (ps_ret (pe_and (pe_cmpR op_eq (pe_callB call_isi (by rfl) T.z_isinstance (by decide +kernel) (pa_cons (pv 0) (pa_cons (pe_bltn (v := .ty "str") (by rfl) T.z_str (by decide +kernel) rfl) pa_nil))) (pe_callB call_isi (by rfl) T.z_isinstance (by decide +kernel) (pa_cons (pv 1) (pa_cons (pe_bltn (v := .ty "str") (by rfl) T.z_str (by decide +kernel) rfl) pa_nil))) (nomark _)) (pe_one (pe_cmpR op_eq (pv 0) (pv 1) (nomark _))))))))), ?_⟩
    by_cases hn : x = .non
    · subst hn
      exact ⟨.non, rfl, rfl, true, rfl, iteT (iteT ⟨.non, rfl, rfl, true, rfl, iteT ⟨.non, rfl, rfl, q H (Same.refl H)⟩⟩)⟩
    · have hd : decide (x = V.non) = false := decide_eq_false hn
      refine ⟨x, rfl, rfl, false, by rw [hd], iteF ⟨x, rfl, rfl, false, by rw [hd], iteF ?_⟩⟩
      have kl : kitB (tyn x) "list" = some false ∧ kitB (tyn x) "tuple" = some false := by
        cases x with
        | non => exact absurd rfl hn
        | bl b => exact ⟨by show kitB "bool" _ = _; decide +kernel, by show kitB "bool" _ = _; decide +kernel⟩
        | int b => exact ⟨by show kitB "int" _ = _; decide +kernel, by show kitB "int" _ = _; decide +kernel⟩
        | str b => exact ⟨by show kitB "str" _ = _; decide +kernel, by show kitB "str" _ = _; decide +kernel⟩
        | _ => cases hx
      obtain ⟨bb, kb⟩ : ∃ bb, kitB (tyn x) "bool" = some bb := by
        cases x with
        | non => exact absurd rfl hn
        | bl b => exact ⟨true, by show kitB "bool" _ = _; decide +kernel⟩
        | int b => exact ⟨false, by show kitB "int" _ = _; decide +kernel⟩
        | str b => exact ⟨false, by show kitB "str" _ = _; decide +kernel⟩
        | _ => cases hx
      obtain ⟨bi, ki⟩ : ∃ bi, kitB (tyn x) "int" = some bi := by
        cases x with
        | non => exact absurd rfl hn
        | bl b => exact ⟨true, by show kitB "bool" _ = _; decide +kernel⟩
        | int b => exact ⟨true, by show kitB "int" _ = _; decide +kernel⟩
        | str b => exact ⟨false, by show kitB "str" _ = _; decide +kernel⟩
        | _ => cases hx
      obtain ⟨bs, ks⟩ : ∃ bs, kitB (tyn x) "str" = some bs := by
        cases x with
        | non => exact absurd rfl hn
        | bl b => exact ⟨false, by show kitB "bool" _ = _; decide +kernel⟩
        | int b => exact ⟨false, by show kitB "int" _ = _; decide +kernel⟩
        | str b => exact ⟨true, by show kitB "str" _ = _; decide +kernel⟩
        | _ => cases hx
      refine ⟨x, rfl, by show 2 ≤ sizeLine; decide, fun p np => ?_⟩
      refine ⟨x, p, [.ty "list", .ty "tuple"], _, _, false, rfl, upd_same, .cons (.ty _) (.cons (.ty _) .nil), ty_sc hx, kit2 kl.1 kl.2, false, rfl, iteF ?_⟩
      refine ⟨x, rfl, x, _, _, _, bb, rfl, .ty _, ty_sc hx, kit_ty kb, x, rfl, x, _, _, _, bb, rfl, .ty _, ty_sc hx, kit_ty kb, rfl, false, by rw [decide_eq_true rfl]; rfl, iteF ?_⟩
      refine ⟨x, rfl, x, _, _, _, bi, rfl, .ty _, ty_sc hx, kit_ty ki, x, rfl, x, _, _, _, bi, rfl, .ty _, ty_sc hx, kit_ty ki, rfl, false, by rw [decide_eq_true rfl]; rfl, iteF ?_⟩
      refine ⟨x, rfl, x, _, _, _, bs, rfl, .ty _, ty_sc hx, kit_ty ks, x, rfl, x, _, _, _, bs, rfl, .ty _, ty_sc hx, kit_ty ks, rfl, true, by rw [decide_eq_true rfl], iteT ?_⟩
      refine ⟨x, rfl, x, rfl, ?_, ?_⟩
      · cases x with
        | non => rfl
        | bl b => rfl
        | int b => rfl
        | str b => rfl
        | _ => cases hx
      · rw [decide_eq_true rfl]
        exact q _ (same_new np)
  intro n
  induction n with
  | zero =>
    refine T.d__law_same.F.ok sc_law_same (fun vs H Q E h => ?_) (fun cdv A outer s H vs Q E hr h => ?_)
    · obtain ⟨x, y, rfl, _⟩ := h
      rfl
    · obtain ⟨x, y, rfl, ⟨rfl, hx⟩, q⟩ := h
      exact sc 0 x hx cdv A outer s H Q E hr q
  | succ n ih =>
    refine T.d__law_same.F.ok sc_law_same (fun vs H Q E h => ?_) (fun cdv A outer s H vs Q E hr h => ?_)
    · obtain ⟨x, y, rfl, _⟩ := h
      rfl
    · obtain ⟨x, y, rfl, h, q⟩ := h
      rcases h with ⟨rfl, hx⟩ | ⟨a, b, xs, ys, rfl, rfl, hq, hl, hm, hr2⟩
      · exact sc (n + 1) x hx cdv A outer s H Q E hr q
      · refine ⟨_, (pss_cons (ps_if (PW.pt (pw_or (pt_cmpR op_isN (pv 1) pe_non (nomark _)) (pw_or1 (pt_cmpR op_isN (pv 0) pe_non (nomark _))))) (pss_one (ps_ret (pe_and (pe_cmpR op_isN (pv 1) pe_non (nomark _)) (pe_one (pe_cmpR op_isN (pv 0) pe_non (nomark _)))))) pss_nil)
      (pss_cons (ps_if (pt_val (pe_callB call_isiT (by rfl) T.z_isinstance (by decide +kernel) (pa_cons (pv 1) (pa_cons (pe_tup (pa_cons (pe_bltn (v := .ty "list") (by rfl) T.z_list (by decide +kernel) rfl) (pa_cons (pe_bltn (v := .ty "tuple") (by rfl) T.z_tuple (by decide +kernel) rfl) pa_nil))) pa_nil)))) (pss_cons (ps_if (PW.pt (pw_or (pt_cmpR op_ne (pe_callB call_isi (by rfl) T.z_isinstance (by decide +kernel) (pa_cons (pv 0) (pa_cons (pe_bltn (v := .ty "list") (by rfl) T.z_list (by decide +kernel) rfl) pa_nil))) (pe_callB call_isi (by rfl) T.z_isinstance (by decide +kernel) (pa_cons (pv 1) (pa_cons (pe_bltn (v := .ty "list") (by rfl) T.z_list (by decide +kernel) rfl) pa_nil))) (nomark _)) (pw_or1 (pt_cmpR op_ne (pe_callB call_isi (by rfl) T.z_isinstance (by decide +kernel) (pa_cons (pv 0) (pa_cons (pe_bltn (v := .ty "tuple") (by rfl) T.z_tuple (by decide +kernel) rfl) pa_nil))) (pe_callB call_isi (by rfl) T.z_isinstance (by decide +kernel) (pa_cons (pv 1) (pa_cons (pe_bltn (v := .ty "tuple") (by rfl) T.z_tuple (by decide +kernel) rfl) pa_nil))) (nomark _))))) (pss_one (ps_ret pe_bl)) pss_nil)
      (pss_one (ps_ret (pe_and (pe_cmpR op_eq (pe_callB call_len_seq (by rfl) T.z_len (by decide +kernel) (pa_cons (pv 0) pa_nil)) (pe_callB call_len_seq (by rfl) T.z_len (by decide +kernel) (pa_cons (pv 1) pa_nil)) (nomark _)) (pe_one (pe_callB (cr_all rfl) (by rfl) T.z_all (by decide +kernel) (pa_cons (pe_lc (own := [("_law_low", 2), ("_law_high", 3)]) (g := gTup K 2 (gCons (gName 2) (gCons (gName 3) gNil))) (tt := tYes) (by rfl) sc_law_same.nd (pi_zipA (by rfl) T.z_zip (pa_cons (pv 0) (pa_cons (pv 1) pa_nil))) (blkOk_by (own := [("_law_low", 2), ("_law_high", 3)]) (N := N_law_same) (sc := defScope s_law_same) (by decide +kernel)) (fun _ _ _ _ _ => (pg_tup rfl (pgs_cons (pg_name (i := 2) sc_law_same.nd rfl (Or.inl rfl)) (pgs_cons (pg_name (i := 3) sc_law_same.nd rfl (Or.inl rfl)) pgs_nil)))) (fun _ _ _ _ _ => pts_nil) (fun _ _ _ _ _ => (pe_call ih (hr.mono (Nat.le_refl _)) (by rfl) T.d__law_same.g T.d__law_same.F.kp T.d__law_same.b .nil pass0 (pa_cons (pv 2) (pa_cons (pv 3) pa_nil))))) pa_nil))))))) pss_nil)
      (pss_cons ps_never (pss_one ps_never)))), ?_⟩
        refine ⟨.ref b, rfl, rfl, false, rfl, iteF ⟨.ref a, rfl, rfl, false, rfl, iteF ?_⟩⟩
        obtain ⟨t, bl', bt, kl, kt, kor, tya, tyb⟩ : ∃ (t : String) (bl' bt : Bool), kitB t "list" = some bl' ∧ kitB t "tuple" = some bt ∧ (bl' || bt) = true ∧ (∀ H', Same H H' → TyX K H' (.ref a) (.type t)) ∧ (∀ H', Same H H' → TyX K H' (.ref b) (.type t)) := by
          rcases hq with ⟨h1, h2⟩ | ⟨h1, h2⟩
          · exact ⟨"list", true, false, by decide +kernel, by decide +kernel, rfl, fun _ s => ty_seqL (s.seq h1), fun _ s => ty_seqL (s.seq h2)⟩
          · exact ⟨"tuple", false, true, by decide +kernel, by decide +kernel, rfl, fun _ s => ty_seqT (same_seqT s h1), fun _ s => ty_seqT (same_seqT s h2)⟩
        refine ⟨.ref b, rfl, by show 2 ≤ sizeLine; decide, fun p np => ?_⟩
        have s1 := same_new (o := .tup [.ty "list", .ty "tuple"]) np
        refine ⟨.ref b, p, [.ty "list", .ty "tuple"], _, _, true, rfl, upd_same, .cons (.ty _) (.cons (.ty _) .nil), tyb _ s1, by rw [← kor]; exact kit2 kl kt, true, rfl, iteT ?_⟩
        refine ⟨.ref a, rfl, .ref a, _, _, _, bl', rfl, .ty _, tya _ s1, kit_ty kl, .ref b, rfl, .ref b, _, _, _, bl', rfl, .ty _, tyb _ s1, kit_ty kl, rfl, false, by rw [decide_eq_true rfl]; rfl, iteF ?_⟩
        refine ⟨.ref a, rfl, .ref a, _, _, _, bt, rfl, .ty _, tya _ s1, kit_ty kt, .ref b, rfl, .ref b, _, _, _, bt, rfl, .ty _, tyb _ s1, kit_ty kt, rfl, false, by rw [decide_eq_true rfl]; rfl, iteF ?_⟩
        have hq1 : (SqL K (upd H p (.tup [.ty "list", .ty "tuple"])) a xs ∧ SqL K (upd H p (.tup [.ty "list", .ty "tuple"])) b ys) ∨ (SqT K (upd H p (.tup [.ty "list", .ty "tuple"])) a xs ∧ SqT K (upd H p (.tup [.ty "list", .ty "tuple"])) b ys) := by
          rcases hq with ⟨h1, h2⟩ | ⟨h1, h2⟩
          · exact .inl ⟨s1.seq h1, s1.seq h2⟩
          · exact .inr ⟨same_seqT s1 h1, same_seqT s1 h2⟩
        generalize upd H p (.tup [.ty "list", .ty "tuple"]) = H1 at s1 hq1
        have hxa : SqL K H1 a xs ∨ SqT K H1 a xs := by rcases hq1 with ⟨h, _⟩ | ⟨h, _⟩; exact .inl h; exact .inr h
        have hyb : SqL K H1 b ys ∨ SqT K H1 b ys := by rcases hq1 with ⟨_, h⟩ | ⟨_, h⟩; exact .inl h; exact .inr h
        refine ⟨.ref a, rfl, a, xs, rfl, hxa, .ref b, rfl, b, ys, rfl, hyb, rfl, true, by rw [hl, decide_eq_true rfl], iteT ?_⟩
        refine ⟨.ref a, rfl, .ref b, rfl, a, b, xs, ys, rfl, ?_⟩
        have fin : ∀ D (H2 : Hp), (Same H1 H2 ∧ H2 D = some (.lst ((List.replicate xs.length true).map V.bl))) → ∃ (a : Addr) (bs : List Bool), [V.ref D] = [V.ref a] ∧ SqL K H2 a (bs.map V.bl) ∧ Q (.bl (bs.all id)) H2 := fun D H2 h => ⟨D, _, rfl, SqL.of h.2, by rw [all_true]; exact q _ (s1.trans h.1)⟩
        have hmin : xs.length = min xs.length ys.length := by omega
        rcases hq1 with ⟨h1, h2⟩ | ⟨h1, h2⟩
        · refine .inl ⟨h1, h2, fun D nD => lc_it (walk_zip (xs := xs) (ys := ys) hmin) (fun i H2 => Same H1 H2 ∧ H2 D = some (.lst ((List.replicate i true).map V.bl))) ⟨same_new nD, upd_same⟩ (fun i H2 _ h => ⟨h.1.seq h1, h.1.seq h2⟩) ?_ (fun H2 h => fin D H2 h)⟩
          rintro i x H2 H3 hi ⟨sm, eD⟩ ⟨T', u, v, rfl, nT, rfl, hu, hv⟩
          have sT := same_new (o := .tup [u, v]) nT
          refine ⟨T', [u, v], rfl, SqT.of upd_same, rfl, u, [v], rfl, v, [], rfl, rfl, rfl, ?_⟩
          refine ⟨u, rfl, v, rfl, u, v, rfl, (hr2 i u v hu hv).same (s1.trans (sm.trans sT)), fun H' s => ?_⟩
          refine ⟨_, s _ _ (sT _ _ eD), ?_, ?_, ?_⟩
          · rw [List.length_map, List.length_replicate]
            exact small1000 (by omega)
          · exact fun z o e => by rw [upd_ne (ne_of_none e nD)]; exact s _ _ (sT _ _ (sm _ _ e))
          · rw [upd_same, List.replicate_succ', List.map_append]
            rfl
        · refine .inr ⟨h1, h2, fun D nD => lc_it (walk_zipT (xs := xs) (ys := ys) hmin) (fun i H2 => Same H1 H2 ∧ H2 D = some (.lst ((List.replicate i true).map V.bl))) ⟨same_new nD, upd_same⟩ (fun i H2 _ h => ⟨same_seqT h.1 h1, same_seqT h.1 h2⟩) ?_ (fun H2 h => fin D H2 h)⟩
          rintro i x H2 H3 hi ⟨sm, eD⟩ ⟨T', u, v, rfl, nT, rfl, hu, hv⟩
          have sT := same_new (o := .tup [u, v]) nT
          refine ⟨T', [u, v], rfl, SqT.of upd_same, rfl, u, [v], rfl, v, [], rfl, rfl, rfl, ?_⟩
          refine ⟨u, rfl, v, rfl, u, v, rfl, (hr2 i u v hu hv).same (s1.trans (sm.trans sT)), fun H' s => ?_⟩
          refine ⟨_, s _ _ (sT _ _ eD), ?_, ?_, ?_⟩
          · rw [List.length_map, List.length_replicate]
            exact small1000 (by omega)
          · exact fun z o e => by rw [upd_ne (ne_of_none e nD)]; exact s _ _ (sT _ _ (sm _ _ e))
          · rw [upd_same, List.replicate_succ', List.map_append]
            rfl
end
end Rd
set_option maxHeartbeats 4000000
namespace Rd
open PySem PySem.Spec PyProof.Rows L2
open C8 (pss_cut tCut)
open RZ (ItzT pi_zipA)
/-! ## shapes of values: a constant, a value of some kind, a list, a tuple -/
inductive Sh where
  | c (x : V)
  | is (p : V → Prop)
  | l (xs : List Sh)
  | t (xs : List Sh)
  | o (xs : List Sh)
  | x (C : Addr) (fs : List (Str × V))
mutual
def Is (b : Addr) (H : Hp) : Sh → V → Prop
  | .c x, v => v = x
  | .is p, v => p v
  | .l xs, v => ∃ p vs, v = .ref p ∧ p ≠ b ∧ H p = some (.lst vs) ∧ IsAll b H xs vs
  | .t xs, v => ∃ p vs, v = .ref p ∧ p ≠ b ∧ H p = some (.tup vs) ∧ IsAll b H xs vs
  | .o xs, v => IsOne b H xs v
  | .x C fs, v => ∃ a d, v = .ref a ∧ a ≠ b ∧ d ≠ b ∧ H a = some (exo a C (some d)) ∧ H d = some (exd d fs)
def IsAll (b : Addr) (H : Hp) : List Sh → List V → Prop
  | [], vs => vs = []
  | s :: r, vs => ∃ v ws, vs = v :: ws ∧ Is b H s v ∧ IsAll b H r ws
def IsOne (b : Addr) (H : Hp) : List Sh → V → Prop
  | [], _ => False
  | s :: r, v => Is b H s v ∨ IsOne b H r v
end
mutual
theorem Is.go {b : Addr} {H H' : Hp} (g : Go b H H') : ∀ {s : Sh} {v : V}, Is b H s v → Is b H' s v
  | .c x, v, h => h
  | .is p, v, h => h
  | .l xs, v, h => by
    obtain ⟨p, vs, e, n, o, r⟩ := h
    exact ⟨p, vs, e, n, g.2 _ _ n o, IsAll.go g r⟩
  | .t xs, v, h => by
    obtain ⟨p, vs, e, n, o, r⟩ := h
    exact ⟨p, vs, e, n, g.2 _ _ n o, IsAll.go g r⟩
  | .o xs, v, h => IsOne.go g (show IsOne b H xs v from h)
  | .x C fs, v, h => by
    obtain ⟨a, d, e, n1, n2, o1, o2⟩ := h
    exact ⟨a, d, e, n1, n2, g.2 _ _ n1 o1, g.2 _ _ n2 o2⟩
theorem IsAll.go {b : Addr} {H H' : Hp} (g : Go b H H') : ∀ {ss : List Sh} {vs : List V}, IsAll b H ss vs → IsAll b H' ss vs
  | [], _, h => h
  | _ :: _, _, h => by
    obtain ⟨v, ws, e, r, q⟩ := h
    exact ⟨v, ws, e, Is.go g r, IsAll.go g q⟩
theorem IsOne.go {b : Addr} {H H' : Hp} (g : Go b H H') : ∀ {ss : List Sh} {v : V}, IsOne b H ss v → IsOne b H' ss v
  | [], _, h => h
  | _ :: _, _, h => by
    rcases h with h | h
    · exact .inl (Is.go g h)
    · exact .inr (IsOne.go g h)
end
theorem IsOne.mem {b : Addr} {H : Hp} : ∀ {ss : List Sh} {v : V}, IsOne b H ss v → ∃ s, s ∈ ss ∧ Is b H s v
  | [], _, h => by cases h
  | s :: _, _, h => by
    rcases h with h | h
    · exact ⟨s, List.mem_cons_self, h⟩
    · obtain ⟨s', m, k⟩ := h.mem
      exact ⟨s', List.mem_cons_of_mem _ m, k⟩
theorem IsOne.of {b : Addr} {H : Hp} : ∀ {ss : List Sh} {v : V} {s : Sh}, s ∈ ss → Is b H s v → IsOne b H ss v
  | s' :: _, _, _, m, h => by
    rcases List.mem_cons.mp m with rfl | m
    · exact .inl h
    · exact .inr (IsOne.of m h)
/-- one of some constants, of all of which p holds -/
theorem one_c {b : Addr} {H : Hp} {v : V} (p : V → Bool) : ∀ {ys : List V}, ys.all p = true → IsOne b H (ys.map Sh.c) v → p v = true
  | [], _, h => by cases h
  | y :: ys, a, h => by
    rw [List.all_cons, Bool.and_eq_true] at a
    rcases h with h | h
    · rw [show v = y from h]; exact a.1
    · exact one_c p a.2 h
theorem IsAll.length {b : Addr} {H : Hp} : ∀ {ss : List Sh} {vs : List V}, IsAll b H ss vs → vs.length = ss.length
  | [], _, h => by rw [show _ = [] from h]; rfl
  | _ :: _, _, h => by
    obtain ⟨v, ws, rfl, _, q⟩ := h
    rw [List.length_cons, List.length_cons, q.length]
theorem IsAll.append {b : Addr} {H : Hp} : ∀ {ss rr : List Sh} {vs ws : List V}, IsAll b H ss vs → IsAll b H rr ws → IsAll b H (ss ++ rr) (vs ++ ws)
  | [], _, _, _, h, k => by rw [show _ = [] from h]; exact k
  | _ :: _, _, _, _, h, k => by
    obtain ⟨v, us, rfl, r, q⟩ := h
    exact ⟨v, us ++ _, rfl, r, q.append k⟩
theorem IsAll.mem {b : Addr} {H : Hp} : ∀ {ss : List Sh} {vs : List V} {v : V}, IsAll b H ss vs → v ∈ vs → ∃ s, s ∈ ss ∧ Is b H s v
  | [], _, _, h, m => by rw [show _ = [] from h] at m; cases m
  | s :: _, _, _, h, m => by
    obtain ⟨u, us, rfl, r, q⟩ := h
    rcases List.mem_cons.mp m with rfl | m
    · exact ⟨s, List.mem_cons_self, r⟩
    · obtain ⟨s', h1, h2⟩ := q.mem m
      exact ⟨s', List.mem_cons_of_mem _ h1, h2⟩
theorem IsAll.at {b : Addr} {H : Hp} : ∀ {ss : List Sh} {vs : List V} {i : Nat} {v : V}, IsAll b H ss vs → vs[i]? = some v → ∃ s, ss[i]? = some s ∧ Is b H s v
  | [], _, _, _, h, m => by rw [show _ = [] from h] at m; cases m
  | s :: _, _, 0, _, h, m => by
    obtain ⟨u, us, rfl, r, q⟩ := h
    cases m
    exact ⟨s, rfl, r⟩
  | s :: _, _, i + 1, _, h, m => by
    obtain ⟨u, us, rfl, r, q⟩ := h
    exact q.at (i := i) m
/-- a shape that leaves no choice, at most n deep -/
def det : Nat → Sh → Bool
  | _, .c x => isSc x
  | _, .is _ => false
  | _, .o _ => false
  | _, .x _ _ => false
  | 0, _ => false
  | n + 1, .l xs => decide (xs.length ≤ 1000) && xs.all (det n)
  | n + 1, .t xs => decide (xs.length ≤ 1000) && xs.all (det n)
theorem eqv_det {K : PySem.W.Frag} {b : Addr} {H : Hp} : ∀ {n : Nat} {s : Sh} {v w : V}, det n s = true → Is b H s v → Is b H s w → Eqv K H n v w
  | n, .c x, v, w, d, h, k => by
    rw [show v = x from h, show w = x from k]
    exact .sc (by cases n <;> exact d) n
  | n, .is p, v, w, d, h, k => by cases n <;> cases d
  | n, .o p, v, w, d, h, k => by cases n <;> cases d
  | n, .x _ _, v, w, d, h, k => by cases n <;> cases d
  | 0, .l xs, v, w, d, h, k => by cases d
  | 0, .t xs, v, w, d, h, k => by cases d
  | n + 1, .l xs, v, w, d, h, k => by
    obtain ⟨p, vs, rfl, _, o1, r1⟩ := h
    obtain ⟨q, ws, rfl, _, o2, r2⟩ := k
    obtain ⟨d1, d2⟩ := Bool.and_eq_true_iff.mp (show (decide (xs.length ≤ 1000) && xs.all (det n)) = true from d)
    have l1 := r1.length
    have l2 := r2.length
    refine .inr ⟨p, q, vs, ws, rfl, rfl, .inl ⟨SqL.of o1, SqL.of o2⟩, by omega, by have := of_decide_eq_true d1; omega, fun i x y h1 h2 => ?_⟩
    obtain ⟨s, e1, i1⟩ := r1.at h1
    obtain ⟨s', e2, i2⟩ := r2.at h2
    cases e1.symm.trans e2
    exact eqv_det (List.all_eq_true.mp d2 s (List.mem_of_getElem? e1)) i1 i2
  | n + 1, .t xs, v, w, d, h, k => by
    obtain ⟨p, vs, rfl, _, o1, r1⟩ := h
    obtain ⟨q, ws, rfl, _, o2, r2⟩ := k
    obtain ⟨d1, d2⟩ := Bool.and_eq_true_iff.mp (show (decide (xs.length ≤ 1000) && xs.all (det n)) = true from d)
    have l1 := r1.length
    have l2 := r2.length
    refine .inr ⟨p, q, vs, ws, rfl, rfl, .inr ⟨SqT.of o1, SqT.of o2⟩, by omega, by have := of_decide_eq_true d1; omega, fun i x y h1 h2 => ?_⟩
    obtain ⟨s, e1, i1⟩ := r1.at h1
    obtain ⟨s', e2, i2⟩ := r2.at h2
    cases e1.symm.trans e2
    exact eqv_det (List.all_eq_true.mp d2 s (List.mem_of_getElem? e1)) i1 i2
/-! ### what an expression comes to, while the bag moves on -/
def Ev1 (b : Addr) (te : TE) (σ : L2.St) (H0 : Hp) (s : Sh) : Prop := ∀ H, Go b H0 H → ∀ Q : VK, (∀ v H', Go b H H' → Is b H' s v → Q v H') → te σ H Q
def EvN (b : Addr) (ta : TA) (σ : L2.St) (H0 : Hp) (ss : List Sh) : Prop := ∀ H, Go b H0 H → ∀ Q : List V → Hp → Prop, (∀ vs H', Go b H H' → IsAll b H' ss vs → Q vs H') → ta σ H Q
section
variable {b : Addr} {σ : L2.St} {H0 : Hp} {te ta tb : TE} {tr : TA} {s s1 s2 : Sh} {ss : List Sh} {K : PySem.W.Frag}
theorem e_var {i : Nat} {v : V} (h : σ[i]? = some (some v)) (k : Is b H0 s v) : Ev1 b (tVar i) σ H0 s := fun H g Q q => ⟨v, h, q v H (.refl g.1) (k.go g)⟩
theorem e_c {v : V} : Ev1 b (tC v) σ H0 (.c v) := fun H g Q q => q v H (.refl g.1) rfl
theorem n_nil : EvN b tNil σ H0 [] := fun H g Q q => q [] H (.refl g.1) rfl
theorem n_cons (h : Ev1 b te σ H0 s) (k : EvN b tr σ H0 ss) : EvN b (tCons te tr) σ H0 (s :: ss) := fun H g Q q =>
  h H g _ fun v H1 g1 i1 => k H1 (g.trans g1) _ fun vs H2 g2 i2 => q (v :: vs) H2 (g1.trans g2) ⟨v, vs, rfl, i1.go g2, i2⟩
theorem e_lst (h : EvN b tr σ H0 ss) (l : ss.length ≤ 1000) : Ev1 b (tLst tr) σ H0 (.l ss) := fun H g Q q =>
  h H g _ fun vs H1 g1 i1 => ⟨by rw [i1.length]; exact Nat.le_of_lt (small1000 l), fun p np => q _ _ (g1.new np) ⟨p, vs, rfl, g1.1.ne np, upd_same, i1.go ((Go.refl g1.1).new np)⟩⟩
theorem e_tup (h : EvN b tr σ H0 ss) (l : ss.length ≤ 1000) : Ev1 b (tTup tr) σ H0 (.t ss) := fun H g Q q =>
  h H g _ fun vs H1 g1 i1 => ⟨by rw [i1.length]; exact Nat.le_of_lt (small1000 l), fun p np => q _ _ (g1.new np) ⟨p, vs, rfl, g1.1.ne np, upd_same, i1.go ((Go.refl g1.1).new np)⟩⟩
/-- xs + ys -/
theorem e_cat {xs ys : List Sh} (h : Ev1 b ta σ H0 (.l xs)) (k : Ev1 b tb σ H0 (.l ys)) (l : xs.length + ys.length ≤ 1000) : Ev1 b (tOp rCat ta tb) σ H0 (.l (xs ++ ys)) := fun H g Q q =>
  h H g _ fun v H1 g1 i1 => k H1 (g.trans g1) _ fun w H2 g2 i2 => by
    obtain ⟨p1, vs, rfl, n1, o1, r1⟩ := i1.go g2
    obtain ⟨p2, ws, rfl, n2, o2, r2⟩ := i2
    refine ⟨p1, p2, vs, ws, rfl, rfl, o1, o2, by rw [r1.length, r2.length]; exact Nat.le_of_lt (small1000 l), fun p np => ?_⟩
    exact q _ _ ((g1.trans g2).new np) ⟨p, vs ++ ws, rfl, (g1.trans g2).1.ne np, upd_same, (r1.append r2).go ((Go.refl g2.1).new np)⟩
theorem e_add {i j : Int} (h : Ev1 b ta σ H0 (.c (.int i))) (k : Ev1 b tb σ H0 (.c (.int j))) : Ev1 b (tOp (rI0 fun i j => .int (i + j)) ta tb) σ H0 (.c (.int (i + j))) := fun H g Q q =>
  h H g _ fun v H1 g1 i1 => k H1 (g.trans g1) _ fun w H2 g2 i2 => ⟨i, j, i1, i2, q _ H2 (g1.trans g2) rfl⟩
theorem e_sub {i j : Int} (h : Ev1 b ta σ H0 (.c (.int i))) (k : Ev1 b tb σ H0 (.c (.int j))) : Ev1 b (tOp (rI0 fun i j => .int (i - j)) ta tb) σ H0 (.c (.int (i - j))) := fun H g Q q =>
  h H g _ fun v H1 g1 i1 => k H1 (g.trans g1) _ fun w H2 g2 i2 => ⟨i, j, i1, i2, q _ H2 (g1.trans g2) rfl⟩
theorem e_le {i j : Int} (h : Ev1 b ta σ H0 (.c (.int i))) (k : Ev1 b tb σ H0 (.c (.int j))) : Ev1 b (tOp (rI0 fun i j => .bl (decide (i ≤ j))) ta tb) σ H0 (.c (.bl (decide (i ≤ j)))) := fun H g Q q =>
  h H g _ fun v H1 g1 i1 => k H1 (g.trans g1) _ fun w H2 g2 i2 => ⟨i, j, i1, i2, q _ H2 (g1.trans g2) rfl⟩
theorem e_pow {i j : Int} (h : Ev1 b ta σ H0 (.c (.int i))) (k : Ev1 b tb σ H0 (.c (.int j))) (hc : CPow i j) : Ev1 b (tOp (rI CPow fun i j => .int (i ^ j.toNat)) ta tb) σ H0 (.c (.int (i ^ j.toNat))) := fun H g Q q =>
  h H g _ fun v H1 g1 i1 => k H1 (g.trans g1) _ fun w H2 g2 i2 => ⟨i, j, i1, i2, hc, q _ H2 (g1.trans g2) rfl⟩
theorem e_neg {i : Int} (h : Ev1 b ta σ H0 (.c (.int i))) : Ev1 b (tUn (rU fun i => .int (-i)) ta) σ H0 (.c (.int (-i))) := fun H g Q q =>
  h H g _ fun v H1 g1 i1 => ⟨i, i1, q _ H1 g1 rfl⟩
/-- a and b of bools -/
theorem e_and {x y : Bool} (h : Ev1 b ta σ H0 (.c (.bl x))) (k : x = true → Ev1 b tb σ H0 (.c (.bl y))) : Ev1 b (tAndV ta tb) σ H0 (.c (.bl (x && y))) := fun H g Q q =>
  h H g _ fun v H1 g1 i1 => ⟨x, i1, by
    cases x with
    | true => exact k rfl H1 (g.trans g1) _ fun w H2 g2 i2 => q w H2 (g1.trans g2) i2
    | false => exact q _ H1 g1 rfl⟩
/-- text + text -/
theorem e_cats {x y : Str} (h : Ev1 b ta σ H0 (.c (.str x))) (k : Ev1 b tb σ H0 (.c (.str y))) (l : x.length + y.length ≤ 1000) : Ev1 b (tOp (fun x y H Q => ∃ i j, x = .str i ∧ y = .str j ∧ i.length + j.length ≤ sizeLine ∧ Q (.str (i ++ j)) H) ta tb) σ H0 (.c (.str (x ++ y))) := fun H g Q q =>
  h H g _ fun v H1 g1 i1 => k H1 (g.trans g1) _ fun w H2 g2 i2 => ⟨x, y, i1, i2, Nat.le_of_lt (small1000 l), q _ H2 (g1.trans g2) rfl⟩
theorem e_lens {x : Str} (h : Ev1 b te σ H0 (.c (.str x))) (l : x.length ≤ 1000) : Ev1 b (tCB (fun xs H Q => ∃ z, xs = [.str z] ∧ z.length ≤ sizeLine ∧ Q (.int z.length) H) (tCons te tNil)) σ H0 (.c (.int x.length)) := fun H g Q q =>
  h H g _ fun v H1 g1 i1 => ⟨x, by rw [show v = _ from i1], Nat.le_of_lt (small1000 l), q _ H1 g1 rfl⟩
/-- 1 <= n <= 6 -/
theorem e_chain {i j k : Int} {tc : TE} (h1 : Ev1 b ta σ H0 (.c (.int i))) (h2 : Ev1 b tb σ H0 (.c (.int j))) (h3 : Ev1 b tc σ H0 (.c (.int k))) :
    Ev1 b (tChain (rI0 fun i j => .bl (decide (i ≤ j))) (rI0 fun i j => .bl (decide (i ≤ j))) ta tb tc) σ H0 (.c (.bl (decide (i ≤ j) && decide (j ≤ k)))) := fun H g Q q =>
  h1 H g _ fun v H1 g1 i1 => h2 H1 (g.trans g1) _ fun w H2 g2 i2 => by
    refine ⟨i, j, i1, i2, _, rfl, ?_⟩
    by_cases e : i ≤ j
    · rw [decide_eq_true e]
      refine iteT (h3 H2 (g.trans (g1.trans g2)) _ fun u H3 g3 i3 => ⟨j, k, i2, i3, ?_⟩)
      exact q _ H3 ((g1.trans g2).trans g3) (by rw [decide_eq_true e]; rfl)
    · rw [decide_eq_false e]
      exact iteF (q _ H2 (g1.trans g2) (by rw [decide_eq_false e]; rfl))
/-- a call by a promise -/
theorem e_call {sp : Sp} {E : XK} (h : EvN b tr σ H0 ss) (k : ∀ vs H, Go b H0 H → IsAll b H ss vs → ∀ Q : VK, (∀ v H', Go b H H' → Is b H' s v → Q v H') → sp (vs ++ []) H Q E) : Ev1 b (tCall sp [] E tr) σ H0 s := fun H g Q q =>
  h H g _ fun vs H1 g1 i1 => k vs H1 (g.trans g1) i1 Q fun v H2 g2 i2 => q v H2 (g1.trans g2) i2
theorem Go.of_same {H H' : Hp} (h : Bag H b) (s : Same H H') : Go b H H' := (Go.refl h).same s
end
theorem is1 {b : Addr} {H : Hp} {s : Sh} {vs : List V} (h : IsAll b H [s] vs) : ∃ v, vs = [v] ∧ Is b H s v := by
  obtain ⟨v, ws, rfl, r, rfl⟩ := h
  exact ⟨v, rfl, r⟩
theorem is2 {b : Addr} {H : Hp} {s t : Sh} {vs : List V} (h : IsAll b H [s, t] vs) : ∃ v w, vs = [v, w] ∧ Is b H s v ∧ Is b H t w := by
  obtain ⟨v, ws, rfl, r, h⟩ := h
  obtain ⟨w, rfl, r2⟩ := is1 h
  exact ⟨v, w, rfl, r, r2⟩
theorem is3 {b : Addr} {H : Hp} {s t u : Sh} {vs : List V} (h : IsAll b H [s, t, u] vs) : ∃ v w x, vs = [v, w, x] ∧ Is b H s v ∧ Is b H t w ∧ Is b H u x := by
  obtain ⟨v, ws, rfl, r, h⟩ := h
  obtain ⟨w, x, rfl, r2, r3⟩ := is2 h
  exact ⟨v, w, x, rfl, r, r2, r3⟩
end Rd
set_option maxHeartbeats 4000000
namespace Rd
open PySem PySem.Spec PyProof.Rows L2
open C8 (pss_cut tCut)
/-! ## the __init__ of the exceptions -/
/-- from one heap to a later one that has the exception a with the dict d beside -/
structure AtX (H' H : Hp) (a C d : Addr) (fs : List (Str × V)) : Prop where
  da : d ≠ a
  nd : H d = none
  ea : H' a = some (exo a C (some d))
  ed : H' d = some (exd d fs)
  keep : ∀ p, p ≠ a → p ≠ d → H' p = H p
section
variable {K : PySem.W.Frag} {B newId initId : String} {bmB : List Value} {C a d : Addr} {f : Str} {y : V} {fs : List (Str × V)} {σ : L2.St} {H H1 : Hp} {D : Ends} {te : TE}
theorem gst_first (h0 : σ[0]? = some (some (.ref a))) (T : XC K C B newId initId bmB) (n : PySem.W.findIn K (.ref C) f = some none) (e : H a = some (exo a C none)) (ht : ∀ Q : VK, Q y H → te σ H Q) (q : ∀ d H', AtX H' H a C d [(f, y)] → D.nx σ H') : tGst K f (tVar 0) te D σ H :=
  ht _ ⟨.ref a, h0, a, C, B, newId, initId, bmB, rfl, T, n, .inl ⟨e, fun dx nd da => q dx _ ⟨da, nd, upd_same, by rw [upd_ne da, upd_same], fun p pa pd => by rw [upd_ne pa, upd_ne pd]⟩⟩⟩
theorem gst_next (h0 : σ[0]? = some (some (.ref a))) (T : XC K C B newId initId bmB) (n : PySem.W.findIn K (.ref C) f = some none) (A : AtX H1 H a C d fs) (hl : fs.length ≤ 900) (ht : ∀ Q : VK, Q y H1 → te σ H1 Q) (q : ∀ H', AtX H' H a C d ((f, y) :: fs) → D.nx σ H') : tGst K f (tVar 0) te D σ H1 :=
  ht _ ⟨.ref a, h0, a, C, B, newId, initId, bmB, rfl, T, n, .inr ⟨d, fs, A.ea, A.ed, hl, q _ ⟨A.da, A.nd, by rw [upd_ne (Ne.symm A.da)]; exact A.ea, upd_same, fun p pa pd => by rw [upd_ne pd]; exact A.keep p pa pd⟩⟩⟩
end
def spInit (C : Addr) (nm : List Str) (code : Str) : Sp := fun vs H Q _ => ∃ (a : Addr) (ws : List V), vs = .ref a :: ws ∧ ws.length = nm.length ∧ H a = some (exo a C none) ∧
  ∀ d H', AtX H' H a C d (("code", .str code) :: (nm.zip ws).reverse) → Q .non H'
theorem spInit_len {C : Addr} {nm ps : List Str} {code : Str} {vs : List V} {H : Hp} {Q : VK} {E : XK} (e : ps.length = nm.length + 1) (h : spInit C nm code vs H Q E) : vs.length = ps.length := by
  obtain ⟨a, ws, rfl, l, _⟩ := h
  rw [List.length_cons, l, e]
theorem vals_rev {zs : List V} {ws : List Value} (h : Vals zs ws) : Vals zs.reverse ws.reverse := by
  induction h with
  | nil => exact .nil
  | cons h t ih => rw [List.reverse_cons, List.reverse_cons]; exact ih.append (.cons h .nil)
section
variable {P : Program} {w : World} {K : PySem.W.Frag} {mg : Str → Option Value} {base : Heap}
theorem DX.kw {x qual : Str} {st : Stmt} {ps nm : List Str} {B newId initId : String} {bmB : List Value} (D : DX K mg x qual st ps nm B newId initId bmB) (ks : List Str)
    (h : ∀ (kV doc pm : Value) (an : Option Addr) (cdv ct : Value) (us ws : List Value), us.length = 1 → ws.length = ks.length → bindArgs (PySem.W.fnOf "__init__" qual (defArgs st) (defBody st) (defScope st) .none kV doc pm an cdv ct) ⟨us, ks.zip ws⟩ = pure (ps.zip (us ++ ws.reverse))) :
    KBn K D.fd ps 1 ks (fun us ws => us ++ ws.reverse) (fun vs zs => vs ++ zs.reverse) where
  to := fun s us ws _ l1 l2 => by
    obtain ⟨oc, od, kV, doc, pm, an, cdv, ct, osl, e, lk, hcd⟩ := D.F.ex
    rw [e]
    exact .of_eq (h kV doc pm an cdv ct us ws l1 l2)
  rel := fun r rz => r.append (vals_rev rz)
theorem ok_init_InvalidName (T : Txt K mg) : FnOk P w K mg base CX0 1 T.x_InvalidName.f T.x_InvalidName.fd ["self", "value"] (spInit T.x_InvalidName.C ["value"] "InvalidName") := by
  refine T.x_InvalidName.F.ok sc_i_InvalidName (fun vs H Q E h => spInit_len rfl h) (fun cdv A outer s H vs Q E hr h => ?_)
  obtain ⟨a, ws, rfl, l, e, q⟩ := h
  match ws, l with
  | [y0], _ =>
    refine ⟨_, (pss_cons (ps_gst (pv 0) (pv 1)) (pss_one (ps_gst (pv 0) pe_str))), ?_⟩
    refine gst_first (a := a) rfl T.x_InvalidName.T (T.x_InvalidName.no "value" (by decide +kernel)) e (fun Q q => ⟨y0, rfl, q⟩) fun d H1 A1 => ?_
    dsimp only
    refine gst_next (a := a) rfl T.x_InvalidName.T (T.x_InvalidName.no "code" (by decide +kernel)) A1 (Nat.le_of_ble_eq_true rfl) (fun Q q => q) fun H2 A2 => ?_
    exact q d _ A2
theorem kb_InvalidName (T : Txt K mg) : KBn K T.x_InvalidName.fd ["self", "value"] 1 ["value"] (fun us ws => us ++ ws.reverse) (fun vs zs => vs ++ zs.reverse) :=
  T.x_InvalidName.kw ["value"] fun _ _ _ _ _ _ us ws l1 l2 => match us, ws, l1, l2 with | [_], [_], _, _ => rfl
theorem ok_init_InvalidNumber (T : Txt K mg) : FnOk P w K mg base CX0 1 T.x_InvalidNumber.f T.x_InvalidNumber.fd ["self", "value"] (spInit T.x_InvalidNumber.C ["value"] "InvalidNumber") := by
  refine T.x_InvalidNumber.F.ok sc_i_InvalidNumber (fun vs H Q E h => spInit_len rfl h) (fun cdv A outer s H vs Q E hr h => ?_)
  obtain ⟨a, ws, rfl, l, e, q⟩ := h
  match ws, l with
  | [y0], _ =>
    refine ⟨_, (pss_cons (ps_gst (pv 0) (pv 1)) (pss_one (ps_gst (pv 0) pe_str))), ?_⟩
    refine gst_first (a := a) rfl T.x_InvalidNumber.T (T.x_InvalidNumber.no "value" (by decide +kernel)) e (fun Q q => ⟨y0, rfl, q⟩) fun d H1 A1 => ?_
    dsimp only
    refine gst_next (a := a) rfl T.x_InvalidNumber.T (T.x_InvalidNumber.no "code" (by decide +kernel)) A1 (Nat.le_of_ble_eq_true rfl) (fun Q q => q) fun H2 A2 => ?_
    exact q d _ A2
theorem kb_InvalidNumber (T : Txt K mg) : KBn K T.x_InvalidNumber.fd ["self", "value"] 1 ["value"] (fun us ws => us ++ ws.reverse) (fun vs zs => vs ++ zs.reverse) :=
  T.x_InvalidNumber.kw ["value"] fun _ _ _ _ _ _ us ws l1 l2 => match us, ws, l1, l2 with | [_], [_], _, _ => rfl
theorem ok_init_InvalidSection (T : Txt K mg) : FnOk P w K mg base CX0 1 T.x_InvalidSection.f T.x_InvalidSection.fd ["self", "value"] (spInit T.x_InvalidSection.C ["value"] "InvalidSection") := by
  refine T.x_InvalidSection.F.ok sc_i_InvalidSection (fun vs H Q E h => spInit_len rfl h) (fun cdv A outer s H vs Q E hr h => ?_)
  obtain ⟨a, ws, rfl, l, e, q⟩ := h
  match ws, l with
  | [y0], _ =>
    refine ⟨_, (pss_cons (ps_gst (pv 0) (pv 1)) (pss_one (ps_gst (pv 0) pe_str))), ?_⟩
    refine gst_first (a := a) rfl T.x_InvalidSection.T (T.x_InvalidSection.no "value" (by decide +kernel)) e (fun Q q => ⟨y0, rfl, q⟩) fun d H1 A1 => ?_
    dsimp only
    refine gst_next (a := a) rfl T.x_InvalidSection.T (T.x_InvalidSection.no "code" (by decide +kernel)) A1 (Nat.le_of_ble_eq_true rfl) (fun Q q => q) fun H2 A2 => ?_
    exact q d _ A2
theorem kb_InvalidSection (T : Txt K mg) : KBn K T.x_InvalidSection.fd ["self", "value"] 1 ["value"] (fun us ws => us ++ ws.reverse) (fun vs zs => vs ++ zs.reverse) :=
  T.x_InvalidSection.kw ["value"] fun _ _ _ _ _ _ us ws l1 l2 => match us, ws, l1, l2 with | [_], [_], _, _ => rfl
theorem ok_init_InvalidTimes (T : Txt K mg) : FnOk P w K mg base CX0 1 T.x_InvalidTimes.f T.x_InvalidTimes.fd ["self", "value"] (spInit T.x_InvalidTimes.C ["value"] "InvalidTimes") := by
  refine T.x_InvalidTimes.F.ok sc_i_InvalidTimes (fun vs H Q E h => spInit_len rfl h) (fun cdv A outer s H vs Q E hr h => ?_)
  obtain ⟨a, ws, rfl, l, e, q⟩ := h
  match ws, l with
  | [y0], _ =>
    refine ⟨_, (pss_cons (ps_gst (pv 0) (pv 1)) (pss_one (ps_gst (pv 0) pe_str))), ?_⟩
    refine gst_first (a := a) rfl T.x_InvalidTimes.T (T.x_InvalidTimes.no "value" (by decide +kernel)) e (fun Q q => ⟨y0, rfl, q⟩) fun d H1 A1 => ?_
    dsimp only
    refine gst_next (a := a) rfl T.x_InvalidTimes.T (T.x_InvalidTimes.no "code" (by decide +kernel)) A1 (Nat.le_of_ble_eq_true rfl) (fun Q q => q) fun H2 A2 => ?_
    exact q d _ A2
theorem kb_InvalidTimes (T : Txt K mg) : KBn K T.x_InvalidTimes.fd ["self", "value"] 1 ["value"] (fun us ws => us ++ ws.reverse) (fun vs zs => vs ++ zs.reverse) :=
  T.x_InvalidTimes.kw ["value"] fun _ _ _ _ _ _ us ws l1 l2 => match us, ws, l1, l2 with | [_], [_], _, _ => rfl
theorem ok_init_InvalidStep (T : Txt K mg) : FnOk P w K mg base CX0 1 T.x_InvalidStep.f T.x_InvalidStep.fd ["self", "value"] (spInit T.x_InvalidStep.C ["value"] "InvalidStep") := by
  refine T.x_InvalidStep.F.ok sc_i_InvalidStep (fun vs H Q E h => spInit_len rfl h) (fun cdv A outer s H vs Q E hr h => ?_)
  obtain ⟨a, ws, rfl, l, e, q⟩ := h
  match ws, l with
  | [y0], _ =>
    refine ⟨_, (pss_cons (ps_gst (pv 0) (pv 1)) (pss_one (ps_gst (pv 0) pe_str))), ?_⟩
    refine gst_first (a := a) rfl T.x_InvalidStep.T (T.x_InvalidStep.no "value" (by decide +kernel)) e (fun Q q => ⟨y0, rfl, q⟩) fun d H1 A1 => ?_
    dsimp only
    refine gst_next (a := a) rfl T.x_InvalidStep.T (T.x_InvalidStep.no "code" (by decide +kernel)) A1 (Nat.le_of_ble_eq_true rfl) (fun Q q => q) fun H2 A2 => ?_
    exact q d _ A2
theorem kb_InvalidStep (T : Txt K mg) : KBn K T.x_InvalidStep.fd ["self", "value"] 1 ["value"] (fun us ws => us ++ ws.reverse) (fun vs zs => vs ++ zs.reverse) :=
  T.x_InvalidStep.kw ["value"] fun _ _ _ _ _ _ us ws l1 l2 => match us, ws, l1, l2 with | [_], [_], _, _ => rfl
theorem ok_init_InvalidStanding (T : Txt K mg) : FnOk P w K mg base CX0 1 T.x_InvalidStanding.f T.x_InvalidStanding.fd ["self", "value"] (spInit T.x_InvalidStanding.C ["value"] "InvalidStanding") := by
  refine T.x_InvalidStanding.F.ok sc_i_InvalidStanding (fun vs H Q E h => spInit_len rfl h) (fun cdv A outer s H vs Q E hr h => ?_)
  obtain ⟨a, ws, rfl, l, e, q⟩ := h
  match ws, l with
  | [y0], _ =>
    refine ⟨_, (pss_cons (ps_gst (pv 0) (pv 1)) (pss_one (ps_gst (pv 0) pe_str))), ?_⟩
    refine gst_first (a := a) rfl T.x_InvalidStanding.T (T.x_InvalidStanding.no "value" (by decide +kernel)) e (fun Q q => ⟨y0, rfl, q⟩) fun d H1 A1 => ?_
    dsimp only
    refine gst_next (a := a) rfl T.x_InvalidStanding.T (T.x_InvalidStanding.no "code" (by decide +kernel)) A1 (Nat.le_of_ble_eq_true rfl) (fun Q q => q) fun H2 A2 => ?_
    exact q d _ A2
theorem kb_InvalidStanding (T : Txt K mg) : KBn K T.x_InvalidStanding.fd ["self", "value"] 1 ["value"] (fun us ws => us ++ ws.reverse) (fun vs zs => vs ++ zs.reverse) :=
  T.x_InvalidStanding.kw ["value"] fun _ _ _ _ _ _ us ws l1 l2 => match us, ws, l1, l2 with | [_], [_], _, _ => rfl
theorem ok_init_InvalidRow (T : Txt K mg) : FnOk P w K mg base CX0 1 T.x_InvalidRow.f T.x_InvalidRow.fd ["self", "value"] (spInit T.x_InvalidRow.C ["value"] "InvalidRow") := by
  refine T.x_InvalidRow.F.ok sc_i_InvalidRow (fun vs H Q E h => spInit_len rfl h) (fun cdv A outer s H vs Q E hr h => ?_)
  obtain ⟨a, ws, rfl, l, e, q⟩ := h
  match ws, l with
  | [y0], _ =>
    refine ⟨_, (pss_cons (ps_gst (pv 0) (pv 1)) (pss_one (ps_gst (pv 0) pe_str))), ?_⟩
    refine gst_first (a := a) rfl T.x_InvalidRow.T (T.x_InvalidRow.no "value" (by decide +kernel)) e (fun Q q => ⟨y0, rfl, q⟩) fun d H1 A1 => ?_
    dsimp only
    refine gst_next (a := a) rfl T.x_InvalidRow.T (T.x_InvalidRow.no "code" (by decide +kernel)) A1 (Nat.le_of_ble_eq_true rfl) (fun Q q => q) fun H2 A2 => ?_
    exact q d _ A2
theorem kb_InvalidRow (T : Txt K mg) : KBn K T.x_InvalidRow.fd ["self", "value"] 1 ["value"] (fun us ws => us ++ ws.reverse) (fun vs zs => vs ++ zs.reverse) :=
  T.x_InvalidRow.kw ["value"] fun _ _ _ _ _ _ us ws l1 l2 => match us, ws, l1, l2 with | [_], [_], _, _ => rfl
theorem ok_init_InvalidTable (T : Txt K mg) : FnOk P w K mg base CX0 1 T.x_InvalidTable.f T.x_InvalidTable.fd ["self", "value"] (spInit T.x_InvalidTable.C ["value"] "InvalidTable") := by
  refine T.x_InvalidTable.F.ok sc_i_InvalidTable (fun vs H Q E h => spInit_len rfl h) (fun cdv A outer s H vs Q E hr h => ?_)
  obtain ⟨a, ws, rfl, l, e, q⟩ := h
  match ws, l with
  | [y0], _ =>
    refine ⟨_, (pss_cons (ps_gst (pv 0) (pv 1)) (pss_one (ps_gst (pv 0) pe_str))), ?_⟩
    refine gst_first (a := a) rfl T.x_InvalidTable.T (T.x_InvalidTable.no "value" (by decide +kernel)) e (fun Q q => ⟨y0, rfl, q⟩) fun d H1 A1 => ?_
    dsimp only
    refine gst_next (a := a) rfl T.x_InvalidTable.T (T.x_InvalidTable.no "code" (by decide +kernel)) A1 (Nat.le_of_ble_eq_true rfl) (fun Q q => q) fun H2 A2 => ?_
    exact q d _ A2
theorem kb_InvalidTable (T : Txt K mg) : KBn K T.x_InvalidTable.fd ["self", "value"] 1 ["value"] (fun us ws => us ++ ws.reverse) (fun vs zs => vs ++ zs.reverse) :=
  T.x_InvalidTable.kw ["value"] fun _ _ _ _ _ _ us ws l1 l2 => match us, ws, l1, l2 with | [_], [_], _, _ => rfl
theorem ok_init_InvalidDelays (T : Txt K mg) : FnOk P w K mg base CX0 1 T.x_InvalidDelays.f T.x_InvalidDelays.fd ["self", "value"] (spInit T.x_InvalidDelays.C ["value"] "InvalidDelays") := by
  refine T.x_InvalidDelays.F.ok sc_i_InvalidDelays (fun vs H Q E h => spInit_len rfl h) (fun cdv A outer s H vs Q E hr h => ?_)
  obtain ⟨a, ws, rfl, l, e, q⟩ := h
  match ws, l with
  | [y0], _ =>
    refine ⟨_, (pss_cons (ps_gst (pv 0) (pv 1)) (pss_one (ps_gst (pv 0) pe_str))), ?_⟩
    refine gst_first (a := a) rfl T.x_InvalidDelays.T (T.x_InvalidDelays.no "value" (by decide +kernel)) e (fun Q q => ⟨y0, rfl, q⟩) fun d H1 A1 => ?_
    dsimp only
    refine gst_next (a := a) rfl T.x_InvalidDelays.T (T.x_InvalidDelays.no "code" (by decide +kernel)) A1 (Nat.le_of_ble_eq_true rfl) (fun Q q => q) fun H2 A2 => ?_
    exact q d _ A2
theorem kb_InvalidDelays (T : Txt K mg) : KBn K T.x_InvalidDelays.fd ["self", "value"] 1 ["value"] (fun us ws => us ++ ws.reverse) (fun vs zs => vs ++ zs.reverse) :=
  T.x_InvalidDelays.kw ["value"] fun _ _ _ _ _ _ us ws l1 l2 => match us, ws, l1, l2 with | [_], [_], _, _ => rfl
theorem ok_init_InvalidPeriod (T : Txt K mg) : FnOk P w K mg base CX0 1 T.x_InvalidPeriod.f T.x_InvalidPeriod.fd ["self", "value"] (spInit T.x_InvalidPeriod.C ["value"] "InvalidPeriod") := by
  refine T.x_InvalidPeriod.F.ok sc_i_InvalidPeriod (fun vs H Q E h => spInit_len rfl h) (fun cdv A outer s H vs Q E hr h => ?_)
  obtain ⟨a, ws, rfl, l, e, q⟩ := h
  match ws, l with
  | [y0], _ =>
    refine ⟨_, (pss_cons (ps_gst (pv 0) (pv 1)) (pss_one (ps_gst (pv 0) pe_str))), ?_⟩
    refine gst_first (a := a) rfl T.x_InvalidPeriod.T (T.x_InvalidPeriod.no "value" (by decide +kernel)) e (fun Q q => ⟨y0, rfl, q⟩) fun d H1 A1 => ?_
    dsimp only
    refine gst_next (a := a) rfl T.x_InvalidPeriod.T (T.x_InvalidPeriod.no "code" (by decide +kernel)) A1 (Nat.le_of_ble_eq_true rfl) (fun Q q => q) fun H2 A2 => ?_
    exact q d _ A2
theorem kb_InvalidPeriod (T : Txt K mg) : KBn K T.x_InvalidPeriod.fd ["self", "value"] 1 ["value"] (fun us ws => us ++ ws.reverse) (fun vs zs => vs ++ zs.reverse) :=
  T.x_InvalidPeriod.kw ["value"] fun _ _ _ _ _ _ us ws l1 l2 => match us, ws, l1, l2 with | [_], [_], _, _ => rfl
theorem ok_init_InvalidHeights (T : Txt K mg) : FnOk P w K mg base CX0 1 T.x_InvalidHeights.f T.x_InvalidHeights.fd ["self", "value"] (spInit T.x_InvalidHeights.C ["value"] "InvalidHeights") := by
  refine T.x_InvalidHeights.F.ok sc_i_InvalidHeights (fun vs H Q E h => spInit_len rfl h) (fun cdv A outer s H vs Q E hr h => ?_)
  obtain ⟨a, ws, rfl, l, e, q⟩ := h
  match ws, l with
  | [y0], _ =>
    refine ⟨_, (pss_cons (ps_gst (pv 0) (pv 1)) (pss_one (ps_gst (pv 0) pe_str))), ?_⟩
    refine gst_first (a := a) rfl T.x_InvalidHeights.T (T.x_InvalidHeights.no "value" (by decide +kernel)) e (fun Q q => ⟨y0, rfl, q⟩) fun d H1 A1 => ?_
    dsimp only
    refine gst_next (a := a) rfl T.x_InvalidHeights.T (T.x_InvalidHeights.no "code" (by decide +kernel)) A1 (Nat.le_of_ble_eq_true rfl) (fun Q q => q) fun H2 A2 => ?_
    exact q d _ A2
theorem kb_InvalidHeights (T : Txt K mg) : KBn K T.x_InvalidHeights.fd ["self", "value"] 1 ["value"] (fun us ws => us ++ ws.reverse) (fun vs zs => vs ++ zs.reverse) :=
  T.x_InvalidHeights.kw ["value"] fun _ _ _ _ _ _ us ws l1 l2 => match us, ws, l1, l2 with | [_], [_], _, _ => rfl
theorem ok_init_InvalidDeed (T : Txt K mg) : FnOk P w K mg base CX0 1 T.x_InvalidDeed.f T.x_InvalidDeed.fd ["self", "value"] (spInit T.x_InvalidDeed.C ["value"] "InvalidDeed") := by
  refine T.x_InvalidDeed.F.ok sc_i_InvalidDeed (fun vs H Q E h => spInit_len rfl h) (fun cdv A outer s H vs Q E hr h => ?_)
  obtain ⟨a, ws, rfl, l, e, q⟩ := h
  match ws, l with
  | [y0], _ =>
    refine ⟨_, (pss_cons (ps_gst (pv 0) (pv 1)) (pss_one (ps_gst (pv 0) pe_str))), ?_⟩
    refine gst_first (a := a) rfl T.x_InvalidDeed.T (T.x_InvalidDeed.no "value" (by decide +kernel)) e (fun Q q => ⟨y0, rfl, q⟩) fun d H1 A1 => ?_
    dsimp only
    refine gst_next (a := a) rfl T.x_InvalidDeed.T (T.x_InvalidDeed.no "code" (by decide +kernel)) A1 (Nat.le_of_ble_eq_true rfl) (fun Q q => q) fun H2 A2 => ?_
    exact q d _ A2
theorem kb_InvalidDeed (T : Txt K mg) : KBn K T.x_InvalidDeed.fd ["self", "value"] 1 ["value"] (fun us ws => us ++ ws.reverse) (fun vs zs => vs ++ zs.reverse) :=
  T.x_InvalidDeed.kw ["value"] fun _ _ _ _ _ _ us ws l1 l2 => match us, ws, l1, l2 with | [_], [_], _, _ => rfl
theorem ok_init_InvalidTurn (T : Txt K mg) : FnOk P w K mg base CX0 1 T.x_InvalidTurn.f T.x_InvalidTurn.fd ["self", "at"] (spInit T.x_InvalidTurn.C ["at"] "InvalidTurn") := by
  refine T.x_InvalidTurn.F.ok sc_i_InvalidTurn (fun vs H Q E h => spInit_len rfl h) (fun cdv A outer s H vs Q E hr h => ?_)
  obtain ⟨a, ws, rfl, l, e, q⟩ := h
  match ws, l with
  | [y0], _ =>
    refine ⟨_, (pss_cons (ps_gst (pv 0) (pv 1)) (pss_one (ps_gst (pv 0) pe_str))), ?_⟩
    refine gst_first (a := a) rfl T.x_InvalidTurn.T (T.x_InvalidTurn.no "at" (by decide +kernel)) e (fun Q q => ⟨y0, rfl, q⟩) fun d H1 A1 => ?_
    dsimp only
    refine gst_next (a := a) rfl T.x_InvalidTurn.T (T.x_InvalidTurn.no "code" (by decide +kernel)) A1 (Nat.le_of_ble_eq_true rfl) (fun Q q => q) fun H2 A2 => ?_
    exact q d _ A2
theorem kb_InvalidTurn (T : Txt K mg) : KBn K T.x_InvalidTurn.fd ["self", "at"] 1 ["at"] (fun us ws => us ++ ws.reverse) (fun vs zs => vs ++ zs.reverse) :=
  T.x_InvalidTurn.kw ["at"] fun _ _ _ _ _ _ us ws l1 l2 => match us, ws, l1, l2 with | [_], [_], _, _ => rfl
theorem ok_init_InvalidWait (T : Txt K mg) : FnOk P w K mg base CX0 1 T.x_InvalidWait.f T.x_InvalidWait.fd ["self", "at"] (spInit T.x_InvalidWait.C ["at"] "InvalidWait") := by
  refine T.x_InvalidWait.F.ok sc_i_InvalidWait (fun vs H Q E h => spInit_len rfl h) (fun cdv A outer s H vs Q E hr h => ?_)
  obtain ⟨a, ws, rfl, l, e, q⟩ := h
  match ws, l with
  | [y0], _ =>
    refine ⟨_, (pss_cons (ps_gst (pv 0) (pv 1)) (pss_one (ps_gst (pv 0) pe_str))), ?_⟩
    refine gst_first (a := a) rfl T.x_InvalidWait.T (T.x_InvalidWait.no "at" (by decide +kernel)) e (fun Q q => ⟨y0, rfl, q⟩) fun d H1 A1 => ?_
    dsimp only
    refine gst_next (a := a) rfl T.x_InvalidWait.T (T.x_InvalidWait.no "code" (by decide +kernel)) A1 (Nat.le_of_ble_eq_true rfl) (fun Q q => q) fun H2 A2 => ?_
    exact q d _ A2
theorem kb_InvalidWait (T : Txt K mg) : KBn K T.x_InvalidWait.fd ["self", "at"] 1 ["at"] (fun us ws => us ++ ws.reverse) (fun vs zs => vs ++ zs.reverse) :=
  T.x_InvalidWait.kw ["at"] fun _ _ _ _ _ _ us ws l1 l2 => match us, ws, l1, l2 with | [_], [_], _, _ => rfl
theorem ok_init_InvalidWish (T : Txt K mg) : FnOk P w K mg base CX0 1 T.x_InvalidWish.f T.x_InvalidWish.fd ["self", "at"] (spInit T.x_InvalidWish.C ["at"] "InvalidWish") := by
  refine T.x_InvalidWish.F.ok sc_i_InvalidWish (fun vs H Q E h => spInit_len rfl h) (fun cdv A outer s H vs Q E hr h => ?_)
  obtain ⟨a, ws, rfl, l, e, q⟩ := h
  match ws, l with
  | [y0], _ =>
    refine ⟨_, (pss_cons (ps_gst (pv 0) (pv 1)) (pss_one (ps_gst (pv 0) pe_str))), ?_⟩
    refine gst_first (a := a) rfl T.x_InvalidWish.T (T.x_InvalidWish.no "at" (by decide +kernel)) e (fun Q q => ⟨y0, rfl, q⟩) fun d H1 A1 => ?_
    dsimp only
    refine gst_next (a := a) rfl T.x_InvalidWish.T (T.x_InvalidWish.no "code" (by decide +kernel)) A1 (Nat.le_of_ble_eq_true rfl) (fun Q q => q) fun H2 A2 => ?_
    exact q d _ A2
theorem kb_InvalidWish (T : Txt K mg) : KBn K T.x_InvalidWish.fd ["self", "at"] 1 ["at"] (fun us ws => us ++ ws.reverse) (fun vs zs => vs ++ zs.reverse) :=
  T.x_InvalidWish.kw ["at"] fun _ _ _ _ _ _ us ws l1 l2 => match us, ws, l1, l2 with | [_], [_], _, _ => rfl
theorem ok_init_InvalidJourney (T : Txt K mg) : FnOk P w K mg base CX0 1 T.x_InvalidJourney.f T.x_InvalidJourney.fd ["self", "at"] (spInit T.x_InvalidJourney.C ["at"] "InvalidJourney") := by
  refine T.x_InvalidJourney.F.ok sc_i_InvalidJourney (fun vs H Q E h => spInit_len rfl h) (fun cdv A outer s H vs Q E hr h => ?_)
  obtain ⟨a, ws, rfl, l, e, q⟩ := h
  match ws, l with
  | [y0], _ =>
    refine ⟨_, (pss_cons (ps_gst (pv 0) (pv 1)) (pss_one (ps_gst (pv 0) pe_str))), ?_⟩
    refine gst_first (a := a) rfl T.x_InvalidJourney.T (T.x_InvalidJourney.no "at" (by decide +kernel)) e (fun Q q => ⟨y0, rfl, q⟩) fun d H1 A1 => ?_
    dsimp only
    refine gst_next (a := a) rfl T.x_InvalidJourney.T (T.x_InvalidJourney.no "code" (by decide +kernel)) A1 (Nat.le_of_ble_eq_true rfl) (fun Q q => q) fun H2 A2 => ?_
    exact q d _ A2
theorem kb_InvalidJourney (T : Txt K mg) : KBn K T.x_InvalidJourney.fd ["self", "at"] 1 ["at"] (fun us ws => us ++ ws.reverse) (fun vs zs => vs ++ zs.reverse) :=
  T.x_InvalidJourney.kw ["at"] fun _ _ _ _ _ _ us ws l1 l2 => match us, ws, l1, l2 with | [_], [_], _, _ => rfl
theorem ok_init_InvalidText (T : Txt K mg) : FnOk P w K mg base CX0 1 T.x_InvalidText.f T.x_InvalidText.fd ["self", "line"] (spInit T.x_InvalidText.C ["line"] "InvalidText") := by
  refine T.x_InvalidText.F.ok sc_i_InvalidText (fun vs H Q E h => spInit_len rfl h) (fun cdv A outer s H vs Q E hr h => ?_)
  obtain ⟨a, ws, rfl, l, e, q⟩ := h
  match ws, l with
  | [y0], _ =>
    refine ⟨_, (pss_cons (ps_gst (pv 0) (pv 1)) (pss_one (ps_gst (pv 0) pe_str))), ?_⟩
    refine gst_first (a := a) rfl T.x_InvalidText.T (T.x_InvalidText.no "line" (by decide +kernel)) e (fun Q q => ⟨y0, rfl, q⟩) fun d H1 A1 => ?_
    dsimp only
    refine gst_next (a := a) rfl T.x_InvalidText.T (T.x_InvalidText.no "code" (by decide +kernel)) A1 (Nat.le_of_ble_eq_true rfl) (fun Q q => q) fun H2 A2 => ?_
    exact q d _ A2
theorem kb_InvalidText (T : Txt K mg) : KBn K T.x_InvalidText.fd ["self", "line"] 1 ["line"] (fun us ws => us ++ ws.reverse) (fun vs zs => vs ++ zs.reverse) :=
  T.x_InvalidText.kw ["line"] fun _ _ _ _ _ _ us ws l1 l2 => match us, ws, l1, l2 with | [_], [_], _, _ => rfl
theorem ok_init_DuplicateName (T : Txt K mg) : FnOk P w K mg base CX0 1 T.x_DuplicateName.f T.x_DuplicateName.fd ["self", "name"] (spInit T.x_DuplicateName.C ["name"] "DuplicateName") := by
  refine T.x_DuplicateName.F.ok sc_i_DuplicateName (fun vs H Q E h => spInit_len rfl h) (fun cdv A outer s H vs Q E hr h => ?_)
  obtain ⟨a, ws, rfl, l, e, q⟩ := h
  match ws, l with
  | [y0], _ =>
    refine ⟨_, (pss_cons (ps_gst (pv 0) (pv 1)) (pss_one (ps_gst (pv 0) pe_str))), ?_⟩
    refine gst_first (a := a) rfl T.x_DuplicateName.T (T.x_DuplicateName.no "name" (by decide +kernel)) e (fun Q q => ⟨y0, rfl, q⟩) fun d H1 A1 => ?_
    dsimp only
    refine gst_next (a := a) rfl T.x_DuplicateName.T (T.x_DuplicateName.no "code" (by decide +kernel)) A1 (Nat.le_of_ble_eq_true rfl) (fun Q q => q) fun H2 A2 => ?_
    exact q d _ A2
theorem kb_DuplicateName (T : Txt K mg) : KBn K T.x_DuplicateName.fd ["self", "name"] 1 ["name"] (fun us ws => us ++ ws.reverse) (fun vs zs => vs ++ zs.reverse) :=
  T.x_DuplicateName.kw ["name"] fun _ _ _ _ _ _ us ws l1 l2 => match us, ws, l1, l2 with | [_], [_], _, _ => rfl
theorem ok_init_InUse (T : Txt K mg) : FnOk P w K mg base CX0 1 T.x_InUse.f T.x_InUse.fd ["self", "name"] (spInit T.x_InUse.C ["name"] "InUse") := by
  refine T.x_InUse.F.ok sc_i_InUse (fun vs H Q E h => spInit_len rfl h) (fun cdv A outer s H vs Q E hr h => ?_)
  obtain ⟨a, ws, rfl, l, e, q⟩ := h
  match ws, l with
  | [y0], _ =>
    refine ⟨_, (pss_cons (ps_gst (pv 0) (pv 1)) (pss_one (ps_gst (pv 0) pe_str))), ?_⟩
    refine gst_first (a := a) rfl T.x_InUse.T (T.x_InUse.no "name" (by decide +kernel)) e (fun Q q => ⟨y0, rfl, q⟩) fun d H1 A1 => ?_
    dsimp only
    refine gst_next (a := a) rfl T.x_InUse.T (T.x_InUse.no "code" (by decide +kernel)) A1 (Nat.le_of_ble_eq_true rfl) (fun Q q => q) fun H2 A2 => ?_
    exact q d _ A2
theorem kb_InUse (T : Txt K mg) : KBn K T.x_InUse.fd ["self", "name"] 1 ["name"] (fun us ws => us ++ ws.reverse) (fun vs zs => vs ++ zs.reverse) :=
  T.x_InUse.kw ["name"] fun _ _ _ _ _ _ us ws l1 l2 => match us, ws, l1, l2 with | [_], [_], _, _ => rfl
theorem ok_init_TakenEnd (T : Txt K mg) : FnOk P w K mg base CX0 1 T.x_TakenEnd.f T.x_TakenEnd.fd ["self", "end"] (spInit T.x_TakenEnd.C ["end"] "TakenEnd") := by
  refine T.x_TakenEnd.F.ok sc_i_TakenEnd (fun vs H Q E h => spInit_len rfl h) (fun cdv A outer s H vs Q E hr h => ?_)
  obtain ⟨a, ws, rfl, l, e, q⟩ := h
  match ws, l with
  | [y0], _ =>
    refine ⟨_, (pss_cons (ps_gst (pv 0) (pv 1)) (pss_one (ps_gst (pv 0) pe_str))), ?_⟩
    refine gst_first (a := a) rfl T.x_TakenEnd.T (T.x_TakenEnd.no "end" (by decide +kernel)) e (fun Q q => ⟨y0, rfl, q⟩) fun d H1 A1 => ?_
    dsimp only
    refine gst_next (a := a) rfl T.x_TakenEnd.T (T.x_TakenEnd.no "code" (by decide +kernel)) A1 (Nat.le_of_ble_eq_true rfl) (fun Q q => q) fun H2 A2 => ?_
    exact q d _ A2
theorem kb_TakenEnd (T : Txt K mg) : KBn K T.x_TakenEnd.fd ["self", "end"] 1 ["end"] (fun us ws => us ++ ws.reverse) (fun vs zs => vs ++ zs.reverse) :=
  T.x_TakenEnd.kw ["end"] fun _ _ _ _ _ _ us ws l1 l2 => match us, ws, l1, l2 with | [_], [_], _, _ => rfl
theorem ok_init_LooseEnd (T : Txt K mg) : FnOk P w K mg base CX0 1 T.x_LooseEnd.f T.x_LooseEnd.fd ["self", "end"] (spInit T.x_LooseEnd.C ["end"] "LooseEnd") := by
  refine T.x_LooseEnd.F.ok sc_i_LooseEnd (fun vs H Q E h => spInit_len rfl h) (fun cdv A outer s H vs Q E hr h => ?_)
  obtain ⟨a, ws, rfl, l, e, q⟩ := h
  match ws, l with
  | [y0], _ =>
    refine ⟨_, (pss_cons (ps_gst (pv 0) (pv 1)) (pss_one (ps_gst (pv 0) pe_str))), ?_⟩
    refine gst_first (a := a) rfl T.x_LooseEnd.T (T.x_LooseEnd.no "end" (by decide +kernel)) e (fun Q q => ⟨y0, rfl, q⟩) fun d H1 A1 => ?_
    dsimp only
    refine gst_next (a := a) rfl T.x_LooseEnd.T (T.x_LooseEnd.no "code" (by decide +kernel)) A1 (Nat.le_of_ble_eq_true rfl) (fun Q q => q) fun H2 A2 => ?_
    exact q d _ A2
theorem kb_LooseEnd (T : Txt K mg) : KBn K T.x_LooseEnd.fd ["self", "end"] 1 ["end"] (fun us ws => us ++ ws.reverse) (fun vs zs => vs ++ zs.reverse) :=
  T.x_LooseEnd.kw ["end"] fun _ _ _ _ _ _ us ws l1 l2 => match us, ws, l1, l2 with | [_], [_], _, _ => rfl
theorem ok_init_TooMany (T : Txt K mg) : FnOk P w K mg base CX0 1 T.x_TooMany.f T.x_TooMany.fd ["self", "subject", "most"] (spInit T.x_TooMany.C ["subject", "most"] "TooMany") := by
  refine T.x_TooMany.F.ok sc_i_TooMany (fun vs H Q E h => spInit_len rfl h) (fun cdv A outer s H vs Q E hr h => ?_)
  obtain ⟨a, ws, rfl, l, e, q⟩ := h
  match ws, l with
  | [y0, y1], _ =>
    refine ⟨_, (pss_cons (ps_gst (pv 0) (pv 1)) (pss_cons (ps_gst (pv 0) (pv 2)) (pss_one (ps_gst (pv 0) pe_str)))), ?_⟩
    refine gst_first (a := a) rfl T.x_TooMany.T (T.x_TooMany.no "subject" (by decide +kernel)) e (fun Q q => ⟨y0, rfl, q⟩) fun d H1 A1 => ?_
    dsimp only
    refine gst_next (a := a) rfl T.x_TooMany.T (T.x_TooMany.no "most" (by decide +kernel)) A1 (Nat.le_of_ble_eq_true rfl) (fun Q q => ⟨y1, rfl, q⟩) fun H2 A2 => ?_
    dsimp only
    refine gst_next (a := a) rfl T.x_TooMany.T (T.x_TooMany.no "code" (by decide +kernel)) A2 (Nat.le_of_ble_eq_true rfl) (fun Q q => q) fun H3 A3 => ?_
    exact q d _ A3
theorem kb_TooMany (T : Txt K mg) : KBn K T.x_TooMany.fd ["self", "subject", "most"] 1 ["most", "subject"] (fun us ws => us ++ ws.reverse) (fun vs zs => vs ++ zs.reverse) :=
  T.x_TooMany.kw ["most", "subject"] fun _ _ _ _ _ _ us ws l1 l2 => match us, ws, l1, l2 with | [_], [_, _], _, _ => rfl
theorem ok_init_MisplacedStep (T : Txt K mg) : FnOk P w K mg base CX0 1 T.x_MisplacedStep.f T.x_MisplacedStep.fd ["self", "train", "step"] (spInit T.x_MisplacedStep.C ["train", "step"] "MisplacedStep") := by
  refine T.x_MisplacedStep.F.ok sc_i_MisplacedStep (fun vs H Q E h => spInit_len rfl h) (fun cdv A outer s H vs Q E hr h => ?_)
  obtain ⟨a, ws, rfl, l, e, q⟩ := h
  match ws, l with
  | [y0, y1], _ =>
    refine ⟨_, (pss_cons (ps_gst (pv 0) (pv 1)) (pss_cons (ps_gst (pv 0) (pv 2)) (pss_one (ps_gst (pv 0) pe_str)))), ?_⟩
    refine gst_first (a := a) rfl T.x_MisplacedStep.T (T.x_MisplacedStep.no "train" (by decide +kernel)) e (fun Q q => ⟨y0, rfl, q⟩) fun d H1 A1 => ?_
    dsimp only
    refine gst_next (a := a) rfl T.x_MisplacedStep.T (T.x_MisplacedStep.no "step" (by decide +kernel)) A1 (Nat.le_of_ble_eq_true rfl) (fun Q q => ⟨y1, rfl, q⟩) fun H2 A2 => ?_
    dsimp only
    refine gst_next (a := a) rfl T.x_MisplacedStep.T (T.x_MisplacedStep.no "code" (by decide +kernel)) A2 (Nat.le_of_ble_eq_true rfl) (fun Q q => q) fun H3 A3 => ?_
    exact q d _ A3
theorem kb_MisplacedStep (T : Txt K mg) : KBn K T.x_MisplacedStep.fd ["self", "train", "step"] 1 ["step", "train"] (fun us ws => us ++ ws.reverse) (fun vs zs => vs ++ zs.reverse) :=
  T.x_MisplacedStep.kw ["step", "train"] fun _ _ _ _ _ _ us ws l1 l2 => match us, ws, l1, l2 with | [_], [_, _], _, _ => rfl
theorem ok_init_OwnRing (T : Txt K mg) : FnOk P w K mg base CX0 1 T.x_OwnRing.f T.x_OwnRing.fd ["self", "train", "step", "element"] (spInit T.x_OwnRing.C ["train", "step", "element"] "OwnRing") := by
  refine T.x_OwnRing.F.ok sc_i_OwnRing (fun vs H Q E h => spInit_len rfl h) (fun cdv A outer s H vs Q E hr h => ?_)
  obtain ⟨a, ws, rfl, l, e, q⟩ := h
  match ws, l with
  | [y0, y1, y2], _ =>
    refine ⟨_, (pss_cons (ps_gst (pv 0) (pv 1)) (pss_cons (ps_gst (pv 0) (pv 2)) (pss_cons (ps_gst (pv 0) (pv 3)) (pss_one (ps_gst (pv 0) pe_str))))), ?_⟩
    refine gst_first (a := a) rfl T.x_OwnRing.T (T.x_OwnRing.no "train" (by decide +kernel)) e (fun Q q => ⟨y0, rfl, q⟩) fun d H1 A1 => ?_
    dsimp only
    refine gst_next (a := a) rfl T.x_OwnRing.T (T.x_OwnRing.no "step" (by decide +kernel)) A1 (Nat.le_of_ble_eq_true rfl) (fun Q q => ⟨y1, rfl, q⟩) fun H2 A2 => ?_
    dsimp only
    refine gst_next (a := a) rfl T.x_OwnRing.T (T.x_OwnRing.no "element" (by decide +kernel)) A2 (Nat.le_of_ble_eq_true rfl) (fun Q q => ⟨y2, rfl, q⟩) fun H3 A3 => ?_
    dsimp only
    refine gst_next (a := a) rfl T.x_OwnRing.T (T.x_OwnRing.no "code" (by decide +kernel)) A3 (Nat.le_of_ble_eq_true rfl) (fun Q q => q) fun H4 A4 => ?_
    exact q d _ A4
theorem kb_OwnRing (T : Txt K mg) : KBn K T.x_OwnRing.fd ["self", "train", "step", "element"] 1 ["element", "step", "train"] (fun us ws => us ++ ws.reverse) (fun vs zs => vs ++ zs.reverse) :=
  T.x_OwnRing.kw ["element", "step", "train"] fun _ _ _ _ _ _ us ws l1 l2 => match us, ws, l1, l2 with | [_], [_, _, _], _, _ => rfl
theorem ok_init_Refused (T : Txt K mg) : FnOk P w K mg base CX0 1 T.x_Refused.f T.x_Refused.fd ["self", "train", "element", "holder"] (spInit T.x_Refused.C ["train", "element", "holder"] "Refused") := by
  refine T.x_Refused.F.ok sc_i_Refused (fun vs H Q E h => spInit_len rfl h) (fun cdv A outer s H vs Q E hr h => ?_)
  obtain ⟨a, ws, rfl, l, e, q⟩ := h
  match ws, l with
  | [y0, y1, y2], _ =>
    refine ⟨_, (pss_cons (ps_gst (pv 0) (pv 1)) (pss_cons (ps_gst (pv 0) (pv 2)) (pss_cons (ps_gst (pv 0) (pv 3)) (pss_one (ps_gst (pv 0) pe_str))))), ?_⟩
    refine gst_first (a := a) rfl T.x_Refused.T (T.x_Refused.no "train" (by decide +kernel)) e (fun Q q => ⟨y0, rfl, q⟩) fun d H1 A1 => ?_
    dsimp only
    refine gst_next (a := a) rfl T.x_Refused.T (T.x_Refused.no "element" (by decide +kernel)) A1 (Nat.le_of_ble_eq_true rfl) (fun Q q => ⟨y1, rfl, q⟩) fun H2 A2 => ?_
    dsimp only
    refine gst_next (a := a) rfl T.x_Refused.T (T.x_Refused.no "holder" (by decide +kernel)) A2 (Nat.le_of_ble_eq_true rfl) (fun Q q => ⟨y2, rfl, q⟩) fun H3 A3 => ?_
    dsimp only
    refine gst_next (a := a) rfl T.x_Refused.T (T.x_Refused.no "code" (by decide +kernel)) A3 (Nat.le_of_ble_eq_true rfl) (fun Q q => q) fun H4 A4 => ?_
    exact q d _ A4
theorem kb_Refused (T : Txt K mg) : KBn K T.x_Refused.fd ["self", "train", "element", "holder"] 1 ["holder", "element", "train"] (fun us ws => us ++ ws.reverse) (fun vs zs => vs ++ zs.reverse) :=
  T.x_Refused.kw ["holder", "element", "train"] fun _ _ _ _ _ _ us ws l1 l2 => match us, ws, l1, l2 with | [_], [_, _, _], _, _ => rfl
theorem ok_init_Lacking (T : Txt K mg) : FnOk P w K mg base CX0 1 T.x_Lacking.f T.x_Lacking.fd ["self", "train", "other"] (spInit T.x_Lacking.C ["train", "other"] "Lacking") := by
  refine T.x_Lacking.F.ok sc_i_Lacking (fun vs H Q E h => spInit_len rfl h) (fun cdv A outer s H vs Q E hr h => ?_)
  obtain ⟨a, ws, rfl, l, e, q⟩ := h
  match ws, l with
  | [y0, y1], _ =>
    refine ⟨_, (pss_cons (ps_gst (pv 0) (pv 1)) (pss_cons (ps_gst (pv 0) (pv 2)) (pss_one (ps_gst (pv 0) pe_str)))), ?_⟩
    refine gst_first (a := a) rfl T.x_Lacking.T (T.x_Lacking.no "train" (by decide +kernel)) e (fun Q q => ⟨y0, rfl, q⟩) fun d H1 A1 => ?_
    dsimp only
    refine gst_next (a := a) rfl T.x_Lacking.T (T.x_Lacking.no "other" (by decide +kernel)) A1 (Nat.le_of_ble_eq_true rfl) (fun Q q => ⟨y1, rfl, q⟩) fun H2 A2 => ?_
    dsimp only
    refine gst_next (a := a) rfl T.x_Lacking.T (T.x_Lacking.no "code" (by decide +kernel)) A2 (Nat.le_of_ble_eq_true rfl) (fun Q q => q) fun H3 A3 => ?_
    exact q d _ A3
theorem kb_Lacking (T : Txt K mg) : KBn K T.x_Lacking.fd ["self", "train", "other"] 1 ["other", "train"] (fun us ws => us ++ ws.reverse) (fun vs zs => vs ++ zs.reverse) :=
  T.x_Lacking.kw ["other", "train"] fun _ _ _ _ _ _ us ws l1 l2 => match us, ws, l1, l2 with | [_], [_, _], _, _ => rfl
theorem ok_init_Unready (T : Txt K mg) : FnOk P w K mg base CX0 1 T.x_Unready.f T.x_Unready.fd ["self", "train"] (spInit T.x_Unready.C ["train"] "Unready") := by
  refine T.x_Unready.F.ok sc_i_Unready (fun vs H Q E h => spInit_len rfl h) (fun cdv A outer s H vs Q E hr h => ?_)
  obtain ⟨a, ws, rfl, l, e, q⟩ := h
  match ws, l with
  | [y0], _ =>
    refine ⟨_, (pss_cons (ps_gst (pv 0) (pv 1)) (pss_one (ps_gst (pv 0) pe_str))), ?_⟩
    refine gst_first (a := a) rfl T.x_Unready.T (T.x_Unready.no "train" (by decide +kernel)) e (fun Q q => ⟨y0, rfl, q⟩) fun d H1 A1 => ?_
    dsimp only
    refine gst_next (a := a) rfl T.x_Unready.T (T.x_Unready.no "code" (by decide +kernel)) A1 (Nat.le_of_ble_eq_true rfl) (fun Q q => q) fun H2 A2 => ?_
    exact q d _ A2
theorem kb_Unready (T : Txt K mg) : KBn K T.x_Unready.fd ["self", "train"] 1 ["train"] (fun us ws => us ++ ws.reverse) (fun vs zs => vs ++ zs.reverse) :=
  T.x_Unready.kw ["train"] fun _ _ _ _ _ _ us ws l1 l2 => match us, ws, l1, l2 with | [_], [_], _, _ => rfl
theorem ok_init_Finished (T : Txt K mg) : FnOk P w K mg base CX0 1 T.x_Finished.f T.x_Finished.fd ["self", "train"] (spInit T.x_Finished.C ["train"] "Finished") := by
  refine T.x_Finished.F.ok sc_i_Finished (fun vs H Q E h => spInit_len rfl h) (fun cdv A outer s H vs Q E hr h => ?_)
  obtain ⟨a, ws, rfl, l, e, q⟩ := h
  match ws, l with
  | [y0], _ =>
    refine ⟨_, (pss_cons (ps_gst (pv 0) (pv 1)) (pss_one (ps_gst (pv 0) pe_str))), ?_⟩
    refine gst_first (a := a) rfl T.x_Finished.T (T.x_Finished.no "train" (by decide +kernel)) e (fun Q q => ⟨y0, rfl, q⟩) fun d H1 A1 => ?_
    dsimp only
    refine gst_next (a := a) rfl T.x_Finished.T (T.x_Finished.no "code" (by decide +kernel)) A1 (Nat.le_of_ble_eq_true rfl) (fun Q q => q) fun H2 A2 => ?_
    exact q d _ A2
theorem kb_Finished (T : Txt K mg) : KBn K T.x_Finished.fd ["self", "train"] 1 ["train"] (fun us ws => us ++ ws.reverse) (fun vs zs => vs ++ zs.reverse) :=
  T.x_Finished.kw ["train"] fun _ _ _ _ _ _ us ws l1 l2 => match us, ws, l1, l2 with | [_], [_], _, _ => rfl
theorem ok_init_Barred (T : Txt K mg) : FnOk P w K mg base CX0 1 T.x_Barred.f T.x_Barred.fd ["self", "train", "step"] (spInit T.x_Barred.C ["train", "step"] "Barred") := by
  refine T.x_Barred.F.ok sc_i_Barred (fun vs H Q E h => spInit_len rfl h) (fun cdv A outer s H vs Q E hr h => ?_)
  obtain ⟨a, ws, rfl, l, e, q⟩ := h
  match ws, l with
  | [y0, y1], _ =>
    refine ⟨_, (pss_cons (ps_gst (pv 0) (pv 1)) (pss_cons (ps_gst (pv 0) (pv 2)) (pss_one (ps_gst (pv 0) pe_str)))), ?_⟩
    refine gst_first (a := a) rfl T.x_Barred.T (T.x_Barred.no "train" (by decide +kernel)) e (fun Q q => ⟨y0, rfl, q⟩) fun d H1 A1 => ?_
    dsimp only
    refine gst_next (a := a) rfl T.x_Barred.T (T.x_Barred.no "step" (by decide +kernel)) A1 (Nat.le_of_ble_eq_true rfl) (fun Q q => ⟨y1, rfl, q⟩) fun H2 A2 => ?_
    dsimp only
    refine gst_next (a := a) rfl T.x_Barred.T (T.x_Barred.no "code" (by decide +kernel)) A2 (Nat.le_of_ble_eq_true rfl) (fun Q q => q) fun H3 A3 => ?_
    exact q d _ A3
theorem kb_Barred (T : Txt K mg) : KBn K T.x_Barred.fd ["self", "train", "step"] 1 ["step", "train"] (fun us ws => us ++ ws.reverse) (fun vs zs => vs ++ zs.reverse) :=
  T.x_Barred.kw ["step", "train"] fun _ _ _ _ _ _ us ws l1 l2 => match us, ws, l1, l2 with | [_], [_, _], _, _ => rfl
theorem ok_init_NoDay (T : Txt K mg) : FnOk P w K mg base CX0 1 T.x_NoDay.f T.x_NoDay.fd ["self"] (spInit T.x_NoDay.C [] "NoDay") := by
  refine T.x_NoDay.F.ok sc_i_NoDay (fun vs H Q E h => spInit_len rfl h) (fun cdv A outer s H vs Q E hr h => ?_)
  obtain ⟨a, ws, rfl, l, e, q⟩ := h
  match ws, l with
  | [], _ =>
    refine ⟨_, (pss_one (ps_gst (pv 0) pe_str)), ?_⟩
    refine gst_first (a := a) rfl T.x_NoDay.T (T.x_NoDay.no "code" (by decide +kernel)) e (fun Q q => q) fun d H1 A1 => ?_
    exact q d _ A1
theorem ok_init_Doomed (T : Txt K mg) : FnOk P w K mg base CX0 1 T.x_Doomed.f T.x_Doomed.fd ["self"] (spInit T.x_Doomed.C [] "Doomed") := by
  refine T.x_Doomed.F.ok sc_i_Doomed (fun vs H Q E h => spInit_len rfl h) (fun cdv A outer s H vs Q E hr h => ?_)
  obtain ⟨a, ws, rfl, l, e, q⟩ := h
  match ws, l with
  | [], _ =>
    refine ⟨_, (pss_one (ps_gst (pv 0) pe_str)), ?_⟩
    refine gst_first (a := a) rfl T.x_Doomed.T (T.x_Doomed.no "code" (by decide +kernel)) e (fun Q q => q) fun d H1 A1 => ?_
    exact q d _ A1
theorem ok_init_NeverCleared (T : Txt K mg) : FnOk P w K mg base CX0 1 T.x_NeverCleared.f T.x_NeverCleared.fd ["self", "train", "step", "element"] (spInit T.x_NeverCleared.C ["train", "step", "element"] "NeverCleared") := by
  refine T.x_NeverCleared.F.ok sc_i_NeverCleared (fun vs H Q E h => spInit_len rfl h) (fun cdv A outer s H vs Q E hr h => ?_)
  obtain ⟨a, ws, rfl, l, e, q⟩ := h
  match ws, l with
  | [y0, y1, y2], _ =>
    refine ⟨_, (pss_cons (ps_gst (pv 0) (pv 1)) (pss_cons (ps_gst (pv 0) (pv 2)) (pss_cons (ps_gst (pv 0) (pv 3)) (pss_one (ps_gst (pv 0) pe_str))))), ?_⟩
    refine gst_first (a := a) rfl T.x_NeverCleared.T (T.x_NeverCleared.no "train" (by decide +kernel)) e (fun Q q => ⟨y0, rfl, q⟩) fun d H1 A1 => ?_
    dsimp only
    refine gst_next (a := a) rfl T.x_NeverCleared.T (T.x_NeverCleared.no "step" (by decide +kernel)) A1 (Nat.le_of_ble_eq_true rfl) (fun Q q => ⟨y1, rfl, q⟩) fun H2 A2 => ?_
    dsimp only
    refine gst_next (a := a) rfl T.x_NeverCleared.T (T.x_NeverCleared.no "element" (by decide +kernel)) A2 (Nat.le_of_ble_eq_true rfl) (fun Q q => ⟨y2, rfl, q⟩) fun H3 A3 => ?_
    dsimp only
    refine gst_next (a := a) rfl T.x_NeverCleared.T (T.x_NeverCleared.no "code" (by decide +kernel)) A3 (Nat.le_of_ble_eq_true rfl) (fun Q q => q) fun H4 A4 => ?_
    exact q d _ A4
theorem kb_NeverCleared (T : Txt K mg) : KBn K T.x_NeverCleared.fd ["self", "train", "step", "element"] 1 ["element", "step", "train"] (fun us ws => us ++ ws.reverse) (fun vs zs => vs ++ zs.reverse) :=
  T.x_NeverCleared.kw ["element", "step", "train"] fun _ _ _ _ _ _ us ws l1 l2 => match us, ws, l1, l2 with | [_], [_, _, _], _, _ => rfl
theorem ok_init_NoPeriod (T : Txt K mg) : FnOk P w K mg base CX0 1 T.x_NoPeriod.f T.x_NoPeriod.fd ["self"] (spInit T.x_NoPeriod.C [] "NoPeriod") := by
  refine T.x_NoPeriod.F.ok sc_i_NoPeriod (fun vs H Q E h => spInit_len rfl h) (fun cdv A outer s H vs Q E hr h => ?_)
  obtain ⟨a, ws, rfl, l, e, q⟩ := h
  match ws, l with
  | [], _ =>
    refine ⟨_, (pss_one (ps_gst (pv 0) pe_str)), ?_⟩
    refine gst_first (a := a) rfl T.x_NoPeriod.T (T.x_NoPeriod.no "code" (by decide +kernel)) e (fun Q q => q) fun d H1 A1 => ?_
    exact q d _ A1
theorem ok_init_TooShort (T : Txt K mg) : FnOk P w K mg base CX0 1 T.x_TooShort.f T.x_TooShort.fd ["self", "period"] (spInit T.x_TooShort.C ["period"] "TooShort") := by
  refine T.x_TooShort.F.ok sc_i_TooShort (fun vs H Q E h => spInit_len rfl h) (fun cdv A outer s H vs Q E hr h => ?_)
  obtain ⟨a, ws, rfl, l, e, q⟩ := h
  match ws, l with
  | [y0], _ =>
    refine ⟨_, (pss_cons (ps_gst (pv 0) (pv 1)) (pss_one (ps_gst (pv 0) pe_str))), ?_⟩
    refine gst_first (a := a) rfl T.x_TooShort.T (T.x_TooShort.no "period" (by decide +kernel)) e (fun Q q => ⟨y0, rfl, q⟩) fun d H1 A1 => ?_
    dsimp only
    refine gst_next (a := a) rfl T.x_TooShort.T (T.x_TooShort.no "code" (by decide +kernel)) A1 (Nat.le_of_ble_eq_true rfl) (fun Q q => q) fun H2 A2 => ?_
    exact q d _ A2
theorem kb_TooShort (T : Txt K mg) : KBn K T.x_TooShort.fd ["self", "period"] 1 ["period"] (fun us ws => us ++ ws.reverse) (fun vs zs => vs ++ zs.reverse) :=
  T.x_TooShort.kw ["period"] fun _ _ _ _ _ _ us ws l1 l2 => match us, ws, l1, l2 with | [_], [_], _, _ => rfl
theorem ok_init_UnknownName (T : Txt K mg) : FnOk P w K mg base CX0 1 T.x_UnknownName.f T.x_UnknownName.fd ["self", "name"] (spInit T.x_UnknownName.C ["name"] "UnknownName") := by
  refine T.x_UnknownName.F.ok sc_i_UnknownName (fun vs H Q E h => spInit_len rfl h) (fun cdv A outer s H vs Q E hr h => ?_)
  obtain ⟨a, ws, rfl, l, e, q⟩ := h
  match ws, l with
  | [y0], _ =>
    refine ⟨_, (pss_cons (ps_gst (pv 0) (pv 1)) (pss_one (ps_gst (pv 0) pe_str))), ?_⟩
    refine gst_first (a := a) rfl T.x_UnknownName.T (T.x_UnknownName.no "name" (by decide +kernel)) e (fun Q q => ⟨y0, rfl, q⟩) fun d H1 A1 => ?_
    dsimp only
    refine gst_next (a := a) rfl T.x_UnknownName.T (T.x_UnknownName.no "code" (by decide +kernel)) A1 (Nat.le_of_ble_eq_true rfl) (fun Q q => q) fun H2 A2 => ?_
    exact q d _ A2
theorem kb_UnknownName (T : Txt K mg) : KBn K T.x_UnknownName.fd ["self", "name"] 1 ["name"] (fun us ws => us ++ ws.reverse) (fun vs zs => vs ++ zs.reverse) :=
  T.x_UnknownName.kw ["name"] fun _ _ _ _ _ _ us ws l1 l2 => match us, ws, l1, l2 with | [_], [_], _, _ => rfl
theorem ok_init_UnknownEnd (T : Txt K mg) : FnOk P w K mg base CX0 1 T.x_UnknownEnd.f T.x_UnknownEnd.fd ["self", "end"] (spInit T.x_UnknownEnd.C ["end"] "UnknownEnd") := by
  refine T.x_UnknownEnd.F.ok sc_i_UnknownEnd (fun vs H Q E h => spInit_len rfl h) (fun cdv A outer s H vs Q E hr h => ?_)
  obtain ⟨a, ws, rfl, l, e, q⟩ := h
  match ws, l with
  | [y0], _ =>
    refine ⟨_, (pss_cons (ps_gst (pv 0) (pv 1)) (pss_one (ps_gst (pv 0) pe_str))), ?_⟩
    refine gst_first (a := a) rfl T.x_UnknownEnd.T (T.x_UnknownEnd.no "end" (by decide +kernel)) e (fun Q q => ⟨y0, rfl, q⟩) fun d H1 A1 => ?_
    dsimp only
    refine gst_next (a := a) rfl T.x_UnknownEnd.T (T.x_UnknownEnd.no "code" (by decide +kernel)) A1 (Nat.le_of_ble_eq_true rfl) (fun Q q => q) fun H2 A2 => ?_
    exact q d _ A2
theorem kb_UnknownEnd (T : Txt K mg) : KBn K T.x_UnknownEnd.fd ["self", "end"] 1 ["end"] (fun us ws => us ++ ws.reverse) (fun vs zs => vs ++ zs.reverse) :=
  T.x_UnknownEnd.kw ["end"] fun _ _ _ _ _ _ us ws l1 l2 => match us, ws, l1, l2 with | [_], [_], _, _ => rfl
theorem ok_init_UnknownEntry (T : Txt K mg) : FnOk P w K mg base CX0 1 T.x_UnknownEntry.f T.x_UnknownEntry.fd ["self", "entry"] (spInit T.x_UnknownEntry.C ["entry"] "UnknownEntry") := by
  refine T.x_UnknownEntry.F.ok sc_i_UnknownEntry (fun vs H Q E h => spInit_len rfl h) (fun cdv A outer s H vs Q E hr h => ?_)
  obtain ⟨a, ws, rfl, l, e, q⟩ := h
  match ws, l with
  | [y0], _ =>
    refine ⟨_, (pss_cons (ps_gst (pv 0) (pv 1)) (pss_one (ps_gst (pv 0) pe_str))), ?_⟩
    refine gst_first (a := a) rfl T.x_UnknownEntry.T (T.x_UnknownEntry.no "entry" (by decide +kernel)) e (fun Q q => ⟨y0, rfl, q⟩) fun d H1 A1 => ?_
    dsimp only
    refine gst_next (a := a) rfl T.x_UnknownEntry.T (T.x_UnknownEntry.no "code" (by decide +kernel)) A1 (Nat.le_of_ble_eq_true rfl) (fun Q q => q) fun H2 A2 => ?_
    exact q d _ A2
theorem kb_UnknownEntry (T : Txt K mg) : KBn K T.x_UnknownEntry.fd ["self", "entry"] 1 ["entry"] (fun us ws => us ++ ws.reverse) (fun vs zs => vs ++ zs.reverse) :=
  T.x_UnknownEntry.kw ["entry"] fun _ _ _ _ _ _ us ws l1 l2 => match us, ws, l1, l2 with | [_], [_], _, _ => rfl
theorem ok_init_NothingLeft (T : Txt K mg) : FnOk P w K mg base CX0 1 T.x_NothingLeft.f T.x_NothingLeft.fd ["self"] (spInit T.x_NothingLeft.C [] "NothingLeft") := by
  refine T.x_NothingLeft.F.ok sc_i_NothingLeft (fun vs H Q E h => spInit_len rfl h) (fun cdv A outer s H vs Q E hr h => ?_)
  obtain ⟨a, ws, rfl, l, e, q⟩ := h
  match ws, l with
  | [], _ =>
    refine ⟨_, (pss_one (ps_gst (pv 0) pe_str)), ?_⟩
    refine gst_first (a := a) rfl T.x_NothingLeft.T (T.x_NothingLeft.no "code" (by decide +kernel)) e (fun Q q => q) fun d H1 A1 => ?_
    exact q d _ A1
end
end Rd
set_option maxHeartbeats 4000000
namespace Rd
open PySem PySem.Spec PyProof.Rows L2
open C8 (pss_cut tCut)
/-! ## shapes of exceptions -/
def exF (nm : List Str) (code : Str) (ws : List V) : List (Str × V) := ("code", .str code) :: (nm.zip ws).reverse
def valsOf : List Sh → List V
  | .c x :: r => x :: valsOf r
  | _ => []
def allC : List Sh → Bool
  | [] => true
  | .c _ :: r => allC r
  | _ => false
theorem vals_of {b : Addr} {H : Hp} : ∀ {ss : List Sh} {vs : List V}, allC ss = true → IsAll b H ss vs → vs = valsOf ss
  | [], _, _, h => h
  | .c x :: r, _, a, h => by
    obtain ⟨v, ws, rfl, e, q⟩ := h
    rw [show v = x from e, vals_of (ss := r) a q]
    rfl
  | .is _ :: _, _, a, _ => by cases a
  | .l _ :: _, _, a, _ => by cases a
  | .t _ :: _, _, a, _ => by cases a
  | .o _ :: _, _, a, _ => by cases a
  | .x _ _ :: _, _, a, _ => by cases a
theorem valsOf_length : ∀ {ss : List Sh}, allC ss = true → (valsOf ss).length = ss.length
  | [], _ => rfl
  | .c x :: r, a => by
    show (valsOf r).length + 1 = r.length + 1
    rw [valsOf_length (ss := r) a]
  | .is _ :: _, a => by cases a
  | .l _ :: _, a => by cases a
  | .t _ :: _, a => by cases a
  | .o _ :: _, a => by cases a
  | .x _ _ :: _, a => by cases a
theorem is_c {b : Addr} {H : Hp} {v : V} : Is b H (.c v) v := rfl
section
variable {b : Addr} {σ : L2.St} {H0 H : Hp} {te ta tb tl : TE} {tr tk : TA} {s : Sh} {ss : List Sh} {K : PySem.W.Frag} {C : Addr} {nm : List Str} {code : Str} {fs : List (Str × V)}
theorem mkq {ws : List V} {H1 : Hp} {Q : VK} (hB : Bag H1 b) (l : ws.length = nm.length) (q : ∀ v H', Go b H1 H' → Is b H' (.x C (exF nm code ws)) v → Q v H') : MkQ (spInit C nm code) C (fun a => a :: ws) H1 Q := fun a na =>
  ⟨a, ws, rfl, l, upd_same, fun d H' A => ⟨rfl, by
    have nd : H1 d = none := by
      have := A.nd
      rw [upd_ne A.da] at this
      exact this
    have sm : Same H1 H' := fun p o e => by
      rw [A.keep p (ne_of_none e na) (ne_of_none e nd), upd_ne (ne_of_none e na)]
      exact e
    exact q _ H' (Go.of_same hB sm) ⟨a, d, rfl, hB.ne na, hB.ne nd, A.ea, A.ed⟩⟩⟩
theorem e_mkV (h : EvN b tr σ H0 ss) (a : allC ss = true) (l : ss.length = nm.length) (l2 : nm.length ≤ 1000) : Ev1 b (tMkV C (spInit C nm code) tr) σ H0 (.x C (exF nm code (valsOf ss))) := fun H g Q q =>
  h H g _ fun vs H1 g1 i1 => by
    have e := vals_of a i1
    have l3 := valsOf_length a
    rw [e]
    exact ⟨by omega, mkq g1.1 (by omega) fun v H2 g2 i2 => q v H2 (g1.trans g2) i2⟩
theorem e_mkK {m : Nat} (h : EvN b tk σ H0 ss) (a : allC ss = true) (l : ss.length = m) (l2 : ss.length = nm.length) : Ev1 b (tMkK C m (spInit C nm code) (fun vs zs => vs ++ zs.reverse) tk) σ H0 (.x C (exF nm code (valsOf ss).reverse)) := fun H g Q q =>
  h H g _ fun vs H1 g1 i1 => by
    have e := vals_of a i1
    have l3 := valsOf_length a
    rw [e]
    exact ⟨by omega, mkq g1.1 (by show (valsOf ss).reverse.length = nm.length; rw [List.length_reverse]; omega) fun v H2 g2 i2 => q v H2 (g1.trans g2) i2⟩
theorem e_isX {c : Addr} {bb : Bool} (h : EvN b tr σ H0 [.x C fs, .c (.ref c)]) (T : XF K C) (k : PySem.W.kitOne K (.ref C) (.ref c) = some bb) : Ev1 b (tCB (rIsX K) tr) σ H0 (.c (.bl bb)) := fun H g Q q =>
  h H g _ fun vs H1 g1 i1 => by
    obtain ⟨v, w, rfl, ⟨a, d, rfl, n1, n2, o1, o2⟩, rfl⟩ := is2 i1
    exact ⟨a, C, d, fs, _, _, bb, rfl, .own c, o1, o2, T, k, q _ H1 g1 rfl⟩
theorem e_isT {c : String} {bb : Bool} (h : EvN b tr σ H0 [.x C fs, .c (.ty c)]) (T : XF K C) (k : PySem.W.kitOne K (.ref C) (.type c) = some bb) : Ev1 b (tCB (rIsX K) tr) σ H0 (.c (.bl bb)) := fun H g Q q =>
  h H g _ fun vs H1 g1 i1 => by
    obtain ⟨v, w, rfl, ⟨a, d, rfl, n1, n2, o1, o2⟩, rfl⟩ := is2 i1
    exact ⟨a, C, d, fs, _, _, bb, rfl, .ty c, o1, o2, T, k, q _ H1 g1 rfl⟩
theorem e_gf {f : Str} {v : V} (h : Ev1 b te σ H0 (.x C fs)) (T : XF K C) (n : PySem.W.findIn K (.ref C) f = some none) (l : fs.lookup f = some v) : Ev1 b (tGf K f te) σ H0 (.c v) := fun H g Q q =>
  h H g _ fun u H1 g1 i1 => by
    obtain ⟨a, d, rfl, n1, n2, o1, o2⟩ := i1
    exact ⟨a, C, d, fs, v, rfl, T, n, o1, o2, l, q _ H1 g1 rfl⟩
theorem e_inC {z : Str} (h : Ev1 b te σ H0 (.c (.str z))) (k : Ev1 b tl σ H0 (.l ss)) (a : allC ss = true) (f : (valsOf ss).all flatV = true) : Ev1 b (tOp (rIn K false) te tl) σ H0 (.c (.bl (inV (.str z) (valsOf ss)))) := fun H g Q q =>
  h H g _ fun v H1 g1 i1 => k H1 (g.trans g1) _ fun w H2 g2 i2 => by
    obtain ⟨p, vs, rfl, _, o, r⟩ := i2
    have e := vals_of a r
    rw [e] at o
    rw [show v = _ from i1]
    exact ⟨p, _, rfl, .inl (SqL.of o), rfl, f, q _ H2 (g1.trans g2) rfl⟩
theorem e_eqC {x y : Str} (h : Ev1 b ta σ H0 (.c (.str x))) (k : Ev1 b tb σ H0 (.c (.str y))) : Ev1 b (tOp rEq ta tb) σ H0 (.c (.bl (decide (V.str x = V.str y)))) := fun H g Q q =>
  h H g _ fun v H1 g1 i1 => k H1 (g.trans g1) _ fun w H2 g2 i2 => by
    rw [show v = _ from i1, show w = _ from i2]
    exact ⟨rfl, q _ H2 (g1.trans g2) rfl⟩
variable {D : Ends} {t1 t2 : TS}
theorem q_set {i : Nat} (hB : Bag H b) (h : Ev1 b te σ H s) (q : ∀ v H', Go b H H' → Is b H' s v → t2 D (σ.set i (some v)) H') : tSeq (tAsg te (gName i)) t2 D σ H := h H (.refl hB) _ q
theorem q_ret (hB : Bag H b) (h : Ev1 b te σ H s) (q : ∀ v H', Go b H H' → Is b H' s v → D.rt v H') : tRet te D σ H := h H (.refl hB) _ q
theorem q_if {c : Bool} (hB : Bag H b) (h : Ev1 b te σ H (.c (.bl c))) (q1 : c = true → ∀ H', Go b H H' → t1 { D with nx := t2 D } σ H') (q2 : c = false → ∀ H', Go b H H' → t2 D σ H') : tSeq (tIfS (tTest te) t1 tNext) t2 D σ H :=
  h H (.refl hB) _ fun v H1 g1 i1 => ⟨c, i1, by
    cases c with
    | true => exact iteT (q1 rfl H1 g1)
    | false => exact iteF (q2 rfl H1 g1)⟩
end
local macro_rules | `(tactic| walk_at "ev") => `(tactic| repeat' (first
  | ((with_reducible show EvN _ tNil _ _ _); exact n_nil)
  | ((with_reducible show EvN _ (tCons _ _) _ _ _); apply n_cons)
  | ((with_reducible show Ev1 _ (tVar _) _ _ _); (apply e_var rfl; first | assumption | exact is_c | exact rfl))
  | ((with_reducible show Ev1 _ (tC _) _ _ _); (exact e_c))
  | ((with_reducible show Ev1 _ (tLst _) _ _ _); (apply e_lst))
  | ((with_reducible show Ev1 _ (tTup _) _ _ _); (apply e_tup))
  | ((with_reducible show Ev1 _ (tMkV _ _ _) _ _ _); (apply e_mkV))
  | ((with_reducible show Ev1 _ (tMkK _ _ _ _ _) _ _ _); (apply e_mkK))
  | ((with_reducible show Ev1 _ (tOp _ _ _) _ _ _); (first | with_reducible apply e_cat | with_reducible apply e_inC | with_reducible apply e_eqC))
  | ((with_reducible show Ev1 _ (tCB _ _) _ _ _); (first | with_reducible apply e_isX | with_reducible apply e_isT))
  | ((with_reducible show Ev1 _ (tGf _ _ _) _ _ _); (apply e_gf))
  | ((with_reducible show allC _ = true); rfl)
  | ((with_reducible show List.length _ = _); rfl)
  | ((with_reducible show List.all _ _ = true); rfl)
  | with_reducible assumption
  | exact Nat.le_of_ble_eq_true rfl
  | assumption))
section
variable {P : Program} {w : World} {K : PySem.W.Frag} {mg : Str → Option Value} {base : Heap}
/-! ## the errors by names and by position -/
def rowsSh (T : Txt K mg) (x y z : V) : List Sh := [.x T.x_InvalidName.C (exF ["value"] "InvalidName" [x]), .x T.x_InvalidNumber.C (exF ["value"] "InvalidNumber" [x]), .x T.x_InvalidSection.C (exF ["value"] "InvalidSection" [x]), .x T.x_InvalidTimes.C (exF ["value"] "InvalidTimes" [x]), .x T.x_InvalidStep.C (exF ["value"] "InvalidStep" [x]), .x T.x_InvalidStanding.C (exF ["value"] "InvalidStanding" [x]), .x T.x_InvalidRow.C (exF ["value"] "InvalidRow" [x]), .x T.x_InvalidTable.C (exF ["value"] "InvalidTable" [x]), .x T.x_InvalidDelays.C (exF ["value"] "InvalidDelays" [x]), .x T.x_InvalidPeriod.C (exF ["value"] "InvalidPeriod" [x]), .x T.x_InvalidHeights.C (exF ["value"] "InvalidHeights" [x]), .x T.x_InvalidDeed.C (exF ["value"] "InvalidDeed" [x]), .x T.x_InvalidTurn.C (exF ["at"] "InvalidTurn" [x]), .x T.x_InvalidWait.C (exF ["at"] "InvalidWait" [x]), .x T.x_InvalidWish.C (exF ["at"] "InvalidWish" [x]), .x T.x_InvalidJourney.C (exF ["at"] "InvalidJourney" [x]), .x T.x_InvalidText.C (exF ["line"] "InvalidText" [x]), .x T.x_DuplicateName.C (exF ["name"] "DuplicateName" [x]), .x T.x_InUse.C (exF ["name"] "InUse" [x]), .x T.x_TakenEnd.C (exF ["end"] "TakenEnd" [x]), .x T.x_LooseEnd.C (exF ["end"] "LooseEnd" [x]), .x T.x_TooMany.C (exF ["subject", "most"] "TooMany" [x, y]), .x T.x_MisplacedStep.C (exF ["train", "step"] "MisplacedStep" [x, y]), .x T.x_OwnRing.C (exF ["train", "step", "element"] "OwnRing" [x, y, z]), .x T.x_Refused.C (exF ["train", "element", "holder"] "Refused" [x, y, z]), .x T.x_Lacking.C (exF ["train", "other"] "Lacking" [x, y]), .x T.x_Unready.C (exF ["train"] "Unready" [x]), .x T.x_Finished.C (exF ["train"] "Finished" [x]), .x T.x_Barred.C (exF ["train", "step"] "Barred" [x, y]), .x T.x_NoDay.C (exF [] "NoDay" []), .x T.x_Doomed.C (exF [] "Doomed" []), .x T.x_NeverCleared.C (exF ["train", "step", "element"] "NeverCleared" [x, y, z]), .x T.x_NoPeriod.C (exF [] "NoPeriod" []), .x T.x_TooShort.C (exF ["period"] "TooShort" [x]), .x T.x_UnknownName.C (exF ["name"] "UnknownName" [x]), .x T.x_UnknownEnd.C (exF ["end"] "UnknownEnd" [x]), .x T.x_UnknownEntry.C (exF ["entry"] "UnknownEntry" [x]), .x T.x_NothingLeft.C (exF [] "NothingLeft" [])]
def spBy (T : Txt K mg) : Sp := fun vs H Q _ => ∃ b x y z, vs = [x, y, z] ∧ Bag H b ∧ ∀ v H', Go b H H' → Is b H' (.l (rowsSh T x y z)) v → Q v H' 
theorem ok_law_by_name (T : Txt K mg) : FnOk P w K mg base CX0 3 T.d__law_by_name.f T.d__law_by_name.fd ["_law_first", "_law_second", "_law_third"] (spBy T) := by
  refine T.d__law_by_name.F.ok sc_law_by_name (fun vs H Q E h => ?_) (fun cdv A outer s H vs Q E hr h => ?_)
  · obtain ⟨b, x, y, z, rfl, _⟩ := h
    rfl
  · obtain ⟨b, x, y, z, rfl, hB, q⟩ := h
    refine ⟨_, (pss_cons (ps_set (i := 3) sc_law_by_name.nd rfl (Or.inl rfl) (pe_lst (pa_cons (pe_mkK T.x_InvalidName.T ⟨T.x_InvalidName.iC, T.x_InvalidName.tI, ok_init_InvalidName T⟩ (hr.mono (by decide)) (kb_InvalidName T) pass0 (by rfl) T.x_InvalidName.g (pk_cons (pv 0) pk_nil)) (pa_cons (pe_mkK T.x_InvalidNumber.T ⟨T.x_InvalidNumber.iC, T.x_InvalidNumber.tI, ok_init_InvalidNumber T⟩ (hr.mono (by decide)) (kb_InvalidNumber T) pass0 (by rfl) T.x_InvalidNumber.g (pk_cons (pv 0) pk_nil)) (pa_cons (pe_mkK T.x_InvalidSection.T ⟨T.x_InvalidSection.iC, T.x_InvalidSection.tI, ok_init_InvalidSection T⟩ (hr.mono (by decide)) (kb_InvalidSection T) pass0 (by rfl) T.x_InvalidSection.g (pk_cons (pv 0) pk_nil)) (pa_cons (pe_mkK T.x_InvalidTimes.T ⟨T.x_InvalidTimes.iC, T.x_InvalidTimes.tI, ok_init_InvalidTimes T⟩ (hr.mono (by decide)) (kb_InvalidTimes T) pass0 (by rfl) T.x_InvalidTimes.g (pk_cons (pv 0) pk_nil)) pa_nil))))))
      (pss_cons (ps_set (i := 3) sc_law_by_name.nd rfl (Or.inl rfl) (pe_op op_cat (pv 3) (pe_lst (pa_cons (pe_mkK T.x_InvalidStep.T ⟨T.x_InvalidStep.iC, T.x_InvalidStep.tI, ok_init_InvalidStep T⟩ (hr.mono (by decide)) (kb_InvalidStep T) pass0 (by rfl) T.x_InvalidStep.g (pk_cons (pv 0) pk_nil)) (pa_cons (pe_mkK T.x_InvalidStanding.T ⟨T.x_InvalidStanding.iC, T.x_InvalidStanding.tI, ok_init_InvalidStanding T⟩ (hr.mono (by decide)) (kb_InvalidStanding T) pass0 (by rfl) T.x_InvalidStanding.g (pk_cons (pv 0) pk_nil)) (pa_cons (pe_mkK T.x_InvalidRow.T ⟨T.x_InvalidRow.iC, T.x_InvalidRow.tI, ok_init_InvalidRow T⟩ (hr.mono (by decide)) (kb_InvalidRow T) pass0 (by rfl) T.x_InvalidRow.g (pk_cons (pv 0) pk_nil)) pa_nil))))))
      (pss_cons (ps_set (i := 3) sc_law_by_name.nd rfl (Or.inl rfl) (pe_op op_cat (pv 3) (pe_lst (pa_cons (pe_mkK T.x_InvalidTable.T ⟨T.x_InvalidTable.iC, T.x_InvalidTable.tI, ok_init_InvalidTable T⟩ (hr.mono (by decide)) (kb_InvalidTable T) pass0 (by rfl) T.x_InvalidTable.g (pk_cons (pv 0) pk_nil)) (pa_cons (pe_mkK T.x_InvalidDelays.T ⟨T.x_InvalidDelays.iC, T.x_InvalidDelays.tI, ok_init_InvalidDelays T⟩ (hr.mono (by decide)) (kb_InvalidDelays T) pass0 (by rfl) T.x_InvalidDelays.g (pk_cons (pv 0) pk_nil)) (pa_cons (pe_mkK T.x_InvalidPeriod.T ⟨T.x_InvalidPeriod.iC, T.x_InvalidPeriod.tI, ok_init_InvalidPeriod T⟩ (hr.mono (by decide)) (kb_InvalidPeriod T) pass0 (by rfl) T.x_InvalidPeriod.g (pk_cons (pv 0) pk_nil)) pa_nil))))))
      (pss_cons (ps_set (i := 3) sc_law_by_name.nd rfl (Or.inl rfl) (pe_op op_cat (pv 3) (pe_lst (pa_cons (pe_mkK T.x_InvalidHeights.T ⟨T.x_InvalidHeights.iC, T.x_InvalidHeights.tI, ok_init_InvalidHeights T⟩ (hr.mono (by decide)) (kb_InvalidHeights T) pass0 (by rfl) T.x_InvalidHeights.g (pk_cons (pv 0) pk_nil)) (pa_cons (pe_mkK T.x_InvalidDeed.T ⟨T.x_InvalidDeed.iC, T.x_InvalidDeed.tI, ok_init_InvalidDeed T⟩ (hr.mono (by decide)) (kb_InvalidDeed T) pass0 (by rfl) T.x_InvalidDeed.g (pk_cons (pv 0) pk_nil)) (pa_cons (pe_mkK T.x_InvalidTurn.T ⟨T.x_InvalidTurn.iC, T.x_InvalidTurn.tI, ok_init_InvalidTurn T⟩ (hr.mono (by decide)) (kb_InvalidTurn T) pass0 (by rfl) T.x_InvalidTurn.g (pk_cons (pv 0) pk_nil)) (pa_cons (pe_mkK T.x_InvalidWait.T ⟨T.x_InvalidWait.iC, T.x_InvalidWait.tI, ok_init_InvalidWait T⟩ (hr.mono (by decide)) (kb_InvalidWait T) pass0 (by rfl) T.x_InvalidWait.g (pk_cons (pv 0) pk_nil)) pa_nil)))))))
      (pss_cons (ps_set (i := 3) sc_law_by_name.nd rfl (Or.inl rfl) (pe_op op_cat (pv 3) (pe_lst (pa_cons (pe_mkK T.x_InvalidWish.T ⟨T.x_InvalidWish.iC, T.x_InvalidWish.tI, ok_init_InvalidWish T⟩ (hr.mono (by decide)) (kb_InvalidWish T) pass0 (by rfl) T.x_InvalidWish.g (pk_cons (pv 0) pk_nil)) (pa_cons (pe_mkK T.x_InvalidJourney.T ⟨T.x_InvalidJourney.iC, T.x_InvalidJourney.tI, ok_init_InvalidJourney T⟩ (hr.mono (by decide)) (kb_InvalidJourney T) pass0 (by rfl) T.x_InvalidJourney.g (pk_cons (pv 0) pk_nil)) (pa_cons (pe_mkK T.x_InvalidText.T ⟨T.x_InvalidText.iC, T.x_InvalidText.tI, ok_init_InvalidText T⟩ (hr.mono (by decide)) (kb_InvalidText T) pass0 (by rfl) T.x_InvalidText.g (pk_cons (pv 0) pk_nil)) (pa_cons (pe_mkK T.x_DuplicateName.T ⟨T.x_DuplicateName.iC, T.x_DuplicateName.tI, ok_init_DuplicateName T⟩ (hr.mono (by decide)) (kb_DuplicateName T) pass0 (by rfl) T.x_DuplicateName.g (pk_cons (pv 0) pk_nil)) pa_nil)))))))
      (pss_cons (ps_set (i := 3) sc_law_by_name.nd rfl (Or.inl rfl) (pe_op op_cat (pv 3) (pe_lst (pa_cons (pe_mkK T.x_InUse.T ⟨T.x_InUse.iC, T.x_InUse.tI, ok_init_InUse T⟩ (hr.mono (by decide)) (kb_InUse T) pass0 (by rfl) T.x_InUse.g (pk_cons (pv 0) pk_nil)) (pa_cons (pe_mkK T.x_TakenEnd.T ⟨T.x_TakenEnd.iC, T.x_TakenEnd.tI, ok_init_TakenEnd T⟩ (hr.mono (by decide)) (kb_TakenEnd T) pass0 (by rfl) T.x_TakenEnd.g (pk_cons (pv 0) pk_nil)) (pa_cons (pe_mkK T.x_LooseEnd.T ⟨T.x_LooseEnd.iC, T.x_LooseEnd.tI, ok_init_LooseEnd T⟩ (hr.mono (by decide)) (kb_LooseEnd T) pass0 (by rfl) T.x_LooseEnd.g (pk_cons (pv 0) pk_nil)) (pa_cons (pe_mkK T.x_TooMany.T ⟨T.x_TooMany.iC, T.x_TooMany.tI, ok_init_TooMany T⟩ (hr.mono (by decide)) (kb_TooMany T) pass0 (by rfl) T.x_TooMany.g (pk_cons (pv 1) (pk_cons (pv 0) pk_nil))) pa_nil)))))))
      (pss_cons (ps_set (i := 3) sc_law_by_name.nd rfl (Or.inl rfl) (pe_op op_cat (pv 3) (pe_lst (pa_cons (pe_mkK T.x_MisplacedStep.T ⟨T.x_MisplacedStep.iC, T.x_MisplacedStep.tI, ok_init_MisplacedStep T⟩ (hr.mono (by decide)) (kb_MisplacedStep T) pass0 (by rfl) T.x_MisplacedStep.g (pk_cons (pv 1) (pk_cons (pv 0) pk_nil))) (pa_cons (pe_mkK T.x_OwnRing.T ⟨T.x_OwnRing.iC, T.x_OwnRing.tI, ok_init_OwnRing T⟩ (hr.mono (by decide)) (kb_OwnRing T) pass0 (by rfl) T.x_OwnRing.g (pk_cons (pv 2) (pk_cons (pv 1) (pk_cons (pv 0) pk_nil)))) pa_nil)))))
      (pss_cons (ps_set (i := 3) sc_law_by_name.nd rfl (Or.inl rfl) (pe_op op_cat (pv 3) (pe_lst (pa_cons (pe_mkK T.x_Refused.T ⟨T.x_Refused.iC, T.x_Refused.tI, ok_init_Refused T⟩ (hr.mono (by decide)) (kb_Refused T) pass0 (by rfl) T.x_Refused.g (pk_cons (pv 2) (pk_cons (pv 1) (pk_cons (pv 0) pk_nil)))) (pa_cons (pe_mkK T.x_Lacking.T ⟨T.x_Lacking.iC, T.x_Lacking.tI, ok_init_Lacking T⟩ (hr.mono (by decide)) (kb_Lacking T) pass0 (by rfl) T.x_Lacking.g (pk_cons (pv 1) (pk_cons (pv 0) pk_nil))) pa_nil)))))
      (pss_cons (ps_set (i := 3) sc_law_by_name.nd rfl (Or.inl rfl) (pe_op op_cat (pv 3) (pe_lst (pa_cons (pe_mkK T.x_Unready.T ⟨T.x_Unready.iC, T.x_Unready.tI, ok_init_Unready T⟩ (hr.mono (by decide)) (kb_Unready T) pass0 (by rfl) T.x_Unready.g (pk_cons (pv 0) pk_nil)) (pa_cons (pe_mkK T.x_Finished.T ⟨T.x_Finished.iC, T.x_Finished.tI, ok_init_Finished T⟩ (hr.mono (by decide)) (kb_Finished T) pass0 (by rfl) T.x_Finished.g (pk_cons (pv 0) pk_nil)) (pa_cons (pe_mkK T.x_Barred.T ⟨T.x_Barred.iC, T.x_Barred.tI, ok_init_Barred T⟩ (hr.mono (by decide)) (kb_Barred T) pass0 (by rfl) T.x_Barred.g (pk_cons (pv 1) (pk_cons (pv 0) pk_nil))) (pa_cons (pe_mkV0 T.x_NoDay.T ⟨T.x_NoDay.iC, T.x_NoDay.tI, ok_init_NoDay T⟩ (hr.mono (by decide)) T.x_NoDay.b pass0 (by rfl) T.x_NoDay.g) (pa_cons (pe_mkV0 T.x_Doomed.T ⟨T.x_Doomed.iC, T.x_Doomed.tI, ok_init_Doomed T⟩ (hr.mono (by decide)) T.x_Doomed.b pass0 (by rfl) T.x_Doomed.g) pa_nil))))))))
      (pss_cons (ps_set (i := 3) sc_law_by_name.nd rfl (Or.inl rfl) (pe_op op_cat (pv 3) (pe_lst (pa_cons (pe_mkK T.x_NeverCleared.T ⟨T.x_NeverCleared.iC, T.x_NeverCleared.tI, ok_init_NeverCleared T⟩ (hr.mono (by decide)) (kb_NeverCleared T) pass0 (by rfl) T.x_NeverCleared.g (pk_cons (pv 2) (pk_cons (pv 1) (pk_cons (pv 0) pk_nil)))) (pa_cons (pe_mkV0 T.x_NoPeriod.T ⟨T.x_NoPeriod.iC, T.x_NoPeriod.tI, ok_init_NoPeriod T⟩ (hr.mono (by decide)) T.x_NoPeriod.b pass0 (by rfl) T.x_NoPeriod.g) (pa_cons (pe_mkK T.x_TooShort.T ⟨T.x_TooShort.iC, T.x_TooShort.tI, ok_init_TooShort T⟩ (hr.mono (by decide)) (kb_TooShort T) pass0 (by rfl) T.x_TooShort.g (pk_cons (pv 0) pk_nil)) pa_nil))))))
      (pss_one (ps_ret (pe_op op_cat (pv 3) (pe_lst (pa_cons (pe_mkK T.x_UnknownName.T ⟨T.x_UnknownName.iC, T.x_UnknownName.tI, ok_init_UnknownName T⟩ (hr.mono (by decide)) (kb_UnknownName T) pass0 (by rfl) T.x_UnknownName.g (pk_cons (pv 0) pk_nil)) (pa_cons (pe_mkK T.x_UnknownEnd.T ⟨T.x_UnknownEnd.iC, T.x_UnknownEnd.tI, ok_init_UnknownEnd T⟩ (hr.mono (by decide)) (kb_UnknownEnd T) pass0 (by rfl) T.x_UnknownEnd.g (pk_cons (pv 0) pk_nil)) (pa_cons (pe_mkK T.x_UnknownEntry.T ⟨T.x_UnknownEntry.iC, T.x_UnknownEntry.tI, ok_init_UnknownEntry T⟩ (hr.mono (by decide)) (kb_UnknownEntry T) pass0 (by rfl) T.x_UnknownEntry.g (pk_cons (pv 0) pk_nil)) (pa_cons (pe_mkV0 T.x_NothingLeft.T ⟨T.x_NothingLeft.iC, T.x_NothingLeft.tI, ok_init_NothingLeft T⟩ (hr.mono (by decide)) T.x_NothingLeft.b pass0 (by rfl) T.x_NothingLeft.g) pa_nil)))))))))))))))))), ?_⟩
    refine q_set (b := b) hB (by walk_at "ev") fun v1 H1 g1 i1 => ?_
    refine q_set (b := b) g1.1 (by walk_at "ev") fun v2 H2 g2 i2 => ?_
    refine q_set (b := b) g2.1 (by walk_at "ev") fun v3 H3 g3 i3 => ?_
    refine q_set (b := b) g3.1 (by walk_at "ev") fun v4 H4 g4 i4 => ?_
    refine q_set (b := b) g4.1 (by walk_at "ev") fun v5 H5 g5 i5 => ?_
    refine q_set (b := b) g5.1 (by walk_at "ev") fun v6 H6 g6 i6 => ?_
    refine q_set (b := b) g6.1 (by walk_at "ev") fun v7 H7 g7 i7 => ?_
    refine q_set (b := b) g7.1 (by walk_at "ev") fun v8 H8 g8 i8 => ?_
    refine q_set (b := b) g8.1 (by walk_at "ev") fun v9 H9 g9 i9 => ?_
    refine q_set (b := b) g9.1 (by walk_at "ev") fun v10 H10 g10 i10 => ?_
    refine q_ret (b := b) g10.1 (by walk_at "ev") fun v H' g i => ?_
    exact q v H' ((((((((((g1.trans g2).trans g3).trans g4).trans g5).trans g6).trans g7).trans g8).trans g9).trans g10).trans g) i
theorem ok_law_by_place (T : Txt K mg) : FnOk P w K mg base CX0 3 T.d__law_by_place.f T.d__law_by_place.fd ["_law_first", "_law_second", "_law_third"] (spBy T) := by
  refine T.d__law_by_place.F.ok sc_law_by_place (fun vs H Q E h => ?_) (fun cdv A outer s H vs Q E hr h => ?_)
  · obtain ⟨b, x, y, z, rfl, _⟩ := h
    rfl
  · obtain ⟨b, x, y, z, rfl, hB, q⟩ := h
    refine ⟨_, (pss_cons (ps_set (i := 3) sc_law_by_place.nd rfl (Or.inl rfl) (pe_lst (pa_cons (pe_mkV T.x_InvalidName.T ⟨T.x_InvalidName.iC, T.x_InvalidName.tI, ok_init_InvalidName T⟩ (hr.mono (by decide)) T.x_InvalidName.b pass0 (by rfl) T.x_InvalidName.g (pa_cons (pv 0) pa_nil)) (pa_cons (pe_mkV T.x_InvalidNumber.T ⟨T.x_InvalidNumber.iC, T.x_InvalidNumber.tI, ok_init_InvalidNumber T⟩ (hr.mono (by decide)) T.x_InvalidNumber.b pass0 (by rfl) T.x_InvalidNumber.g (pa_cons (pv 0) pa_nil)) (pa_cons (pe_mkV T.x_InvalidSection.T ⟨T.x_InvalidSection.iC, T.x_InvalidSection.tI, ok_init_InvalidSection T⟩ (hr.mono (by decide)) T.x_InvalidSection.b pass0 (by rfl) T.x_InvalidSection.g (pa_cons (pv 0) pa_nil)) (pa_cons (pe_mkV T.x_InvalidTimes.T ⟨T.x_InvalidTimes.iC, T.x_InvalidTimes.tI, ok_init_InvalidTimes T⟩ (hr.mono (by decide)) T.x_InvalidTimes.b pass0 (by rfl) T.x_InvalidTimes.g (pa_cons (pv 0) pa_nil)) (pa_cons (pe_mkV T.x_InvalidStep.T ⟨T.x_InvalidStep.iC, T.x_InvalidStep.tI, ok_init_InvalidStep T⟩ (hr.mono (by decide)) T.x_InvalidStep.b pass0 (by rfl) T.x_InvalidStep.g (pa_cons (pv 0) pa_nil)) pa_nil)))))))
      (pss_cons (ps_set (i := 3) sc_law_by_place.nd rfl (Or.inl rfl) (pe_op op_cat (pv 3) (pe_lst (pa_cons (pe_mkV T.x_InvalidStanding.T ⟨T.x_InvalidStanding.iC, T.x_InvalidStanding.tI, ok_init_InvalidStanding T⟩ (hr.mono (by decide)) T.x_InvalidStanding.b pass0 (by rfl) T.x_InvalidStanding.g (pa_cons (pv 0) pa_nil)) (pa_cons (pe_mkV T.x_InvalidRow.T ⟨T.x_InvalidRow.iC, T.x_InvalidRow.tI, ok_init_InvalidRow T⟩ (hr.mono (by decide)) T.x_InvalidRow.b pass0 (by rfl) T.x_InvalidRow.g (pa_cons (pv 0) pa_nil)) (pa_cons (pe_mkV T.x_InvalidTable.T ⟨T.x_InvalidTable.iC, T.x_InvalidTable.tI, ok_init_InvalidTable T⟩ (hr.mono (by decide)) T.x_InvalidTable.b pass0 (by rfl) T.x_InvalidTable.g (pa_cons (pv 0) pa_nil)) (pa_cons (pe_mkV T.x_InvalidDelays.T ⟨T.x_InvalidDelays.iC, T.x_InvalidDelays.tI, ok_init_InvalidDelays T⟩ (hr.mono (by decide)) T.x_InvalidDelays.b pass0 (by rfl) T.x_InvalidDelays.g (pa_cons (pv 0) pa_nil)) pa_nil)))))))
      (pss_cons (ps_set (i := 3) sc_law_by_place.nd rfl (Or.inl rfl) (pe_op op_cat (pv 3) (pe_lst (pa_cons (pe_mkV T.x_InvalidPeriod.T ⟨T.x_InvalidPeriod.iC, T.x_InvalidPeriod.tI, ok_init_InvalidPeriod T⟩ (hr.mono (by decide)) T.x_InvalidPeriod.b pass0 (by rfl) T.x_InvalidPeriod.g (pa_cons (pv 0) pa_nil)) (pa_cons (pe_mkV T.x_InvalidHeights.T ⟨T.x_InvalidHeights.iC, T.x_InvalidHeights.tI, ok_init_InvalidHeights T⟩ (hr.mono (by decide)) T.x_InvalidHeights.b pass0 (by rfl) T.x_InvalidHeights.g (pa_cons (pv 0) pa_nil)) (pa_cons (pe_mkV T.x_InvalidDeed.T ⟨T.x_InvalidDeed.iC, T.x_InvalidDeed.tI, ok_init_InvalidDeed T⟩ (hr.mono (by decide)) T.x_InvalidDeed.b pass0 (by rfl) T.x_InvalidDeed.g (pa_cons (pv 0) pa_nil)) (pa_cons (pe_mkV T.x_InvalidTurn.T ⟨T.x_InvalidTurn.iC, T.x_InvalidTurn.tI, ok_init_InvalidTurn T⟩ (hr.mono (by decide)) T.x_InvalidTurn.b pass0 (by rfl) T.x_InvalidTurn.g (pa_cons (pv 0) pa_nil)) (pa_cons (pe_mkV T.x_InvalidWait.T ⟨T.x_InvalidWait.iC, T.x_InvalidWait.tI, ok_init_InvalidWait T⟩ (hr.mono (by decide)) T.x_InvalidWait.b pass0 (by rfl) T.x_InvalidWait.g (pa_cons (pv 0) pa_nil)) pa_nil))))))))
      (pss_cons (ps_set (i := 3) sc_law_by_place.nd rfl (Or.inl rfl) (pe_op op_cat (pv 3) (pe_lst (pa_cons (pe_mkV T.x_InvalidWish.T ⟨T.x_InvalidWish.iC, T.x_InvalidWish.tI, ok_init_InvalidWish T⟩ (hr.mono (by decide)) T.x_InvalidWish.b pass0 (by rfl) T.x_InvalidWish.g (pa_cons (pv 0) pa_nil)) (pa_cons (pe_mkV T.x_InvalidJourney.T ⟨T.x_InvalidJourney.iC, T.x_InvalidJourney.tI, ok_init_InvalidJourney T⟩ (hr.mono (by decide)) T.x_InvalidJourney.b pass0 (by rfl) T.x_InvalidJourney.g (pa_cons (pv 0) pa_nil)) (pa_cons (pe_mkV T.x_InvalidText.T ⟨T.x_InvalidText.iC, T.x_InvalidText.tI, ok_init_InvalidText T⟩ (hr.mono (by decide)) T.x_InvalidText.b pass0 (by rfl) T.x_InvalidText.g (pa_cons (pv 0) pa_nil)) (pa_cons (pe_mkV T.x_DuplicateName.T ⟨T.x_DuplicateName.iC, T.x_DuplicateName.tI, ok_init_DuplicateName T⟩ (hr.mono (by decide)) T.x_DuplicateName.b pass0 (by rfl) T.x_DuplicateName.g (pa_cons (pv 0) pa_nil)) (pa_cons (pe_mkV T.x_InUse.T ⟨T.x_InUse.iC, T.x_InUse.tI, ok_init_InUse T⟩ (hr.mono (by decide)) T.x_InUse.b pass0 (by rfl) T.x_InUse.g (pa_cons (pv 0) pa_nil)) pa_nil))))))))
      (pss_cons (ps_set (i := 3) sc_law_by_place.nd rfl (Or.inl rfl) (pe_op op_cat (pv 3) (pe_lst (pa_cons (pe_mkV T.x_TakenEnd.T ⟨T.x_TakenEnd.iC, T.x_TakenEnd.tI, ok_init_TakenEnd T⟩ (hr.mono (by decide)) T.x_TakenEnd.b pass0 (by rfl) T.x_TakenEnd.g (pa_cons (pv 0) pa_nil)) (pa_cons (pe_mkV T.x_LooseEnd.T ⟨T.x_LooseEnd.iC, T.x_LooseEnd.tI, ok_init_LooseEnd T⟩ (hr.mono (by decide)) T.x_LooseEnd.b pass0 (by rfl) T.x_LooseEnd.g (pa_cons (pv 0) pa_nil)) (pa_cons (pe_mkV T.x_TooMany.T ⟨T.x_TooMany.iC, T.x_TooMany.tI, ok_init_TooMany T⟩ (hr.mono (by decide)) T.x_TooMany.b pass0 (by rfl) T.x_TooMany.g (pa_cons (pv 0) (pa_cons (pv 1) pa_nil))) (pa_cons (pe_mkV T.x_MisplacedStep.T ⟨T.x_MisplacedStep.iC, T.x_MisplacedStep.tI, ok_init_MisplacedStep T⟩ (hr.mono (by decide)) T.x_MisplacedStep.b pass0 (by rfl) T.x_MisplacedStep.g (pa_cons (pv 0) (pa_cons (pv 1) pa_nil))) pa_nil)))))))
      (pss_cons (ps_set (i := 3) sc_law_by_place.nd rfl (Or.inl rfl) (pe_op op_cat (pv 3) (pe_lst (pa_cons (pe_mkV T.x_OwnRing.T ⟨T.x_OwnRing.iC, T.x_OwnRing.tI, ok_init_OwnRing T⟩ (hr.mono (by decide)) T.x_OwnRing.b pass0 (by rfl) T.x_OwnRing.g (pa_cons (pv 0) (pa_cons (pv 1) (pa_cons (pv 2) pa_nil)))) (pa_cons (pe_mkV T.x_Refused.T ⟨T.x_Refused.iC, T.x_Refused.tI, ok_init_Refused T⟩ (hr.mono (by decide)) T.x_Refused.b pass0 (by rfl) T.x_Refused.g (pa_cons (pv 0) (pa_cons (pv 1) (pa_cons (pv 2) pa_nil)))) (pa_cons (pe_mkV T.x_Lacking.T ⟨T.x_Lacking.iC, T.x_Lacking.tI, ok_init_Lacking T⟩ (hr.mono (by decide)) T.x_Lacking.b pass0 (by rfl) T.x_Lacking.g (pa_cons (pv 0) (pa_cons (pv 1) pa_nil))) (pa_cons (pe_mkV T.x_Unready.T ⟨T.x_Unready.iC, T.x_Unready.tI, ok_init_Unready T⟩ (hr.mono (by decide)) T.x_Unready.b pass0 (by rfl) T.x_Unready.g (pa_cons (pv 0) pa_nil)) pa_nil)))))))
      (pss_cons (ps_set (i := 3) sc_law_by_place.nd rfl (Or.inl rfl) (pe_op op_cat (pv 3) (pe_lst (pa_cons (pe_mkV T.x_Finished.T ⟨T.x_Finished.iC, T.x_Finished.tI, ok_init_Finished T⟩ (hr.mono (by decide)) T.x_Finished.b pass0 (by rfl) T.x_Finished.g (pa_cons (pv 0) pa_nil)) (pa_cons (pe_mkV T.x_Barred.T ⟨T.x_Barred.iC, T.x_Barred.tI, ok_init_Barred T⟩ (hr.mono (by decide)) T.x_Barred.b pass0 (by rfl) T.x_Barred.g (pa_cons (pv 0) (pa_cons (pv 1) pa_nil))) (pa_cons (pe_mkV0 T.x_NoDay.T ⟨T.x_NoDay.iC, T.x_NoDay.tI, ok_init_NoDay T⟩ (hr.mono (by decide)) T.x_NoDay.b pass0 (by rfl) T.x_NoDay.g) (pa_cons (pe_mkV0 T.x_Doomed.T ⟨T.x_Doomed.iC, T.x_Doomed.tI, ok_init_Doomed T⟩ (hr.mono (by decide)) T.x_Doomed.b pass0 (by rfl) T.x_Doomed.g) (pa_cons (pe_mkV T.x_NeverCleared.T ⟨T.x_NeverCleared.iC, T.x_NeverCleared.tI, ok_init_NeverCleared T⟩ (hr.mono (by decide)) T.x_NeverCleared.b pass0 (by rfl) T.x_NeverCleared.g (pa_cons (pv 0) (pa_cons (pv 1) (pa_cons (pv 2) pa_nil)))) pa_nil))))))))
      (pss_one (ps_ret (pe_op op_cat (pv 3) (pe_lst (pa_cons (pe_mkV0 T.x_NoPeriod.T ⟨T.x_NoPeriod.iC, T.x_NoPeriod.tI, ok_init_NoPeriod T⟩ (hr.mono (by decide)) T.x_NoPeriod.b pass0 (by rfl) T.x_NoPeriod.g) (pa_cons (pe_mkV T.x_TooShort.T ⟨T.x_TooShort.iC, T.x_TooShort.tI, ok_init_TooShort T⟩ (hr.mono (by decide)) T.x_TooShort.b pass0 (by rfl) T.x_TooShort.g (pa_cons (pv 0) pa_nil)) (pa_cons (pe_mkV T.x_UnknownName.T ⟨T.x_UnknownName.iC, T.x_UnknownName.tI, ok_init_UnknownName T⟩ (hr.mono (by decide)) T.x_UnknownName.b pass0 (by rfl) T.x_UnknownName.g (pa_cons (pv 0) pa_nil)) (pa_cons (pe_mkV T.x_UnknownEnd.T ⟨T.x_UnknownEnd.iC, T.x_UnknownEnd.tI, ok_init_UnknownEnd T⟩ (hr.mono (by decide)) T.x_UnknownEnd.b pass0 (by rfl) T.x_UnknownEnd.g (pa_cons (pv 0) pa_nil)) (pa_cons (pe_mkV T.x_UnknownEntry.T ⟨T.x_UnknownEntry.iC, T.x_UnknownEntry.tI, ok_init_UnknownEntry T⟩ (hr.mono (by decide)) T.x_UnknownEntry.b pass0 (by rfl) T.x_UnknownEntry.g (pa_cons (pv 0) pa_nil)) (pa_cons (pe_mkV0 T.x_NothingLeft.T ⟨T.x_NothingLeft.iC, T.x_NothingLeft.tI, ok_init_NothingLeft T⟩ (hr.mono (by decide)) T.x_NothingLeft.b pass0 (by rfl) T.x_NothingLeft.g) pa_nil))))))))))))))))), ?_⟩
    refine q_set (b := b) hB (by walk_at "ev") fun v1 H1 g1 i1 => ?_
    refine q_set (b := b) g1.1 (by walk_at "ev") fun v2 H2 g2 i2 => ?_
    refine q_set (b := b) g2.1 (by walk_at "ev") fun v3 H3 g3 i3 => ?_
    refine q_set (b := b) g3.1 (by walk_at "ev") fun v4 H4 g4 i4 => ?_
    refine q_set (b := b) g4.1 (by walk_at "ev") fun v5 H5 g5 i5 => ?_
    refine q_set (b := b) g5.1 (by walk_at "ev") fun v6 H6 g6 i6 => ?_
    refine q_set (b := b) g6.1 (by walk_at "ev") fun v7 H7 g7 i7 => ?_
    refine q_ret (b := b) g7.1 (by walk_at "ev") fun v H' g i => ?_
    exact q v H' (((((((g1.trans g2).trans g3).trans g4).trans g5).trans g6).trans g7).trans g) i
def codesSh : List Sh := [.c (.str "InvalidName"), .c (.str "InvalidNumber"), .c (.str "InvalidSection"), .c (.str "InvalidTimes"), .c (.str "InvalidStep"), .c (.str "InvalidStanding"), .c (.str "InvalidRow"), .c (.str "InvalidTable"), .c (.str "InvalidDelays"), .c (.str "InvalidPeriod"), .c (.str "InvalidHeights"), .c (.str "InvalidDeed"), .c (.str "InvalidTurn"), .c (.str "InvalidWait"), .c (.str "InvalidWish"), .c (.str "InvalidJourney"), .c (.str "InvalidText"), .c (.str "DuplicateName"), .c (.str "InUse"), .c (.str "TakenEnd"), .c (.str "LooseEnd"), .c (.str "TooMany"), .c (.str "MisplacedStep"), .c (.str "OwnRing"), .c (.str "Refused"), .c (.str "Lacking"), .c (.str "Unready"), .c (.str "Finished"), .c (.str "Barred"), .c (.str "NoDay"), .c (.str "Doomed"), .c (.str "NeverCleared"), .c (.str "NoPeriod"), .c (.str "TooShort"), .c (.str "UnknownName"), .c (.str "UnknownEnd"), .c (.str "UnknownEntry"), .c (.str "NothingLeft")]
def spCodes : Sp := fun vs H Q _ => ∃ b, vs = [] ∧ Bag H b ∧ ∀ v H', Go b H H' → Is b H' (.l codesSh) v → Q v H' 
theorem ok_law_codes (T : Txt K mg) : FnOk P w K mg base CX0 1 T.d__law_codes.f T.d__law_codes.fd [] spCodes := by
  refine T.d__law_codes.F.ok sc_law_codes (fun vs H Q E h => ?_) (fun cdv A outer s H vs Q E hr h => ?_)
  · obtain ⟨b, rfl, _⟩ := h
    rfl
  · obtain ⟨b, rfl, hB, q⟩ := h
    refine ⟨_, (pss_cons (ps_set (i := 0) sc_law_codes.nd rfl (Or.inl rfl) (pe_lst (pa_cons pe_str (pa_cons pe_str (pa_cons pe_str (pa_cons pe_str (pa_cons pe_str (pa_cons pe_str pa_nil))))))))
      (pss_cons (ps_set (i := 0) sc_law_codes.nd rfl (Or.inl rfl) (pe_op op_cat (pv 0) (pe_lst (pa_cons pe_str (pa_cons pe_str (pa_cons pe_str (pa_cons pe_str (pa_cons pe_str (pa_cons pe_str pa_nil)))))))))
      (pss_cons (ps_set (i := 0) sc_law_codes.nd rfl (Or.inl rfl) (pe_op op_cat (pv 0) (pe_lst (pa_cons pe_str (pa_cons pe_str (pa_cons pe_str (pa_cons pe_str (pa_cons pe_str (pa_cons pe_str (pa_cons pe_str pa_nil))))))))))
      (pss_cons (ps_set (i := 0) sc_law_codes.nd rfl (Or.inl rfl) (pe_op op_cat (pv 0) (pe_lst (pa_cons pe_str (pa_cons pe_str (pa_cons pe_str (pa_cons pe_str (pa_cons pe_str (pa_cons pe_str (pa_cons pe_str (pa_cons pe_str pa_nil)))))))))))
      (pss_cons (ps_set (i := 0) sc_law_codes.nd rfl (Or.inl rfl) (pe_op op_cat (pv 0) (pe_lst (pa_cons pe_str (pa_cons pe_str (pa_cons pe_str (pa_cons pe_str (pa_cons pe_str (pa_cons pe_str (pa_cons pe_str (pa_cons pe_str pa_nil)))))))))))
      (pss_one (ps_ret (pe_op op_cat (pv 0) (pe_lst (pa_cons pe_str (pa_cons pe_str (pa_cons pe_str pa_nil)))))))))))), ?_⟩
    refine q_set (b := b) hB (by walk_at "ev") fun v1 H1 g1 i1 => ?_
    refine q_set (b := b) g1.1 (by walk_at "ev") fun v2 H2 g2 i2 => ?_
    refine q_set (b := b) g2.1 (by walk_at "ev") fun v3 H3 g3 i3 => ?_
    refine q_set (b := b) g3.1 (by walk_at "ev") fun v4 H4 g4 i4 => ?_
    refine q_set (b := b) g4.1 (by walk_at "ev") fun v5 H5 g5 i5 => ?_
    refine q_ret (b := b) g5.1 (by walk_at "ev") fun v H' g i => ?_
    exact q v H' (((((g1.trans g2).trans g3).trans g4).trans g5).trans g) i
def clsSh (k : Nat) : List Sh := [.c (.bl (decide (0 = k))), .c (.bl (decide (1 = k))), .c (.bl (decide (2 = k))), .c (.bl (decide (3 = k))), .c (.bl (decide (4 = k))), .c (.bl (decide (5 = k))), .c (.bl (decide (6 = k))), .c (.bl (decide (7 = k))), .c (.bl (decide (8 = k))), .c (.bl (decide (9 = k))), .c (.bl (decide (10 = k))), .c (.bl (decide (11 = k))), .c (.bl (decide (12 = k))), .c (.bl (decide (13 = k))), .c (.bl (decide (14 = k))), .c (.bl (decide (15 = k))), .c (.bl (decide (16 = k))), .c (.bl (decide (17 = k))), .c (.bl (decide (18 = k))), .c (.bl (decide (19 = k))), .c (.bl (decide (20 = k))), .c (.bl (decide (21 = k))), .c (.bl (decide (22 = k))), .c (.bl (decide (23 = k))), .c (.bl (decide (24 = k))), .c (.bl (decide (25 = k))), .c (.bl (decide (26 = k))), .c (.bl (decide (27 = k))), .c (.bl (decide (28 = k))), .c (.bl (decide (29 = k))), .c (.bl (decide (30 = k))), .c (.bl (decide (31 = k))), .c (.bl (decide (32 = k))), .c (.bl (decide (33 = k))), .c (.bl (decide (34 = k))), .c (.bl (decide (35 = k))), .c (.bl (decide (36 = k))), .c (.bl (decide (37 = k)))]
def spClasses (T : Txt K mg) : Sp := fun vs H Q _ => ∃ b C fs k v, vs = [v] ∧ Bag H b ∧ Is b H (.x C fs) v ∧ XF K C ∧ (∀ (j : Nat) (c : Addr), T.cs[j]? = some c → PySem.W.kitOne K (.ref C) (.ref c) = some (decide (j = k))) ∧ ∀ v H', Go b H H' → Is b H' (.l (clsSh k)) v → Q v H' 
theorem ok_law_classes (T : Txt K mg) : FnOk P w K mg base CX0 1 T.d__law_classes.f T.d__law_classes.fd ["_law_e"] (spClasses T) := by
  refine T.d__law_classes.F.ok sc_law_classes (fun vs H Q E h => ?_) (fun cdv A outer s H vs Q E hr h => ?_)
  · obtain ⟨b, C, fs, k, v, rfl, _⟩ := h
    rfl
  · obtain ⟨b, C, fs, k, v, rfl, hB, hX, hF, hk, q⟩ := h
    have k0 : PySem.W.kitOne K (.ref C) (.ref T.x_InvalidName.C) = some (decide (0 = k)) := hk 0 _ rfl
    have k1 : PySem.W.kitOne K (.ref C) (.ref T.x_InvalidNumber.C) = some (decide (1 = k)) := hk 1 _ rfl
    have k2 : PySem.W.kitOne K (.ref C) (.ref T.x_InvalidSection.C) = some (decide (2 = k)) := hk 2 _ rfl
    have k3 : PySem.W.kitOne K (.ref C) (.ref T.x_InvalidTimes.C) = some (decide (3 = k)) := hk 3 _ rfl
    have k4 : PySem.W.kitOne K (.ref C) (.ref T.x_InvalidStep.C) = some (decide (4 = k)) := hk 4 _ rfl
    have k5 : PySem.W.kitOne K (.ref C) (.ref T.x_InvalidStanding.C) = some (decide (5 = k)) := hk 5 _ rfl
    have k6 : PySem.W.kitOne K (.ref C) (.ref T.x_InvalidRow.C) = some (decide (6 = k)) := hk 6 _ rfl
    have k7 : PySem.W.kitOne K (.ref C) (.ref T.x_InvalidTable.C) = some (decide (7 = k)) := hk 7 _ rfl
    have k8 : PySem.W.kitOne K (.ref C) (.ref T.x_InvalidDelays.C) = some (decide (8 = k)) := hk 8 _ rfl
    have k9 : PySem.W.kitOne K (.ref C) (.ref T.x_InvalidPeriod.C) = some (decide (9 = k)) := hk 9 _ rfl
    have k10 : PySem.W.kitOne K (.ref C) (.ref T.x_InvalidHeights.C) = some (decide (10 = k)) := hk 10 _ rfl
    have k11 : PySem.W.kitOne K (.ref C) (.ref T.x_InvalidDeed.C) = some (decide (11 = k)) := hk 11 _ rfl
    have k12 : PySem.W.kitOne K (.ref C) (.ref T.x_InvalidTurn.C) = some (decide (12 = k)) := hk 12 _ rfl
    have k13 : PySem.W.kitOne K (.ref C) (.ref T.x_InvalidWait.C) = some (decide (13 = k)) := hk 13 _ rfl
    have k14 : PySem.W.kitOne K (.ref C) (.ref T.x_InvalidWish.C) = some (decide (14 = k)) := hk 14 _ rfl
    have k15 : PySem.W.kitOne K (.ref C) (.ref T.x_InvalidJourney.C) = some (decide (15 = k)) := hk 15 _ rfl
    have k16 : PySem.W.kitOne K (.ref C) (.ref T.x_InvalidText.C) = some (decide (16 = k)) := hk 16 _ rfl
    have k17 : PySem.W.kitOne K (.ref C) (.ref T.x_DuplicateName.C) = some (decide (17 = k)) := hk 17 _ rfl
    have k18 : PySem.W.kitOne K (.ref C) (.ref T.x_InUse.C) = some (decide (18 = k)) := hk 18 _ rfl
    have k19 : PySem.W.kitOne K (.ref C) (.ref T.x_TakenEnd.C) = some (decide (19 = k)) := hk 19 _ rfl
    have k20 : PySem.W.kitOne K (.ref C) (.ref T.x_LooseEnd.C) = some (decide (20 = k)) := hk 20 _ rfl
    have k21 : PySem.W.kitOne K (.ref C) (.ref T.x_TooMany.C) = some (decide (21 = k)) := hk 21 _ rfl
    have k22 : PySem.W.kitOne K (.ref C) (.ref T.x_MisplacedStep.C) = some (decide (22 = k)) := hk 22 _ rfl
    have k23 : PySem.W.kitOne K (.ref C) (.ref T.x_OwnRing.C) = some (decide (23 = k)) := hk 23 _ rfl
    have k24 : PySem.W.kitOne K (.ref C) (.ref T.x_Refused.C) = some (decide (24 = k)) := hk 24 _ rfl
    have k25 : PySem.W.kitOne K (.ref C) (.ref T.x_Lacking.C) = some (decide (25 = k)) := hk 25 _ rfl
    have k26 : PySem.W.kitOne K (.ref C) (.ref T.x_Unready.C) = some (decide (26 = k)) := hk 26 _ rfl
    have k27 : PySem.W.kitOne K (.ref C) (.ref T.x_Finished.C) = some (decide (27 = k)) := hk 27 _ rfl
    have k28 : PySem.W.kitOne K (.ref C) (.ref T.x_Barred.C) = some (decide (28 = k)) := hk 28 _ rfl
    have k29 : PySem.W.kitOne K (.ref C) (.ref T.x_NoDay.C) = some (decide (29 = k)) := hk 29 _ rfl
    have k30 : PySem.W.kitOne K (.ref C) (.ref T.x_Doomed.C) = some (decide (30 = k)) := hk 30 _ rfl
    have k31 : PySem.W.kitOne K (.ref C) (.ref T.x_NeverCleared.C) = some (decide (31 = k)) := hk 31 _ rfl
    have k32 : PySem.W.kitOne K (.ref C) (.ref T.x_NoPeriod.C) = some (decide (32 = k)) := hk 32 _ rfl
    have k33 : PySem.W.kitOne K (.ref C) (.ref T.x_TooShort.C) = some (decide (33 = k)) := hk 33 _ rfl
    have k34 : PySem.W.kitOne K (.ref C) (.ref T.x_UnknownName.C) = some (decide (34 = k)) := hk 34 _ rfl
    have k35 : PySem.W.kitOne K (.ref C) (.ref T.x_UnknownEnd.C) = some (decide (35 = k)) := hk 35 _ rfl
    have k36 : PySem.W.kitOne K (.ref C) (.ref T.x_UnknownEntry.C) = some (decide (36 = k)) := hk 36 _ rfl
    have k37 : PySem.W.kitOne K (.ref C) (.ref T.x_NothingLeft.C) = some (decide (37 = k)) := hk 37 _ rfl
    refine ⟨_, (pss_cons (ps_set (i := 1) sc_law_classes.nd rfl (Or.inl rfl) (pe_lst (pa_cons (pe_callB call_isX (by rfl) T.z_isinstance (by decide +kernel) (pa_cons (pv 0) (pa_cons (pe_glob (v := .ref T.x_InvalidName.C) rfl T.x_InvalidName.g rfl) pa_nil))) (pa_cons (pe_callB call_isX (by rfl) T.z_isinstance (by decide +kernel) (pa_cons (pv 0) (pa_cons (pe_glob (v := .ref T.x_InvalidNumber.C) rfl T.x_InvalidNumber.g rfl) pa_nil))) (pa_cons (pe_callB call_isX (by rfl) T.z_isinstance (by decide +kernel) (pa_cons (pv 0) (pa_cons (pe_glob (v := .ref T.x_InvalidSection.C) rfl T.x_InvalidSection.g rfl) pa_nil))) pa_nil)))))
      (pss_cons (ps_set (i := 1) sc_law_classes.nd rfl (Or.inl rfl) (pe_op op_cat (pv 1) (pe_lst (pa_cons (pe_callB call_isX (by rfl) T.z_isinstance (by decide +kernel) (pa_cons (pv 0) (pa_cons (pe_glob (v := .ref T.x_InvalidTimes.C) rfl T.x_InvalidTimes.g rfl) pa_nil))) (pa_cons (pe_callB call_isX (by rfl) T.z_isinstance (by decide +kernel) (pa_cons (pv 0) (pa_cons (pe_glob (v := .ref T.x_InvalidStep.C) rfl T.x_InvalidStep.g rfl) pa_nil))) (pa_cons (pe_callB call_isX (by rfl) T.z_isinstance (by decide +kernel) (pa_cons (pv 0) (pa_cons (pe_glob (v := .ref T.x_InvalidStanding.C) rfl T.x_InvalidStanding.g rfl) pa_nil))) pa_nil))))))
      (pss_cons (ps_set (i := 1) sc_law_classes.nd rfl (Or.inl rfl) (pe_op op_cat (pv 1) (pe_lst (pa_cons (pe_callB call_isX (by rfl) T.z_isinstance (by decide +kernel) (pa_cons (pv 0) (pa_cons (pe_glob (v := .ref T.x_InvalidRow.C) rfl T.x_InvalidRow.g rfl) pa_nil))) (pa_cons (pe_callB call_isX (by rfl) T.z_isinstance (by decide +kernel) (pa_cons (pv 0) (pa_cons (pe_glob (v := .ref T.x_InvalidTable.C) rfl T.x_InvalidTable.g rfl) pa_nil))) (pa_cons (pe_callB call_isX (by rfl) T.z_isinstance (by decide +kernel) (pa_cons (pv 0) (pa_cons (pe_glob (v := .ref T.x_InvalidDelays.C) rfl T.x_InvalidDelays.g rfl) pa_nil))) pa_nil))))))
      (pss_cons (ps_set (i := 1) sc_law_classes.nd rfl (Or.inl rfl) (pe_op op_cat (pv 1) (pe_lst (pa_cons (pe_callB call_isX (by rfl) T.z_isinstance (by decide +kernel) (pa_cons (pv 0) (pa_cons (pe_glob (v := .ref T.x_InvalidPeriod.C) rfl T.x_InvalidPeriod.g rfl) pa_nil))) (pa_cons (pe_callB call_isX (by rfl) T.z_isinstance (by decide +kernel) (pa_cons (pv 0) (pa_cons (pe_glob (v := .ref T.x_InvalidHeights.C) rfl T.x_InvalidHeights.g rfl) pa_nil))) (pa_cons (pe_callB call_isX (by rfl) T.z_isinstance (by decide +kernel) (pa_cons (pv 0) (pa_cons (pe_glob (v := .ref T.x_InvalidDeed.C) rfl T.x_InvalidDeed.g rfl) pa_nil))) pa_nil))))))
      (pss_cons (ps_set (i := 1) sc_law_classes.nd rfl (Or.inl rfl) (pe_op op_cat (pv 1) (pe_lst (pa_cons (pe_callB call_isX (by rfl) T.z_isinstance (by decide +kernel) (pa_cons (pv 0) (pa_cons (pe_glob (v := .ref T.x_InvalidTurn.C) rfl T.x_InvalidTurn.g rfl) pa_nil))) (pa_cons (pe_callB call_isX (by rfl) T.z_isinstance (by decide +kernel) (pa_cons (pv 0) (pa_cons (pe_glob (v := .ref T.x_InvalidWait.C) rfl T.x_InvalidWait.g rfl) pa_nil))) (pa_cons (pe_callB call_isX (by rfl) T.z_isinstance (by decide +kernel) (pa_cons (pv 0) (pa_cons (pe_glob (v := .ref T.x_InvalidWish.C) rfl T.x_InvalidWish.g rfl) pa_nil))) pa_nil))))))
      (pss_cons (ps_set (i := 1) sc_law_classes.nd rfl (Or.inl rfl) (pe_op op_cat (pv 1) (pe_lst (pa_cons (pe_callB call_isX (by rfl) T.z_isinstance (by decide +kernel) (pa_cons (pv 0) (pa_cons (pe_glob (v := .ref T.x_InvalidJourney.C) rfl T.x_InvalidJourney.g rfl) pa_nil))) (pa_cons (pe_callB call_isX (by rfl) T.z_isinstance (by decide +kernel) (pa_cons (pv 0) (pa_cons (pe_glob (v := .ref T.x_InvalidText.C) rfl T.x_InvalidText.g rfl) pa_nil))) (pa_cons (pe_callB call_isX (by rfl) T.z_isinstance (by decide +kernel) (pa_cons (pv 0) (pa_cons (pe_glob (v := .ref T.x_DuplicateName.C) rfl T.x_DuplicateName.g rfl) pa_nil))) pa_nil))))))
      (pss_cons (ps_set (i := 1) sc_law_classes.nd rfl (Or.inl rfl) (pe_op op_cat (pv 1) (pe_lst (pa_cons (pe_callB call_isX (by rfl) T.z_isinstance (by decide +kernel) (pa_cons (pv 0) (pa_cons (pe_glob (v := .ref T.x_InUse.C) rfl T.x_InUse.g rfl) pa_nil))) (pa_cons (pe_callB call_isX (by rfl) T.z_isinstance (by decide +kernel) (pa_cons (pv 0) (pa_cons (pe_glob (v := .ref T.x_TakenEnd.C) rfl T.x_TakenEnd.g rfl) pa_nil))) (pa_cons (pe_callB call_isX (by rfl) T.z_isinstance (by decide +kernel) (pa_cons (pv 0) (pa_cons (pe_glob (v := .ref T.x_LooseEnd.C) rfl T.x_LooseEnd.g rfl) pa_nil))) (pa_cons (pe_callB call_isX (by rfl) T.z_isinstance (by decide +kernel) (pa_cons (pv 0) (pa_cons (pe_glob (v := .ref T.x_TooMany.C) rfl T.x_TooMany.g rfl) pa_nil))) pa_nil)))))))
      (pss_cons (ps_set (i := 1) sc_law_classes.nd rfl (Or.inl rfl) (pe_op op_cat (pv 1) (pe_lst (pa_cons (pe_callB call_isX (by rfl) T.z_isinstance (by decide +kernel) (pa_cons (pv 0) (pa_cons (pe_glob (v := .ref T.x_MisplacedStep.C) rfl T.x_MisplacedStep.g rfl) pa_nil))) (pa_cons (pe_callB call_isX (by rfl) T.z_isinstance (by decide +kernel) (pa_cons (pv 0) (pa_cons (pe_glob (v := .ref T.x_OwnRing.C) rfl T.x_OwnRing.g rfl) pa_nil))) (pa_cons (pe_callB call_isX (by rfl) T.z_isinstance (by decide +kernel) (pa_cons (pv 0) (pa_cons (pe_glob (v := .ref T.x_Refused.C) rfl T.x_Refused.g rfl) pa_nil))) (pa_cons (pe_callB call_isX (by rfl) T.z_isinstance (by decide +kernel) (pa_cons (pv 0) (pa_cons (pe_glob (v := .ref T.x_Lacking.C) rfl T.x_Lacking.g rfl) pa_nil))) pa_nil)))))))
      (pss_cons (ps_set (i := 1) sc_law_classes.nd rfl (Or.inl rfl) (pe_op op_cat (pv 1) (pe_lst (pa_cons (pe_callB call_isX (by rfl) T.z_isinstance (by decide +kernel) (pa_cons (pv 0) (pa_cons (pe_glob (v := .ref T.x_Unready.C) rfl T.x_Unready.g rfl) pa_nil))) (pa_cons (pe_callB call_isX (by rfl) T.z_isinstance (by decide +kernel) (pa_cons (pv 0) (pa_cons (pe_glob (v := .ref T.x_Finished.C) rfl T.x_Finished.g rfl) pa_nil))) (pa_cons (pe_callB call_isX (by rfl) T.z_isinstance (by decide +kernel) (pa_cons (pv 0) (pa_cons (pe_glob (v := .ref T.x_Barred.C) rfl T.x_Barred.g rfl) pa_nil))) (pa_cons (pe_callB call_isX (by rfl) T.z_isinstance (by decide +kernel) (pa_cons (pv 0) (pa_cons (pe_glob (v := .ref T.x_NoDay.C) rfl T.x_NoDay.g rfl) pa_nil))) pa_nil)))))))
      (pss_cons (ps_set (i := 1) sc_law_classes.nd rfl (Or.inl rfl) (pe_op op_cat (pv 1) (pe_lst (pa_cons (pe_callB call_isX (by rfl) T.z_isinstance (by decide +kernel) (pa_cons (pv 0) (pa_cons (pe_glob (v := .ref T.x_Doomed.C) rfl T.x_Doomed.g rfl) pa_nil))) (pa_cons (pe_callB call_isX (by rfl) T.z_isinstance (by decide +kernel) (pa_cons (pv 0) (pa_cons (pe_glob (v := .ref T.x_NeverCleared.C) rfl T.x_NeverCleared.g rfl) pa_nil))) (pa_cons (pe_callB call_isX (by rfl) T.z_isinstance (by decide +kernel) (pa_cons (pv 0) (pa_cons (pe_glob (v := .ref T.x_NoPeriod.C) rfl T.x_NoPeriod.g rfl) pa_nil))) (pa_cons (pe_callB call_isX (by rfl) T.z_isinstance (by decide +kernel) (pa_cons (pv 0) (pa_cons (pe_glob (v := .ref T.x_TooShort.C) rfl T.x_TooShort.g rfl) pa_nil))) pa_nil)))))))
      (pss_cons (ps_set (i := 1) sc_law_classes.nd rfl (Or.inl rfl) (pe_op op_cat (pv 1) (pe_lst (pa_cons (pe_callB call_isX (by rfl) T.z_isinstance (by decide +kernel) (pa_cons (pv 0) (pa_cons (pe_glob (v := .ref T.x_UnknownName.C) rfl T.x_UnknownName.g rfl) pa_nil))) (pa_cons (pe_callB call_isX (by rfl) T.z_isinstance (by decide +kernel) (pa_cons (pv 0) (pa_cons (pe_glob (v := .ref T.x_UnknownEnd.C) rfl T.x_UnknownEnd.g rfl) pa_nil))) (pa_cons (pe_callB call_isX (by rfl) T.z_isinstance (by decide +kernel) (pa_cons (pv 0) (pa_cons (pe_glob (v := .ref T.x_UnknownEntry.C) rfl T.x_UnknownEntry.g rfl) pa_nil))) pa_nil))))))
      (pss_one (ps_ret (pe_op op_cat (pv 1) (pe_lst (pa_cons (pe_callB call_isX (by rfl) T.z_isinstance (by decide +kernel) (pa_cons (pv 0) (pa_cons (pe_glob (v := .ref T.x_NothingLeft.C) rfl T.x_NothingLeft.g rfl) pa_nil))) pa_nil)))))))))))))))), ?_⟩
    refine q_set (b := b) hB (by walk_at "ev") fun v1 H1 g1 i1 => ?_
    have j1 := hX.go g1
    refine q_set (b := b) g1.1 (by walk_at "ev") fun v2 H2 g2 i2 => ?_
    have j2 := j1.go g2
    refine q_set (b := b) g2.1 (by walk_at "ev") fun v3 H3 g3 i3 => ?_
    have j3 := j2.go g3
    refine q_set (b := b) g3.1 (by walk_at "ev") fun v4 H4 g4 i4 => ?_
    have j4 := j3.go g4
    refine q_set (b := b) g4.1 (by walk_at "ev") fun v5 H5 g5 i5 => ?_
    have j5 := j4.go g5
    refine q_set (b := b) g5.1 (by walk_at "ev") fun v6 H6 g6 i6 => ?_
    have j6 := j5.go g6
    refine q_set (b := b) g6.1 (by walk_at "ev") fun v7 H7 g7 i7 => ?_
    have j7 := j6.go g7
    refine q_set (b := b) g7.1 (by walk_at "ev") fun v8 H8 g8 i8 => ?_
    have j8 := j7.go g8
    refine q_set (b := b) g8.1 (by walk_at "ev") fun v9 H9 g9 i9 => ?_
    have j9 := j8.go g9
    refine q_set (b := b) g9.1 (by walk_at "ev") fun v10 H10 g10 i10 => ?_
    have j10 := j9.go g10
    refine q_set (b := b) g10.1 (by walk_at "ev") fun v11 H11 g11 i11 => ?_
    have j11 := j10.go g11
    refine q_ret (b := b) g11.1 (by walk_at "ev") fun v H' g i => ?_
    exact q v H' (((((((((((g1.trans g2).trans g3).trans g4).trans g5).trans g6).trans g7).trans g8).trans g9).trans g10).trans g11).trans g) i
end
end Rd
set_option maxHeartbeats 4000000
namespace Rd
open PySem PySem.Spec PyProof.Rows L2
open C8 (pss_cut tCut)
/-! ## the fields of an error, by its code -/
def fieldsOf (z : Str) : List Str :=
  if inV (.str z) [.str "InvalidName", .str "InvalidNumber", .str "InvalidSection", .str "InvalidTimes", .str "InvalidStep", .str "InvalidStanding", .str "InvalidRow", .str "InvalidTable", .str "InvalidDelays", .str "InvalidPeriod", .str "InvalidHeights", .str "InvalidDeed"] = true then ["value"] else
  if inV (.str z) [.str "InvalidTurn", .str "InvalidWait", .str "InvalidWish", .str "InvalidJourney"] = true then ["at"] else
  if inV (.str z) [.str "DuplicateName", .str "InUse", .str "UnknownName"] = true then ["name"] else
  if inV (.str z) [.str "TakenEnd", .str "LooseEnd", .str "UnknownEnd"] = true then ["end"] else
  if inV (.str z) [.str "MisplacedStep", .str "Barred"] = true then ["train", "step"] else
  if inV (.str z) [.str "OwnRing", .str "NeverCleared"] = true then ["train", "step", "element"] else
  if inV (.str z) [.str "Unready", .str "Finished"] = true then ["train"] else
  if decide (V.str z = V.str "TooMany") = true then ["subject", "most"] else
  if decide (V.str z = V.str "Refused") = true then ["train", "element", "holder"] else
  if decide (V.str z = V.str "Lacking") = true then ["train", "other"] else
  if decide (V.str z = V.str "InvalidText") = true then ["line"] else
  if decide (V.str z = V.str "UnknownEntry") = true then ["entry"] else
  if decide (V.str z = V.str "TooShort") = true then ["period"] else []
def FOk (K : PySem.W.Frag) (C : Addr) (fs : List (Str × V)) (l : List Str) (out : List V) : Prop := (∀ f, f ∈ l → PySem.W.findIn K (.ref C) f = some none) ∧ l.map (fun f => fs.lookup f) = out.map some
section
variable {K : PySem.W.Frag} {C : Addr} {fs : List (Str × V)} {out : List V} {f g h : Str}
theorem fok0 (k : FOk K C fs [] out) : out = [] := by
  cases out with
  | nil => rfl
  | cons _ _ => cases k.2
theorem fok1 (k : FOk K C fs [f] out) : ∃ x, out = [x] ∧ PySem.W.findIn K (.ref C) f = some none ∧ fs.lookup f = some x := by
  obtain ⟨n, e⟩ := k
  have hl : out.length = 1 := by have := congrArg List.length e; simp at this; omega
  match out, hl with
  | [x], _ => exact ⟨x, rfl, n f (by simp), (List.cons.inj e).1⟩
theorem fok2 (k : FOk K C fs [f, g] out) : ∃ x y, out = [x, y] ∧ PySem.W.findIn K (.ref C) f = some none ∧ fs.lookup f = some x ∧ PySem.W.findIn K (.ref C) g = some none ∧ fs.lookup g = some y := by
  obtain ⟨n, e⟩ := k
  have hl : out.length = 2 := by have := congrArg List.length e; simp at this; omega
  match out, hl with
  | [x, y], _ => exact ⟨x, y, rfl, n f (by simp), (List.cons.inj e).1, n g (by simp), (List.cons.inj (List.cons.inj e).2).1⟩
theorem fok3 (k : FOk K C fs [f, g, h] out) : ∃ x y z, out = [x, y, z] ∧ PySem.W.findIn K (.ref C) f = some none ∧ fs.lookup f = some x ∧ PySem.W.findIn K (.ref C) g = some none ∧ fs.lookup g = some y ∧ PySem.W.findIn K (.ref C) h = some none ∧ fs.lookup h = some z := by
  obtain ⟨n, e⟩ := k
  have hl : out.length = 3 := by have := congrArg List.length e; simp at this; omega
  match out, hl with
  | [x, y, z], _ => exact ⟨x, y, z, rfl, n f (by simp), (List.cons.inj e).1, n g (by simp), (List.cons.inj (List.cons.inj e).2).1, n h (by simp), (List.cons.inj (List.cons.inj (List.cons.inj e).2).2).1⟩
theorem nt {c : Bool} (e : c = false) : ¬ c = true := fun h => by rw [e] at h; cases h
end
theorem q_ifE {b : Addr} {σ : L2.St} {H : Hp} {te ta tb : TE} {D : Ends} {c : Bool} {s : Sh} (hB : Bag H b) (h : Ev1 b te σ H (.c (.bl c))) (q1 : c = true → Ev1 b ta σ H s) (q2 : c = false → Ev1 b tb σ H s) (q : ∀ v H', Go b H H' → Is b H' s v → D.rt v H') : tRet (tIf (tTest te) ta tb) D σ H :=
  h H (.refl hB) _ fun v H1 g1 i1 => ⟨c, i1, by
    cases c with
    | true => exact iteT (q1 rfl H1 g1 _ fun w H2 g2 i2 => q w H2 (g1.trans g2) i2)
    | false => exact iteF (q2 rfl H1 g1 _ fun w H2 g2 i2 => q w H2 (g1.trans g2) i2)⟩
local macro_rules | `(tactic| walk_at "ev") => `(tactic| repeat' (first
  | ((with_reducible show EvN _ tNil _ _ _); exact n_nil)
  | ((with_reducible show EvN _ (tCons _ _) _ _ _); apply n_cons)
  | ((with_reducible show Ev1 _ (tVar _) _ _ _); (apply e_var rfl; first | assumption | exact is_c | exact rfl))
  | ((with_reducible show Ev1 _ (tC _) _ _ _); (exact e_c))
  | ((with_reducible show Ev1 _ (tLst _) _ _ _); (apply e_lst))
  | ((with_reducible show Ev1 _ (tTup _) _ _ _); (apply e_tup))
  | ((with_reducible show Ev1 _ (tMkV _ _ _) _ _ _); (apply e_mkV))
  | ((with_reducible show Ev1 _ (tMkK _ _ _ _ _) _ _ _); (apply e_mkK))
  | ((with_reducible show Ev1 _ (tOp _ _ _) _ _ _); (first | with_reducible apply e_cat | with_reducible apply e_inC | with_reducible apply e_eqC))
  | ((with_reducible show Ev1 _ (tCB _ _) _ _ _); (first | with_reducible apply e_isX | with_reducible apply e_isT))
  | ((with_reducible show Ev1 _ (tGf _ _ _) _ _ _); (apply e_gf))
  | ((with_reducible show allC _ = true); rfl)
  | ((with_reducible show List.length _ = _); rfl)
  | ((with_reducible show List.all _ _ = true); rfl)
  | with_reducible assumption
  | exact Nat.le_of_ble_eq_true rfl
  | assumption))
section
variable {P : Program} {w : World} {K : PySem.W.Frag} {mg : Str → Option Value} {base : Heap}
def spFields (K : PySem.W.Frag) : Sp := fun vs H Q _ => ∃ b C fs z out v, vs = [v] ∧ Bag H b ∧ Is b H (.x C fs) v ∧ XF K C ∧ PySem.W.findIn K (.ref C) "code" = some none ∧ fs.lookup ("code" : Str) = some (.str z) ∧ FOk K C fs (fieldsOf z) out ∧
  ∀ v H', Go b H H' → Is b H' (.t (out.map Sh.c)) v → Q v H'
theorem ok_law_fields (T : Txt K mg) : FnOk P w K mg base CX0 1 T.d__law_fields.f T.d__law_fields.fd ["_law_e"] (spFields K) := by
  refine T.d__law_fields.F.ok sc_law_fields (fun vs H Q E h => ?_) (fun cdv A outer s H vs Q E hr h => ?_)
  · obtain ⟨b, C, fs, z, out, v, rfl, _⟩ := h
    rfl
  · obtain ⟨b, C, fs, z, out, v, rfl, hB, hX, hF, hn, hc, hk, q⟩ := h
    refine ⟨_, (pss_cons (ps_if (pt_cmpR op_in_seq (pe_gf (pv 0)) (pe_lst (pa_cons pe_str (pa_cons pe_str (pa_cons pe_str (pa_cons pe_str (pa_cons pe_str (pa_cons pe_str (pa_cons pe_str (pa_cons pe_str (pa_cons pe_str (pa_cons pe_str (pa_cons pe_str (pa_cons pe_str pa_nil))))))))))))) (by rfl)) (pss_one (ps_ret (pe_tup (pa_cons (pe_gf (pv 0)) pa_nil)))) pss_nil)
      (pss_cons (ps_if (pt_cmpR op_in_seq (pe_gf (pv 0)) (pe_lst (pa_cons pe_str (pa_cons pe_str (pa_cons pe_str (pa_cons pe_str pa_nil))))) (by rfl)) (pss_one (ps_ret (pe_tup (pa_cons (pe_gf (pv 0)) pa_nil)))) pss_nil)
      (pss_cons (ps_if (pt_cmpR op_in_seq (pe_gf (pv 0)) (pe_lst (pa_cons pe_str (pa_cons pe_str (pa_cons pe_str pa_nil)))) (by rfl)) (pss_one (ps_ret (pe_tup (pa_cons (pe_gf (pv 0)) pa_nil)))) pss_nil)
      (pss_cons (ps_if (pt_cmpR op_in_seq (pe_gf (pv 0)) (pe_lst (pa_cons pe_str (pa_cons pe_str (pa_cons pe_str pa_nil)))) (by rfl)) (pss_one (ps_ret (pe_tup (pa_cons (pe_gf (pv 0)) pa_nil)))) pss_nil)
      (pss_cons (ps_if (pt_cmpR op_in_seq (pe_gf (pv 0)) (pe_lst (pa_cons pe_str (pa_cons pe_str pa_nil))) (by rfl)) (pss_one (ps_ret (pe_tup (pa_cons (pe_gf (pv 0)) (pa_cons (pe_gf (pv 0)) pa_nil))))) pss_nil)
      (pss_cons (ps_if (pt_cmpR op_in_seq (pe_gf (pv 0)) (pe_lst (pa_cons pe_str (pa_cons pe_str pa_nil))) (by rfl)) (pss_one (ps_ret (pe_tup (pa_cons (pe_gf (pv 0)) (pa_cons (pe_gf (pv 0)) (pa_cons (pe_gf (pv 0)) pa_nil)))))) pss_nil)
      (pss_cons (ps_if (pt_cmpR op_in_seq (pe_gf (pv 0)) (pe_lst (pa_cons pe_str (pa_cons pe_str pa_nil))) (by rfl)) (pss_one (ps_ret (pe_tup (pa_cons (pe_gf (pv 0)) pa_nil)))) pss_nil)
      (pss_cons (ps_if (pt_cmpR op_eq (pe_gf (pv 0)) pe_str (nomark _)) (pss_one (ps_ret (pe_tup (pa_cons (pe_gf (pv 0)) (pa_cons (pe_gf (pv 0)) pa_nil))))) pss_nil)
      (pss_cons (ps_if (pt_cmpR op_eq (pe_gf (pv 0)) pe_str (nomark _)) (pss_one (ps_ret (pe_tup (pa_cons (pe_gf (pv 0)) (pa_cons (pe_gf (pv 0)) (pa_cons (pe_gf (pv 0)) pa_nil)))))) pss_nil)
      (pss_cons (ps_if (pt_cmpR op_eq (pe_gf (pv 0)) pe_str (nomark _)) (pss_one (ps_ret (pe_tup (pa_cons (pe_gf (pv 0)) (pa_cons (pe_gf (pv 0)) pa_nil))))) pss_nil)
      (pss_cons (ps_if (pt_cmpR op_eq (pe_gf (pv 0)) pe_str (nomark _)) (pss_one (ps_ret (pe_tup (pa_cons (pe_gf (pv 0)) pa_nil)))) pss_nil)
      (pss_cons (ps_if (pt_cmpR op_eq (pe_gf (pv 0)) pe_str (nomark _)) (pss_one (ps_ret (pe_tup (pa_cons (pe_gf (pv 0)) pa_nil)))) pss_nil)
      (pss_one (ps_ret (pe_ifExp (pt_cmpR op_eq (pe_gf (pv 0)) pe_str (nomark _)) (pe_tup (pa_cons (pe_gf (pv 0)) pa_nil)) (pe_tup pa_nil)))))))))))))))), ?_⟩
    refine q_if (b := b) hB (by walk_at "ev") (fun e H1 g1 => ?_) (fun e0 H100 g100 => ?_)
    · have eq : fieldsOf z = (["value"] : List Str) := if_pos e
      rw [eq] at hk
      obtain ⟨x, rfl, n0, l0⟩ := fok1 hk
      have j := hX.go g1
      refine q_ret (b := b) g1.1 (by walk_at "ev") fun v H2 g2 i2 => ?_
      exact q v H2 (g1.trans g2) i2
    have j0 := hX.go g100
    refine q_if (b := b) g100.1 (by walk_at "ev") (fun e H1 g1 => ?_) (fun e1 H101 g101 => ?_)
    · have eq : fieldsOf z = (["at"] : List Str) := (if_neg (nt e0)).trans (if_pos e)
      rw [eq] at hk
      obtain ⟨x, rfl, n0, l0⟩ := fok1 hk
      have j := j0.go g1
      refine q_ret (b := b) g1.1 (by walk_at "ev") fun v H2 g2 i2 => ?_
      exact q v H2 ((g100.trans g1).trans g2) i2
    have j1 := j0.go g101
    refine q_if (b := b) g101.1 (by walk_at "ev") (fun e H1 g1 => ?_) (fun e2 H102 g102 => ?_)
    · have eq : fieldsOf z = (["name"] : List Str) := (if_neg (nt e0)).trans ((if_neg (nt e1)).trans (if_pos e))
      rw [eq] at hk
      obtain ⟨x, rfl, n0, l0⟩ := fok1 hk
      have j := j1.go g1
      refine q_ret (b := b) g1.1 (by walk_at "ev") fun v H2 g2 i2 => ?_
      exact q v H2 ((g100.trans (g101.trans g1)).trans g2) i2
    have j2 := j1.go g102
    refine q_if (b := b) g102.1 (by walk_at "ev") (fun e H1 g1 => ?_) (fun e3 H103 g103 => ?_)
    · have eq : fieldsOf z = (["end"] : List Str) := (if_neg (nt e0)).trans ((if_neg (nt e1)).trans ((if_neg (nt e2)).trans (if_pos e)))
      rw [eq] at hk
      obtain ⟨x, rfl, n0, l0⟩ := fok1 hk
      have j := j2.go g1
      refine q_ret (b := b) g1.1 (by walk_at "ev") fun v H2 g2 i2 => ?_
      exact q v H2 ((g100.trans (g101.trans (g102.trans g1))).trans g2) i2
    have j3 := j2.go g103
    refine q_if (b := b) g103.1 (by walk_at "ev") (fun e H1 g1 => ?_) (fun e4 H104 g104 => ?_)
    · have eq : fieldsOf z = (["train", "step"] : List Str) := (if_neg (nt e0)).trans ((if_neg (nt e1)).trans ((if_neg (nt e2)).trans ((if_neg (nt e3)).trans (if_pos e))))
      rw [eq] at hk
      obtain ⟨x, y, rfl, n0, l0, n1, l1⟩ := fok2 hk
      have j := j3.go g1
      refine q_ret (b := b) g1.1 (by walk_at "ev") fun v H2 g2 i2 => ?_
      exact q v H2 ((g100.trans (g101.trans (g102.trans (g103.trans g1)))).trans g2) i2
    have j4 := j3.go g104
    refine q_if (b := b) g104.1 (by walk_at "ev") (fun e H1 g1 => ?_) (fun e5 H105 g105 => ?_)
    · have eq : fieldsOf z = (["train", "step", "element"] : List Str) := (if_neg (nt e0)).trans ((if_neg (nt e1)).trans ((if_neg (nt e2)).trans ((if_neg (nt e3)).trans ((if_neg (nt e4)).trans (if_pos e)))))
      rw [eq] at hk
      obtain ⟨x, y, u, rfl, n0, l0, n1, l1, n2, l2⟩ := fok3 hk
      have j := j4.go g1
      refine q_ret (b := b) g1.1 (by walk_at "ev") fun v H2 g2 i2 => ?_
      exact q v H2 ((g100.trans (g101.trans (g102.trans (g103.trans (g104.trans g1))))).trans g2) i2
    have j5 := j4.go g105
    refine q_if (b := b) g105.1 (by walk_at "ev") (fun e H1 g1 => ?_) (fun e6 H106 g106 => ?_)
    · have eq : fieldsOf z = (["train"] : List Str) := (if_neg (nt e0)).trans ((if_neg (nt e1)).trans ((if_neg (nt e2)).trans ((if_neg (nt e3)).trans ((if_neg (nt e4)).trans ((if_neg (nt e5)).trans (if_pos e))))))
      rw [eq] at hk
      obtain ⟨x, rfl, n0, l0⟩ := fok1 hk
      have j := j5.go g1
      refine q_ret (b := b) g1.1 (by walk_at "ev") fun v H2 g2 i2 => ?_
      exact q v H2 ((g100.trans (g101.trans (g102.trans (g103.trans (g104.trans (g105.trans g1)))))).trans g2) i2
    have j6 := j5.go g106
    refine q_if (b := b) g106.1 (by walk_at "ev") (fun e H1 g1 => ?_) (fun e7 H107 g107 => ?_)
    · have eq : fieldsOf z = (["subject", "most"] : List Str) := (if_neg (nt e0)).trans ((if_neg (nt e1)).trans ((if_neg (nt e2)).trans ((if_neg (nt e3)).trans ((if_neg (nt e4)).trans ((if_neg (nt e5)).trans ((if_neg (nt e6)).trans (if_pos e)))))))
      rw [eq] at hk
      obtain ⟨x, y, rfl, n0, l0, n1, l1⟩ := fok2 hk
      have j := j6.go g1
      refine q_ret (b := b) g1.1 (by walk_at "ev") fun v H2 g2 i2 => ?_
      exact q v H2 ((g100.trans (g101.trans (g102.trans (g103.trans (g104.trans (g105.trans (g106.trans g1))))))).trans g2) i2
    have j7 := j6.go g107
    refine q_if (b := b) g107.1 (by walk_at "ev") (fun e H1 g1 => ?_) (fun e8 H108 g108 => ?_)
    · have eq : fieldsOf z = (["train", "element", "holder"] : List Str) := (if_neg (nt e0)).trans ((if_neg (nt e1)).trans ((if_neg (nt e2)).trans ((if_neg (nt e3)).trans ((if_neg (nt e4)).trans ((if_neg (nt e5)).trans ((if_neg (nt e6)).trans ((if_neg (nt e7)).trans (if_pos e))))))))
      rw [eq] at hk
      obtain ⟨x, y, u, rfl, n0, l0, n1, l1, n2, l2⟩ := fok3 hk
      have j := j7.go g1
      refine q_ret (b := b) g1.1 (by walk_at "ev") fun v H2 g2 i2 => ?_
      exact q v H2 ((g100.trans (g101.trans (g102.trans (g103.trans (g104.trans (g105.trans (g106.trans (g107.trans g1)))))))).trans g2) i2
    have j8 := j7.go g108
    refine q_if (b := b) g108.1 (by walk_at "ev") (fun e H1 g1 => ?_) (fun e9 H109 g109 => ?_)
    · have eq : fieldsOf z = (["train", "other"] : List Str) := (if_neg (nt e0)).trans ((if_neg (nt e1)).trans ((if_neg (nt e2)).trans ((if_neg (nt e3)).trans ((if_neg (nt e4)).trans ((if_neg (nt e5)).trans ((if_neg (nt e6)).trans ((if_neg (nt e7)).trans ((if_neg (nt e8)).trans (if_pos e)))))))))
      rw [eq] at hk
      obtain ⟨x, y, rfl, n0, l0, n1, l1⟩ := fok2 hk
      have j := j8.go g1
      refine q_ret (b := b) g1.1 (by walk_at "ev") fun v H2 g2 i2 => ?_
      exact q v H2 ((g100.trans (g101.trans (g102.trans (g103.trans (g104.trans (g105.trans (g106.trans (g107.trans (g108.trans g1))))))))).trans g2) i2
    have j9 := j8.go g109
    refine q_if (b := b) g109.1 (by walk_at "ev") (fun e H1 g1 => ?_) (fun e10 H110 g110 => ?_)
    · have eq : fieldsOf z = (["line"] : List Str) := (if_neg (nt e0)).trans ((if_neg (nt e1)).trans ((if_neg (nt e2)).trans ((if_neg (nt e3)).trans ((if_neg (nt e4)).trans ((if_neg (nt e5)).trans ((if_neg (nt e6)).trans ((if_neg (nt e7)).trans ((if_neg (nt e8)).trans ((if_neg (nt e9)).trans (if_pos e))))))))))
      rw [eq] at hk
      obtain ⟨x, rfl, n0, l0⟩ := fok1 hk
      have j := j9.go g1
      refine q_ret (b := b) g1.1 (by walk_at "ev") fun v H2 g2 i2 => ?_
      exact q v H2 ((g100.trans (g101.trans (g102.trans (g103.trans (g104.trans (g105.trans (g106.trans (g107.trans (g108.trans (g109.trans g1)))))))))).trans g2) i2
    have j10 := j9.go g110
    refine q_if (b := b) g110.1 (by walk_at "ev") (fun e H1 g1 => ?_) (fun e11 H111 g111 => ?_)
    · have eq : fieldsOf z = (["entry"] : List Str) := (if_neg (nt e0)).trans ((if_neg (nt e1)).trans ((if_neg (nt e2)).trans ((if_neg (nt e3)).trans ((if_neg (nt e4)).trans ((if_neg (nt e5)).trans ((if_neg (nt e6)).trans ((if_neg (nt e7)).trans ((if_neg (nt e8)).trans ((if_neg (nt e9)).trans ((if_neg (nt e10)).trans (if_pos e)))))))))))
      rw [eq] at hk
      obtain ⟨x, rfl, n0, l0⟩ := fok1 hk
      have j := j10.go g1
      refine q_ret (b := b) g1.1 (by walk_at "ev") fun v H2 g2 i2 => ?_
      exact q v H2 ((g100.trans (g101.trans (g102.trans (g103.trans (g104.trans (g105.trans (g106.trans (g107.trans (g108.trans (g109.trans (g110.trans g1))))))))))).trans g2) i2
    have j11 := j10.go g111
    refine q_ifE (b := b) (s := .t (out.map Sh.c)) g111.1 (by walk_at "ev") (fun e => ?_) (fun e => ?_) (fun v H2 g2 i2 => q v H2 ((g100.trans (g101.trans (g102.trans (g103.trans (g104.trans (g105.trans (g106.trans (g107.trans (g108.trans (g109.trans (g110.trans g111))))))))))).trans g2) i2)
    · have eq : fieldsOf z = (["period"] : List Str) := (if_neg (nt e0)).trans ((if_neg (nt e1)).trans ((if_neg (nt e2)).trans ((if_neg (nt e3)).trans ((if_neg (nt e4)).trans ((if_neg (nt e5)).trans ((if_neg (nt e6)).trans ((if_neg (nt e7)).trans ((if_neg (nt e8)).trans ((if_neg (nt e9)).trans ((if_neg (nt e10)).trans ((if_neg (nt e11)).trans (if_pos e))))))))))))
      rw [eq] at hk
      obtain ⟨x, rfl, n0, l0⟩ := fok1 hk
      walk_at "ev"
    · have eq : fieldsOf z = ([] : List Str) := (if_neg (nt e0)).trans ((if_neg (nt e1)).trans ((if_neg (nt e2)).trans ((if_neg (nt e3)).trans ((if_neg (nt e4)).trans ((if_neg (nt e5)).trans ((if_neg (nt e6)).trans ((if_neg (nt e7)).trans ((if_neg (nt e8)).trans ((if_neg (nt e9)).trans ((if_neg (nt e10)).trans ((if_neg (nt e11)).trans (if_neg (nt e)))))))))))))
      rw [eq] at hk
      have e0 := fok0 hk
      subst e0
      walk_at "ev"
/-! ## caught by the base -/
/-- what an except clause and isinstance ask of the classes -/
structure TxX (T : Txt K mg) : Prop where
  m1 : PySem.W.exmOne K (.ref T.x_InvalidText.C) (.ref T.a_DayError) = some true
  m2 : PySem.W.exmOne K (.ref T.x_UnknownEntry.C) (.ref T.a_DayError) = some false
  m3 : PySem.W.exmOne K (.ref T.x_UnknownEntry.C) (.ref T.a_Missing) = some true
  m4 : PySem.W.exmOne K (.ref T.x_NothingLeft.C) (.ref T.a_DayError) = some false
  m5 : PySem.W.exmOne K (.ref T.x_NothingLeft.C) (.ref T.a_Missing) = some false
  m6 : PySem.W.exmOne K (.ref T.x_NothingLeft.C) (.ref T.x_NothingLeft.C) = some true
  kit : ∀ (k j : Nat) (c d : Addr), T.cs[k]? = some c → T.cs[j]? = some d → PySem.W.kitOne K (.ref c) (.ref d) = some (decide (j = k))
  kD : ∀ (k : Nat) (c : Addr), T.cs[k]? = some c → PySem.W.kitOne K (.ref c) (.ref T.a_DayError) = some (decide (k < 34))
  kM : ∀ (k : Nat) (c : Addr), T.cs[k]? = some c → PySem.W.kitOne K (.ref c) (.ref T.a_Missing) = some (decide (34 ≤ k) && decide (k < 37))
  kV : ∀ (k : Nat) (c : Addr), T.cs[k]? = some c → PySem.W.kitOne K (.ref c) (.type "ValueError") = some (decide (k < 34))
  kL : ∀ (k : Nat) (c : Addr), T.cs[k]? = some c → PySem.W.kitOne K (.ref c) (.type "LookupError") = some (decide (34 ≤ k))
  kI : ∀ (k : Nat) (c : Addr), T.cs[k]? = some c → PySem.W.kitOne K (.ref c) (.type "IndexError") = some (decide (k = 37))
theorem mkqR {C : Addr} {nm : List Str} {code : Str} {ws : List V} {H1 : Hp} {Q : XK} (l : ws.length = nm.length) (q : ∀ d H', Same H1 H' → H' d = some (.xd (exF nm code ws)) → Q (.ref C) (some d) H') :
    MkQ (spInit C nm code) C (fun a => a :: ws) H1 (fun v H2 => ∃ (a d : Addr) (fs : List (Str × V)), v = .ref a ∧ H2 a = some (exo a C (some d)) ∧ H2 d = some (exd d fs) ∧ H1 d = none ∧ Q (.ref C) (some d) (upd (del H2 a) d (.xd fs))) := fun a na =>
  ⟨a, ws, rfl, l, upd_same, fun d H' A => ⟨rfl, by
    have nd : H1 d = none := by
      have := A.nd
      rw [upd_ne A.da] at this
      exact this
    refine ⟨a, d, _, rfl, A.ea, A.ed, nd, q d _ (fun p o e => ?_) upd_same⟩
    rw [upd_ne (ne_of_none e nd), del_ne (ne_of_none e na), A.keep p (ne_of_none e na) (ne_of_none e nd), upd_ne (ne_of_none e na)]
    exact e⟩⟩
def caughtOf (n : Int) : Str := if n = 0 then "day InvalidText" else if n = 1 then "missing UnknownEntry" else "nothing NothingLeft"
def spCaught : Sp := fun vs H Q _ => ∃ n x, vs = [.int n, x] ∧ ∀ H', Same H H' → Q (.str (caughtOf n)) H'
theorem ok_law_caught (T : Txt K mg) (U : TxX T) : FnOk P w K mg base CX0 3 T.d__law_caught.f T.d__law_caught.fd ["_law_way", "_law_thing"] spCaught := by
  refine T.d__law_caught.F.ok sc_law_caught (fun vs H Q E h => ?_) (fun cdv A outer s H vs Q E hr h => ?_)
  · obtain ⟨n, x, rfl, _⟩ := h
    rfl
  · obtain ⟨n, x, rfl, q⟩ := h
    refine ⟨_, (pss_one (ps_try_manyAs rfl rfl sc_law_caught.nd takes_none5
      (fun W pn xe tk _ => (pss_cons (ps_if (pt_cmpR op_eq (pv 0) pe_int (nomark _)) (pss_one (ps_raise rfl tk (pmk_V T.x_InvalidText.T (raises_own T.x_InvalidText.xf.x.exC T.x_InvalidText.ty) ⟨T.x_InvalidText.iC, T.x_InvalidText.tI, ok_init_InvalidText T⟩ (hr.mono (by decide)) T.x_InvalidText.b pass0 (by rfl) T.x_InvalidText.g (pa_cons (pv 1) pa_nil)))) pss_nil)
        (pss_cons (ps_if (pt_cmpR op_eq (pv 0) pe_int (nomark _)) (pss_one (ps_raise rfl tk (pmk_V T.x_UnknownEntry.T (raises_own T.x_UnknownEntry.xf.x.exC T.x_UnknownEntry.ty) ⟨T.x_UnknownEntry.iC, T.x_UnknownEntry.tI, ok_init_UnknownEntry T⟩ (hr.mono (by decide)) T.x_UnknownEntry.b pass0 (by rfl) T.x_UnknownEntry.g (pa_cons (pv 1) pa_nil)))) pss_nil)
        (pss_one (ps_raise rfl tk (pmk_V0 T.x_NothingLeft.T (raises_own T.x_NothingLeft.xf.x.exC T.x_NothingLeft.ty) ⟨T.x_NothingLeft.iC, T.x_NothingLeft.tI, ok_init_NothingLeft T⟩ (hr.mono (by decide)) T.x_NothingLeft.b pass0 (by rfl) T.x_NothingLeft.g))))))
      (.cons (i := 2) rfl rfl ⟨rfl, by decide, .inl T.c_DayError⟩ (fun a oe cls d pn hz hf => pss_one (ps_ret (pe_op op_add_str pe_str (pe_xf T.x_InvalidText.xf.x (T.x_InvalidText.no "code" (by decide +kernel)) hz hf (pv 2)))))
        (.cons (i := 2) rfl rfl ⟨rfl, by decide, .inl T.c_Missing⟩ (fun a oe cls d pn hz hf => pss_one (ps_ret (pe_op op_add_str pe_str (pe_xf T.x_UnknownEntry.xf.x (T.x_UnknownEntry.no "code" (by decide +kernel)) hz hf (pv 2)))))
          (.cons (i := 2) rfl rfl ⟨rfl, by decide, .inl T.x_NothingLeft.g⟩ (fun a oe cls d pn hz hf => pss_one (ps_ret (pe_op op_add_str pe_str (pe_xf T.x_NothingLeft.xf.x (T.x_NothingLeft.no "code" (by decide +kernel)) hz hf (pv 2)))))
            .nil))))), ?_⟩
    refine ⟨.int n, rfl, rfl, _, rfl, ite2 (fun e => ?_) (fun e => ?_)⟩
    · have en : n = 0 := V.int.inj (of_decide_eq_true e)
      refine ⟨x, rfl, (by show 1 ≤ 1000; decide), mkqR (ws := [x]) (Q := fun cls d H' => wManyAs _ _ _ _ cls d _ H') rfl fun d H1 sm hd => ⟨true, U.m1, fun _ a na => ?_, fun e => nomatch e⟩⟩
      refine ⟨.ref a, rfl, rfl, rfl, d, _, _, rfl, hd, List.lookup_cons_self, _, _, rfl, rfl, (by show 15 ≤ sizeLine; decide), ?_⟩
      rw [show caughtOf n = "day InvalidText" from if_pos en] at q
      exact q _ sm
    refine ⟨.int n, rfl, rfl, _, rfl, ite2 (fun e2 => ?_) (fun e2 => ?_)⟩
    · have en : n = 1 := V.int.inj (of_decide_eq_true e2)
      refine ⟨x, rfl, (by show 1 ≤ 1000; decide), mkqR (ws := [x]) (Q := fun cls d H' => wManyAs _ _ _ _ cls d _ H') rfl fun d H1 sm hd => ⟨false, U.m2, (fun e => nomatch e), fun _ => ⟨true, U.m3, fun _ a na => ?_, fun e => nomatch e⟩⟩⟩
      refine ⟨.ref a, rfl, rfl, rfl, d, _, _, rfl, hd, List.lookup_cons_self, _, _, rfl, rfl, (by show 20 ≤ sizeLine; decide), ?_⟩
      rw [show caughtOf n = "missing UnknownEntry" from by rw [en]; rfl] at q
      exact q _ sm
    · have e0 : ¬ n = 0 := fun h => e (decide_eq_true (by rw [h]))
      have e1 : ¬ n = 1 := fun h => e2 (decide_eq_true (by rw [h]))
      refine ⟨(by show 0 ≤ 1000; decide), mkqR (ws := []) (Q := fun cls d H' => wManyAs _ _ _ _ cls d _ H') rfl fun d H1 sm hd => ⟨false, U.m4, (fun e => nomatch e), fun _ => ⟨false, U.m5, (fun e => nomatch e), fun _ => ⟨true, U.m6, fun _ a na => ?_, fun e => nomatch e⟩⟩⟩⟩
      refine ⟨.ref a, rfl, rfl, rfl, d, _, _, rfl, hd, List.lookup_cons_self, _, _, rfl, rfl, (by show 19 ≤ sizeLine; decide), ?_⟩
      rw [show caughtOf n = "nothing NothingLeft" from (if_neg e0).trans (if_neg e1)] at q
      exact q _ sm
end
end Rd
set_option maxHeartbeats 4000000
namespace Rd
open PySem PySem.Spec PyProof.Rows L2
open C8 (pss_cut tCut)
/-! ## more of shapes: comprehensions, equality, slices -/
theorem Go.put {H1 H4 : Hp} {b D : Addr} {o : HO} (hB : Bag H1 b) (g : Go b H1 H4) (nD : H1 D = none) : Go b H1 (upd H4 D o) := by
  have nb := hB.ne nD
  obtain ⟨c, hc, oc, eo⟩ := hB.cell
  have nc : D ≠ c := fun e => by rw [← e, nD] at eo; cases eo
  refine ⟨g.1.put (g.3 c hc) nb nc, fun a u na e => ?_, fun c' h => (g.3 c' h).put nb⟩
  rw [upd_ne (ne_of_none e nD)]
  exact g.2 a u na e
def dataOf : List Sh → List PyData
  | .c (.bl x) :: r => .bool x :: dataOf r
  | .c (.str x) :: r => .str x :: dataOf r
  | _ => []
def allD : List Sh → Bool
  | [] => true
  | .c (.bl _) :: r => allD r
  | .c (.str _) :: r => allD r
  | _ => false
theorem dp_of {K : PySem.W.Frag} {b : Addr} {H : Hp} : ∀ {ss : List Sh} {vs : List V}, allD ss = true → IsAll b H ss vs → DpAll K H vs (dataOf ss)
  | [], _, _, h => by rw [show _ = [] from h]; exact .nil
  | .c (.bl x) :: r, _, a, h => by
    obtain ⟨v, ws, rfl, e, q⟩ := h
    rw [show v = _ from e]
    exact .cons (.bl x) (dp_of (ss := r) a q)
  | .c (.str x) :: r, _, a, h => by
    obtain ⟨v, ws, rfl, e, q⟩ := h
    rw [show v = _ from e]
    exact .cons (.str x) (dp_of (ss := r) a q)
  | .c .non :: _, _, a, _ => by cases a
  | .c (.int _) :: _, _, a, _ => by cases a
  | .c (.ref _) :: _, _, a, _ => by cases a
  | .c (.byt _) :: _, _, a, _ => by cases a
  | .c (.ty _) :: _, _, a, _ => by cases a
  | .is _ :: _, _, a, _ => by cases a
  | .l _ :: _, _, a, _ => by cases a
  | .t _ :: _, _, a, _ => by cases a
  | .o _ :: _, _, a, _ => by cases a
  | .x _ _ :: _, _, a, _ => by cases a
def eqOk (xs ys : List PyData) : Bool := SeqAt.shaped (.list xs) && (SeqAt.shaped (.list ys) && PyData.eqv (.list xs) (.list ys))
section
variable {b : Addr} {σ : L2.St} {H0 H : Hp} {te ta tb tl ti : TE} {tr tk : TA} {s s' : Sh} {ss rr : List Sh} {K : PySem.W.Frag} {D : Ends} {t1 t2 : TS}
theorem eqOk_parts {xs ys : List PyData} (h : eqOk xs ys = true) : SeqAt.shaped (.list xs) = true ∧ SeqAt.shaped (.list ys) = true ∧ PyData.eqv (.list xs) (.list ys) = true := by
  obtain ⟨h1, h⟩ := Bool.and_eq_true_iff.mp h
  obtain ⟨h2, h3⟩ := Bool.and_eq_true_iff.mp h
  exact ⟨h1, h2, h3⟩
theorem e_neD (h : Ev1 b ta σ H0 (.l ss)) (k : Ev1 b tb σ H0 (.l rr)) (a : allD ss = true) (a' : allD rr = true) (e : eqOk (dataOf ss) (dataOf rr) = true) : Ev1 b (tOp (rNeD K) ta tb) σ H0 (.c (.bl false)) := fun H g Q q =>
  h H g _ fun v H1 g1 i1 => k H1 (g.trans g1) _ fun w H2 g2 i2 => by
    obtain ⟨p1, vs, rfl, n1, o1, r1⟩ := i1.go g2
    obtain ⟨p2, ws, rfl, n2, o2, r2⟩ := i2
    obtain ⟨e1, e2, e3⟩ := eqOk_parts e
    exact ⟨_, _, .lst (SqL.of o1) (dp_of a r1), .lst (SqL.of o2) (dp_of a' r2), e1, e2, by rw [e3]; exact q _ H2 (g1.trans g2) rfl⟩
theorem e_eqD (h : Ev1 b ta σ H0 (.l ss)) (k : Ev1 b tb σ H0 (.l rr)) (a : allD ss = true) (a' : allD rr = true) (e : eqOk (dataOf ss) (dataOf rr) = true) : Ev1 b (tOp (rEqD K) ta tb) σ H0 (.c (.bl true)) := fun H g Q q =>
  h H g _ fun v H1 g1 i1 => k H1 (g.trans g1) _ fun w H2 g2 i2 => by
    obtain ⟨p1, vs, rfl, n1, o1, r1⟩ := i1.go g2
    obtain ⟨p2, ws, rfl, n2, o2, r2⟩ := i2
    obtain ⟨e1, e2, e3⟩ := eqOk_parts e
    exact ⟨_, _, .lst (SqL.of o1) (dp_of a r1), .lst (SqL.of o2) (dp_of a' r2), e1, e2, by rw [e3]; exact q _ H2 (g1.trans g2) rfl⟩
/-- [e for x in range(n)], constants -/
theorem all_map {f : Nat → V} (b : Addr) (H : Hp) : ∀ (l : List Nat), IsAll b H (l.map fun i => .c (f i)) (l.map f)
  | [] => rfl
  | i :: r => ⟨f i, r.map f, rfl, rfl, all_map b H r⟩
theorem e_lcR {n v : Nat} (f : Nat → V) (hn : n ≤ 1000) (el : ∀ i, i < n → Ev1 b te ((wipe σ [v]).set v (some (.int (0 + (i : Nat))))) H0 (.c (f i))) : Ev1 b (tLc (iRng1 (tCons (tC (.int (n : Nat))) tNil)) (gName v) tYes te [v]) σ H0 (.l ((List.range n).map fun i => .c (f i))) := fun H g Q q =>
  ⟨n, rfl, by omega, by omega, fun D nD => by
    have hB := g.1
    have nb := hB.ne nD
    refine lc_range (lo := 0) (n := (n : Int).toNat) (fun i H5 => Go b H H5 ∧ H5 D = some (.lst ((List.range i).map f))) ⟨(Go.refl hB).put hB nD, upd_same⟩ ?_ ?_
    · rintro i H5 hi ⟨g5, eD⟩
      have hi' : i < n := by omega
      refine ⟨by show (((σ.set v none).set v _).set v none) = σ.set v none; rw [List.set_set, List.set_set], ?_⟩
      show te _ H5 _
      refine el i hi' H5 (g.trans g5) _ fun y H6 g6 i6 => ⟨_, g6.2 _ _ nb eD, ?_, (g5.trans g6).put hB nD, ?_⟩
      · rw [List.length_map, List.length_range]; exact small1000 (by omega)
      · rw [upd_same, show y = f i from i6, List.range_succ, List.map_append]; rfl
    · rintro H5 ⟨g5, eD⟩
      rw [Int.toNat_natCast] at eD
      exact q _ H5 g5 ⟨D, _, rfl, nb, eD, all_map b H5 _⟩⟩
/-- [e for x in xs], constants -/
theorem e_lcL {v : Nat} (f : Nat → V) (hl : Ev1 b tl σ H0 (.l ss)) (hn : ss.length ≤ 1000) (el : ∀ i s, ss[i]? = some s → ∀ H x, Go b H0 H → Is b H s x → Ev1 b te ((wipe σ [v]).set v (some x)) H (.c (f i))) : Ev1 b (tLc (iList K tl) (gName v) tYes te [v]) σ H0 (.l ((List.range ss.length).map fun i => .c (f i))) := fun H g Q q =>
  hl H g _ fun u H1 g1 i1 => by
    obtain ⟨a, xs, rfl, na, o, r⟩ := i1
    refine ⟨a, rfl, ⟨_, SqL.of o⟩, fun D nD => ?_⟩
    have hB := g1.1
    have nb := hB.ne nD
    have lx := r.length
    refine lc_list (K := K) (a := a) (xs := xs) (fun i H5 => Go b H1 H5 ∧ H5 D = some (.lst ((List.range i).map f))) ⟨(Go.refl hB).put hB nD, upd_same⟩ (fun i H5 _ h => SqL.of (h.1.2 _ _ na o)) ?_ ?_
    · rintro i x H5 hx ⟨g5, eD⟩
      have hi : i < xs.length := (List.getElem?_eq_some_iff.mp hx).1
      obtain ⟨s, hs, is⟩ := r.at hx
      refine ⟨by show (((σ.set v none).set v _).set v none) = σ.set v none; rw [List.set_set, List.set_set], ?_⟩
      show te _ H5 _
      refine el i s hs H5 x (g.trans (g1.trans g5)) (is.go g5) H5 (Go.refl g5.1) _ fun y H6 g6 i6 => ⟨_, g6.2 _ _ nb eD, ?_, (g5.trans g6).put hB nD, ?_⟩
      · rw [List.length_map, List.length_range]; exact small1000 (by omega)
      · rw [upd_same, show y = f i from i6, List.range_succ, List.map_append]; rfl
    · rintro H5 ⟨g5, eD⟩
      rw [lx] at eD
      exact q _ H5 (g1.trans g5) ⟨D, _, rfl, nb, eD, all_map b H5 _⟩
theorem e_ofL {xs : List Sh} (h : EvN b tr σ H0 [.c (.ref b), .l xs]) (h0 : 0 < xs.length) (h1 : xs.length < 1000) : Ev1 b (tCall spOfL [] E0 tr) σ H0 (.o xs) :=
  e_call h fun vs H g i Q q => by
    obtain ⟨v, u, rfl, rfl, p, ys, rfl, n, o, r⟩ := is2 i
    have l := r.length
    exact ⟨b, p, ys, rfl, g.1, n, o, by omega, by omega, fun v H' g' m => by
      obtain ⟨s, ms, k⟩ := r.mem m
      exact q v H' g' (IsOne.of ms (k.go g'))⟩
theorem e_sameE {n : Nat} (h : EvN b tr σ H0 [s, s']) (k : ∀ H v w, Go b H0 H → Is b H s v → Is b H s' w → Eqv K H n v w) : Ev1 b (tCall (spSame K n) [] E0 tr) σ H0 (.c (.bl true)) :=
  e_call h fun vs H g i Q q => by
    obtain ⟨v, u, rfl, i1, i2⟩ := is2 i
    exact ⟨v, u, rfl, k H v u g i1 i2, fun H' s => q _ H' (Go.of_same g.1 s) rfl⟩
theorem rep_all {H : Hp} {xs : List Sh} {vs : List V} (h : IsAll b H xs vs) : ∀ n : Nat, IsAll b H (List.replicate n xs).flatten (List.replicate n vs).flatten
  | 0 => rfl
  | n + 1 => by
    rw [List.replicate_succ, List.replicate_succ, List.flatten_cons, List.flatten_cons]
    exact h.append (rep_all h n)
theorem e_rep {xs : List Sh} {k : Int} (h : Ev1 b ta σ H0 (.l xs)) (h2 : Ev1 b tb σ H0 (.c (.int k))) (k0 : 0 ≤ k) (k1 : k ≤ 1000) (hs : xs.length * k.toNat ≤ 1000) : Ev1 b (tOp rRep ta tb) σ H0 (.l (List.replicate k.toNat xs).flatten) := fun H g Q q =>
  h H g _ fun v H1 g1 i1 => h2 H1 (g.trans g1) _ fun w H2 g2 i2 => by
    obtain ⟨p1, vs, rfl, n1, o1, r1⟩ := i1.go g2
    refine ⟨p1, k, vs, rfl, i2, o1, by omega, by omega, by rw [r1.length]; exact Nat.le_of_lt (small1000 hs), fun p np => ?_⟩
    exact q _ _ ((g1.trans g2).new np) ⟨p, _, rfl, (g1.trans g2).1.ne np, upd_same, (rep_all r1 _).go ((Go.refl g2.1).new np)⟩
/-- xs[i] -/
theorem e_ix {j : Nat} (h : Ev1 b ta σ H0 (.l ss)) (k : Ev1 b ti σ H0 (.c (.int (j : Nat)))) (n : ss[j]? = some s) : Ev1 b (tOp (rIxL K) ta ti) σ H0 s := fun H g Q q =>
  h H g _ fun v H1 g1 i1 => k H1 (g.trans g1) _ fun w H2 g2 i2 => by
    obtain ⟨p1, vs, rfl, n1, o1, r1⟩ := i1.go g2
    have hj : j < vs.length := by rw [r1.length]; exact (List.getElem?_eq_some_iff.mp n).1
    obtain ⟨s', hs, is⟩ := r1.at (List.getElem?_eq_getElem hj)
    cases n.symm.trans hs
    exact ⟨p1, vs, j, _, rfl, i2, SqL.of o1, atI_nat (List.getElem?_eq_getElem hj), q _ H2 (g1.trans g2) is⟩
theorem e_len (h : Ev1 b te σ H0 (.l ss)) : Ev1 b (tCB (fun xs H Q => ∃ p ys, xs = [.ref p] ∧ (SqL K H p ys ∨ SqT K H p ys) ∧ Q (.int ys.length) H) (tCons te tNil)) σ H0 (.c (.int ss.length)) := fun H g Q q =>
  h H g _ fun v H1 g1 i1 => by
    obtain ⟨p1, vs, rfl, n1, o1, r1⟩ := i1
    exact ⟨p1, vs, rfl, .inl (SqL.of o1), q _ H1 g1 (by rw [r1.length]; rfl)⟩
/-- (x, y, z)[:w] -/
theorem e_sl3 {x y z : V} {w : Nat} (h : Ev1 b ta σ H0 (.t [.c x, .c y, .c z])) (k : Ev1 b ti σ H0 (.c (.int (w : Nat)))) (hw : w ≤ 3) : Ev1 b (tSl (rSlA K) ta tNoPart (tPart ti)) σ H0 (.t (([x, y, z].take w).map Sh.c)) := fun H g Q q =>
  h H g _ fun v H1 g1 i1 => k H1 (g.trans g1) _ fun u H2 g2 i2 => by
    obtain ⟨p1, vs, rfl, n1, o1, r1⟩ := i1.go g2
    obtain ⟨x', y', z', rfl, ex, ey, ez⟩ := is3 r1
    rw [show x' = x from ex, show y' = y from ey, show z' = z from ez] at o1 r1
    have g3 := g1.trans g2
    refine ⟨w, i2, p1, [x, y, z], rfl, SqT.of o1, fun hh => ?_, fun hh p np => ?_⟩
    · have e : w = 3 := by
        have := hh.2
        rw [HT.sIx_nat] at this
        have : min w 3 = 3 := this
        omega
      subst e
      exact q _ H2 g3 ⟨p1, _, rfl, n1, o1, r1⟩
    · have e : cutV [x, y, z] none (some (w : Int)) = [x, y, z].take w := by
        unfold cutV
        rw [HT.sIx_nat, HT.sIx_none, List.drop_zero, Nat.sub_zero]
        show List.take (min w 3) _ = _
        rw [Nat.min_eq_left hw]
      rw [e]
      refine q _ _ (g3.new np) ⟨p, _, rfl, g3.1.ne np, upd_same, ?_⟩
      have : ∀ l : List V, IsAll b (upd H2 p (.tup ([x, y, z].take w))) (l.map Sh.c) l := fun l => by
        induction l with
        | nil => rfl
        | cons a r ih => exact ⟨a, r, rfl, rfl, ih⟩
      exact this _
theorem q_ifn (hB : Bag H b) (h : Ev1 b te σ H (.c (.bl true))) (q : ∀ H', Go b H H' → t2 D σ H') : tSeq (tIfS (tNot (tB te)) t1 tNext) t2 D σ H :=
  h H (.refl hB) _ fun v H1 g1 i1 => ⟨true, i1, iteF (q H1 g1)⟩
theorem q_ifOr (hB : Bag H b) (h : Ev1 b te σ H (.c (.bl true))) (k : Ev1 b ta σ H (.c (.bl false))) (q : ∀ H', Go b H H' → t2 D σ H') : tSeq (tIfS (tOr (tNot (tB te)) (tTest ta)) t1 tNext) t2 D σ H :=
  h H (.refl hB) _ fun v H1 g1 i1 => ⟨true, i1, iteF (k H1 g1 _ fun w H2 g2 i2 => ⟨false, i2, iteF (q H2 (g1.trans g2))⟩)⟩
theorem q_ifOr2 (hB : Bag H b) (h : Ev1 b te σ H (.c (.bl false))) (k : Ev1 b ta σ H (.c (.bl false))) (q : ∀ H', Go b H H' → D.nx σ H') : tIfS (tOr (tTest te) (tTest ta)) t1 tNext D σ H :=
  h H (.refl hB) _ fun v H1 g1 i1 => ⟨false, i1, iteF (k H1 g1 _ fun w H2 g2 i2 => ⟨false, i2, iteF (q H2 (g1.trans g2))⟩)⟩
theorem q_par {i j : Nat} (hB : Bag H b) (h : Ev1 b te σ H s) (k : Ev1 b ta σ H s') (q : ∀ v w H', Go b H H' → Is b H' s v → Is b H' s' w → t2 D ((σ.set i (some v)).set j (some w)) H') : tSeq (tPar i j (tCons te (tCons ta tNil))) t2 D σ H :=
  h H (.refl hB) _ fun v H1 g1 i1 => k H1 g1 _ fun w H2 g2 i2 => ⟨v, w, rfl, q v w H2 (g1.trans g2) (i1.go g2) i2⟩
end
end Rd
set_option maxHeartbeats 4000000
namespace Rd
open PySem PySem.Spec PyProof.Rows L2
open C8 (pss_cut tCut)
/-! ## what is known of the k-th error -/
theorem lk_ne {f g : Str} {v : V} {es : List (Str × V)} (h : (f == g) = false) : List.lookup f ((g, v) :: es) = List.lookup f es := by rw [List.lookup_cons, h]
def widN : List Nat := [1, 1, 1, 1, 1, 1, 1, 1, 1, 1, 1, 1, 1, 1, 1, 1, 1, 1, 1, 1, 1, 2, 2, 3, 3, 2, 1, 1, 2, 0, 0, 3, 0, 1, 1, 1, 1, 0]
def wid (k : Nat) : Nat := widN.getD k 0
def widSh : List Sh := ((List.replicate (Int.toNat 21) [Sh.c (.int 1)]).flatten ++ [.c (.int 2), .c (.int 2), .c (.int 3), .c (.int 3), .c (.int 2), .c (.int 1), .c (.int 1), .c (.int 2), .c (.int 0), .c (.int 0), .c (.int 3), .c (.int 0), .c (.int 1)]) ++ [.c (.int 1), .c (.int 1), .c (.int 1), .c (.int 0)]
section
variable {P : Program} {w : World} {K : PySem.W.Frag} {mg : Str → Option Value} {base : Heap}
structure RowF (T : Txt K mg) (x y z : V) (k : Nat) (C : Addr) (fs : List (Str × V)) (code : Str) : Prop where
  sh : (rowsSh T x y z)[k]? = some (.x C fs)
  xf : XF K C
  no : PySem.W.findIn K (.ref C) "code" = some none
  lk : fs.lookup ("code" : Str) = some (.str code)
  cd : codesSh[k]? = some (.c (.str code))
  fk : FOk K C fs (fieldsOf code) ([x, y, z].take (wid k))
  cs : T.cs[k]? = some C
  wd : widSh[k]? = some (.c (.int ((wid k : Nat) : Int)))
theorem fok_mk {C : Addr} {fs : List (Str × V)} {code : Str} {l : List Str} {out : List V} (e : fieldsOf code = l) (n : ∀ f, f ∈ l → PySem.W.findIn K (.ref C) f = some none) (h : l.map (fun f => fs.lookup f) = out.map some) : FOk K C fs (fieldsOf code) out := by
  rw [e]
  exact ⟨n, h⟩
theorem row_0 (T : Txt K mg) (x y z : V) : RowF T x y z 0 T.x_InvalidName.C (exF ["value"] "InvalidName" [x]) "InvalidName" := by
  have l0 : List.lookup ("value" : Str) (exF ["value"] "InvalidName" [x]) = some x := (lk_ne (by decide +kernel)).trans (List.lookup_cons_self)
  refine ⟨rfl, T.x_InvalidName.xf, T.x_InvalidName.no "code" (by decide +kernel), List.lookup_cons_self, rfl, fok_mk (l := ["value"]) (by decide +kernel) (fun f m => by
    rcases List.mem_cons.mp m with rfl | m
    · exact T.x_InvalidName.no _ (by decide +kernel)
    cases m) ?_, rfl, rfl⟩
  show [List.lookup ("value" : Str) (exF ["value"] "InvalidName" [x])] = _
  rw [l0]
  rfl
theorem row_1 (T : Txt K mg) (x y z : V) : RowF T x y z 1 T.x_InvalidNumber.C (exF ["value"] "InvalidNumber" [x]) "InvalidNumber" := by
  have l0 : List.lookup ("value" : Str) (exF ["value"] "InvalidNumber" [x]) = some x := (lk_ne (by decide +kernel)).trans (List.lookup_cons_self)
  refine ⟨rfl, T.x_InvalidNumber.xf, T.x_InvalidNumber.no "code" (by decide +kernel), List.lookup_cons_self, rfl, fok_mk (l := ["value"]) (by decide +kernel) (fun f m => by
    rcases List.mem_cons.mp m with rfl | m
    · exact T.x_InvalidNumber.no _ (by decide +kernel)
    cases m) ?_, rfl, rfl⟩
  show [List.lookup ("value" : Str) (exF ["value"] "InvalidNumber" [x])] = _
  rw [l0]
  rfl
theorem row_2 (T : Txt K mg) (x y z : V) : RowF T x y z 2 T.x_InvalidSection.C (exF ["value"] "InvalidSection" [x]) "InvalidSection" := by
  have l0 : List.lookup ("value" : Str) (exF ["value"] "InvalidSection" [x]) = some x := (lk_ne (by decide +kernel)).trans (List.lookup_cons_self)
  refine ⟨rfl, T.x_InvalidSection.xf, T.x_InvalidSection.no "code" (by decide +kernel), List.lookup_cons_self, rfl, fok_mk (l := ["value"]) (by decide +kernel) (fun f m => by
    rcases List.mem_cons.mp m with rfl | m
    · exact T.x_InvalidSection.no _ (by decide +kernel)
    cases m) ?_, rfl, rfl⟩
  show [List.lookup ("value" : Str) (exF ["value"] "InvalidSection" [x])] = _
  rw [l0]
  rfl
theorem row_3 (T : Txt K mg) (x y z : V) : RowF T x y z 3 T.x_InvalidTimes.C (exF ["value"] "InvalidTimes" [x]) "InvalidTimes" := by
  have l0 : List.lookup ("value" : Str) (exF ["value"] "InvalidTimes" [x]) = some x := (lk_ne (by decide +kernel)).trans (List.lookup_cons_self)
  refine ⟨rfl, T.x_InvalidTimes.xf, T.x_InvalidTimes.no "code" (by decide +kernel), List.lookup_cons_self, rfl, fok_mk (l := ["value"]) (by decide +kernel) (fun f m => by
    rcases List.mem_cons.mp m with rfl | m
    · exact T.x_InvalidTimes.no _ (by decide +kernel)
    cases m) ?_, rfl, rfl⟩
  show [List.lookup ("value" : Str) (exF ["value"] "InvalidTimes" [x])] = _
  rw [l0]
  rfl
theorem row_4 (T : Txt K mg) (x y z : V) : RowF T x y z 4 T.x_InvalidStep.C (exF ["value"] "InvalidStep" [x]) "InvalidStep" := by
  have l0 : List.lookup ("value" : Str) (exF ["value"] "InvalidStep" [x]) = some x := (lk_ne (by decide +kernel)).trans (List.lookup_cons_self)
  refine ⟨rfl, T.x_InvalidStep.xf, T.x_InvalidStep.no "code" (by decide +kernel), List.lookup_cons_self, rfl, fok_mk (l := ["value"]) (by decide +kernel) (fun f m => by
    rcases List.mem_cons.mp m with rfl | m
    · exact T.x_InvalidStep.no _ (by decide +kernel)
    cases m) ?_, rfl, rfl⟩
  show [List.lookup ("value" : Str) (exF ["value"] "InvalidStep" [x])] = _
  rw [l0]
  rfl
theorem row_5 (T : Txt K mg) (x y z : V) : RowF T x y z 5 T.x_InvalidStanding.C (exF ["value"] "InvalidStanding" [x]) "InvalidStanding" := by
  have l0 : List.lookup ("value" : Str) (exF ["value"] "InvalidStanding" [x]) = some x := (lk_ne (by decide +kernel)).trans (List.lookup_cons_self)
  refine ⟨rfl, T.x_InvalidStanding.xf, T.x_InvalidStanding.no "code" (by decide +kernel), List.lookup_cons_self, rfl, fok_mk (l := ["value"]) (by decide +kernel) (fun f m => by
    rcases List.mem_cons.mp m with rfl | m
    · exact T.x_InvalidStanding.no _ (by decide +kernel)
    cases m) ?_, rfl, rfl⟩
  show [List.lookup ("value" : Str) (exF ["value"] "InvalidStanding" [x])] = _
  rw [l0]
  rfl
theorem row_6 (T : Txt K mg) (x y z : V) : RowF T x y z 6 T.x_InvalidRow.C (exF ["value"] "InvalidRow" [x]) "InvalidRow" := by
  have l0 : List.lookup ("value" : Str) (exF ["value"] "InvalidRow" [x]) = some x := (lk_ne (by decide +kernel)).trans (List.lookup_cons_self)
  refine ⟨rfl, T.x_InvalidRow.xf, T.x_InvalidRow.no "code" (by decide +kernel), List.lookup_cons_self, rfl, fok_mk (l := ["value"]) (by decide +kernel) (fun f m => by
    rcases List.mem_cons.mp m with rfl | m
    · exact T.x_InvalidRow.no _ (by decide +kernel)
    cases m) ?_, rfl, rfl⟩
  show [List.lookup ("value" : Str) (exF ["value"] "InvalidRow" [x])] = _
  rw [l0]
  rfl
theorem row_7 (T : Txt K mg) (x y z : V) : RowF T x y z 7 T.x_InvalidTable.C (exF ["value"] "InvalidTable" [x]) "InvalidTable" := by
  have l0 : List.lookup ("value" : Str) (exF ["value"] "InvalidTable" [x]) = some x := (lk_ne (by decide +kernel)).trans (List.lookup_cons_self)
  refine ⟨rfl, T.x_InvalidTable.xf, T.x_InvalidTable.no "code" (by decide +kernel), List.lookup_cons_self, rfl, fok_mk (l := ["value"]) (by decide +kernel) (fun f m => by
    rcases List.mem_cons.mp m with rfl | m
    · exact T.x_InvalidTable.no _ (by decide +kernel)
    cases m) ?_, rfl, rfl⟩
  show [List.lookup ("value" : Str) (exF ["value"] "InvalidTable" [x])] = _
  rw [l0]
  rfl
theorem row_8 (T : Txt K mg) (x y z : V) : RowF T x y z 8 T.x_InvalidDelays.C (exF ["value"] "InvalidDelays" [x]) "InvalidDelays" := by
  have l0 : List.lookup ("value" : Str) (exF ["value"] "InvalidDelays" [x]) = some x := (lk_ne (by decide +kernel)).trans (List.lookup_cons_self)
  refine ⟨rfl, T.x_InvalidDelays.xf, T.x_InvalidDelays.no "code" (by decide +kernel), List.lookup_cons_self, rfl, fok_mk (l := ["value"]) (by decide +kernel) (fun f m => by
    rcases List.mem_cons.mp m with rfl | m
    · exact T.x_InvalidDelays.no _ (by decide +kernel)
    cases m) ?_, rfl, rfl⟩
  show [List.lookup ("value" : Str) (exF ["value"] "InvalidDelays" [x])] = _
  rw [l0]
  rfl
theorem row_9 (T : Txt K mg) (x y z : V) : RowF T x y z 9 T.x_InvalidPeriod.C (exF ["value"] "InvalidPeriod" [x]) "InvalidPeriod" := by
  have l0 : List.lookup ("value" : Str) (exF ["value"] "InvalidPeriod" [x]) = some x := (lk_ne (by decide +kernel)).trans (List.lookup_cons_self)
  refine ⟨rfl, T.x_InvalidPeriod.xf, T.x_InvalidPeriod.no "code" (by decide +kernel), List.lookup_cons_self, rfl, fok_mk (l := ["value"]) (by decide +kernel) (fun f m => by
    rcases List.mem_cons.mp m with rfl | m
    · exact T.x_InvalidPeriod.no _ (by decide +kernel)
    cases m) ?_, rfl, rfl⟩
  show [List.lookup ("value" : Str) (exF ["value"] "InvalidPeriod" [x])] = _
  rw [l0]
  rfl
theorem row_10 (T : Txt K mg) (x y z : V) : RowF T x y z 10 T.x_InvalidHeights.C (exF ["value"] "InvalidHeights" [x]) "InvalidHeights" := by
  have l0 : List.lookup ("value" : Str) (exF ["value"] "InvalidHeights" [x]) = some x := (lk_ne (by decide +kernel)).trans (List.lookup_cons_self)
  refine ⟨rfl, T.x_InvalidHeights.xf, T.x_InvalidHeights.no "code" (by decide +kernel), List.lookup_cons_self, rfl, fok_mk (l := ["value"]) (by decide +kernel) (fun f m => by
    rcases List.mem_cons.mp m with rfl | m
    · exact T.x_InvalidHeights.no _ (by decide +kernel)
    cases m) ?_, rfl, rfl⟩
  show [List.lookup ("value" : Str) (exF ["value"] "InvalidHeights" [x])] = _
  rw [l0]
  rfl
theorem row_11 (T : Txt K mg) (x y z : V) : RowF T x y z 11 T.x_InvalidDeed.C (exF ["value"] "InvalidDeed" [x]) "InvalidDeed" := by
  have l0 : List.lookup ("value" : Str) (exF ["value"] "InvalidDeed" [x]) = some x := (lk_ne (by decide +kernel)).trans (List.lookup_cons_self)
  refine ⟨rfl, T.x_InvalidDeed.xf, T.x_InvalidDeed.no "code" (by decide +kernel), List.lookup_cons_self, rfl, fok_mk (l := ["value"]) (by decide +kernel) (fun f m => by
    rcases List.mem_cons.mp m with rfl | m
    · exact T.x_InvalidDeed.no _ (by decide +kernel)
    cases m) ?_, rfl, rfl⟩
  show [List.lookup ("value" : Str) (exF ["value"] "InvalidDeed" [x])] = _
  rw [l0]
  rfl
theorem row_12 (T : Txt K mg) (x y z : V) : RowF T x y z 12 T.x_InvalidTurn.C (exF ["at"] "InvalidTurn" [x]) "InvalidTurn" := by
  have l0 : List.lookup ("at" : Str) (exF ["at"] "InvalidTurn" [x]) = some x := (lk_ne (by decide +kernel)).trans (List.lookup_cons_self)
  refine ⟨rfl, T.x_InvalidTurn.xf, T.x_InvalidTurn.no "code" (by decide +kernel), List.lookup_cons_self, rfl, fok_mk (l := ["at"]) (by decide +kernel) (fun f m => by
    rcases List.mem_cons.mp m with rfl | m
    · exact T.x_InvalidTurn.no _ (by decide +kernel)
    cases m) ?_, rfl, rfl⟩
  show [List.lookup ("at" : Str) (exF ["at"] "InvalidTurn" [x])] = _
  rw [l0]
  rfl
theorem row_13 (T : Txt K mg) (x y z : V) : RowF T x y z 13 T.x_InvalidWait.C (exF ["at"] "InvalidWait" [x]) "InvalidWait" := by
  have l0 : List.lookup ("at" : Str) (exF ["at"] "InvalidWait" [x]) = some x := (lk_ne (by decide +kernel)).trans (List.lookup_cons_self)
  refine ⟨rfl, T.x_InvalidWait.xf, T.x_InvalidWait.no "code" (by decide +kernel), List.lookup_cons_self, rfl, fok_mk (l := ["at"]) (by decide +kernel) (fun f m => by
    rcases List.mem_cons.mp m with rfl | m
    · exact T.x_InvalidWait.no _ (by decide +kernel)
    cases m) ?_, rfl, rfl⟩
  show [List.lookup ("at" : Str) (exF ["at"] "InvalidWait" [x])] = _
  rw [l0]
  rfl
theorem row_14 (T : Txt K mg) (x y z : V) : RowF T x y z 14 T.x_InvalidWish.C (exF ["at"] "InvalidWish" [x]) "InvalidWish" := by
  have l0 : List.lookup ("at" : Str) (exF ["at"] "InvalidWish" [x]) = some x := (lk_ne (by decide +kernel)).trans (List.lookup_cons_self)
  refine ⟨rfl, T.x_InvalidWish.xf, T.x_InvalidWish.no "code" (by decide +kernel), List.lookup_cons_self, rfl, fok_mk (l := ["at"]) (by decide +kernel) (fun f m => by
    rcases List.mem_cons.mp m with rfl | m
    · exact T.x_InvalidWish.no _ (by decide +kernel)
    cases m) ?_, rfl, rfl⟩
  show [List.lookup ("at" : Str) (exF ["at"] "InvalidWish" [x])] = _
  rw [l0]
  rfl
theorem row_15 (T : Txt K mg) (x y z : V) : RowF T x y z 15 T.x_InvalidJourney.C (exF ["at"] "InvalidJourney" [x]) "InvalidJourney" := by
  have l0 : List.lookup ("at" : Str) (exF ["at"] "InvalidJourney" [x]) = some x := (lk_ne (by decide +kernel)).trans (List.lookup_cons_self)
  refine ⟨rfl, T.x_InvalidJourney.xf, T.x_InvalidJourney.no "code" (by decide +kernel), List.lookup_cons_self, rfl, fok_mk (l := ["at"]) (by decide +kernel) (fun f m => by
    rcases List.mem_cons.mp m with rfl | m
    · exact T.x_InvalidJourney.no _ (by decide +kernel)
    cases m) ?_, rfl, rfl⟩
  show [List.lookup ("at" : Str) (exF ["at"] "InvalidJourney" [x])] = _
  rw [l0]
  rfl
theorem row_16 (T : Txt K mg) (x y z : V) : RowF T x y z 16 T.x_InvalidText.C (exF ["line"] "InvalidText" [x]) "InvalidText" := by
  have l0 : List.lookup ("line" : Str) (exF ["line"] "InvalidText" [x]) = some x := (lk_ne (by decide +kernel)).trans (List.lookup_cons_self)
  refine ⟨rfl, T.x_InvalidText.xf, T.x_InvalidText.no "code" (by decide +kernel), List.lookup_cons_self, rfl, fok_mk (l := ["line"]) (by decide +kernel) (fun f m => by
    rcases List.mem_cons.mp m with rfl | m
    · exact T.x_InvalidText.no _ (by decide +kernel)
    cases m) ?_, rfl, rfl⟩
  show [List.lookup ("line" : Str) (exF ["line"] "InvalidText" [x])] = _
  rw [l0]
  rfl
theorem row_17 (T : Txt K mg) (x y z : V) : RowF T x y z 17 T.x_DuplicateName.C (exF ["name"] "DuplicateName" [x]) "DuplicateName" := by
  have l0 : List.lookup ("name" : Str) (exF ["name"] "DuplicateName" [x]) = some x := (lk_ne (by decide +kernel)).trans (List.lookup_cons_self)
  refine ⟨rfl, T.x_DuplicateName.xf, T.x_DuplicateName.no "code" (by decide +kernel), List.lookup_cons_self, rfl, fok_mk (l := ["name"]) (by decide +kernel) (fun f m => by
    rcases List.mem_cons.mp m with rfl | m
    · exact T.x_DuplicateName.no _ (by decide +kernel)
    cases m) ?_, rfl, rfl⟩
  show [List.lookup ("name" : Str) (exF ["name"] "DuplicateName" [x])] = _
  rw [l0]
  rfl
theorem row_18 (T : Txt K mg) (x y z : V) : RowF T x y z 18 T.x_InUse.C (exF ["name"] "InUse" [x]) "InUse" := by
  have l0 : List.lookup ("name" : Str) (exF ["name"] "InUse" [x]) = some x := (lk_ne (by decide +kernel)).trans (List.lookup_cons_self)
  refine ⟨rfl, T.x_InUse.xf, T.x_InUse.no "code" (by decide +kernel), List.lookup_cons_self, rfl, fok_mk (l := ["name"]) (by decide +kernel) (fun f m => by
    rcases List.mem_cons.mp m with rfl | m
    · exact T.x_InUse.no _ (by decide +kernel)
    cases m) ?_, rfl, rfl⟩
  show [List.lookup ("name" : Str) (exF ["name"] "InUse" [x])] = _
  rw [l0]
  rfl
theorem row_19 (T : Txt K mg) (x y z : V) : RowF T x y z 19 T.x_TakenEnd.C (exF ["end"] "TakenEnd" [x]) "TakenEnd" := by
  have l0 : List.lookup ("end" : Str) (exF ["end"] "TakenEnd" [x]) = some x := (lk_ne (by decide +kernel)).trans (List.lookup_cons_self)
  refine ⟨rfl, T.x_TakenEnd.xf, T.x_TakenEnd.no "code" (by decide +kernel), List.lookup_cons_self, rfl, fok_mk (l := ["end"]) (by decide +kernel) (fun f m => by
    rcases List.mem_cons.mp m with rfl | m
    · exact T.x_TakenEnd.no _ (by decide +kernel)
    cases m) ?_, rfl, rfl⟩
  show [List.lookup ("end" : Str) (exF ["end"] "TakenEnd" [x])] = _
  rw [l0]
  rfl
theorem row_20 (T : Txt K mg) (x y z : V) : RowF T x y z 20 T.x_LooseEnd.C (exF ["end"] "LooseEnd" [x]) "LooseEnd" := by
  have l0 : List.lookup ("end" : Str) (exF ["end"] "LooseEnd" [x]) = some x := (lk_ne (by decide +kernel)).trans (List.lookup_cons_self)
  refine ⟨rfl, T.x_LooseEnd.xf, T.x_LooseEnd.no "code" (by decide +kernel), List.lookup_cons_self, rfl, fok_mk (l := ["end"]) (by decide +kernel) (fun f m => by
    rcases List.mem_cons.mp m with rfl | m
    · exact T.x_LooseEnd.no _ (by decide +kernel)
    cases m) ?_, rfl, rfl⟩
  show [List.lookup ("end" : Str) (exF ["end"] "LooseEnd" [x])] = _
  rw [l0]
  rfl
theorem row_21 (T : Txt K mg) (x y z : V) : RowF T x y z 21 T.x_TooMany.C (exF ["subject", "most"] "TooMany" [x, y]) "TooMany" := by
  have l0 : List.lookup ("subject" : Str) (exF ["subject", "most"] "TooMany" [x, y]) = some x := (lk_ne (by decide +kernel)).trans ((lk_ne (by decide +kernel)).trans (List.lookup_cons_self))
  have l1 : List.lookup ("most" : Str) (exF ["subject", "most"] "TooMany" [x, y]) = some y := (lk_ne (by decide +kernel)).trans (List.lookup_cons_self)
  refine ⟨rfl, T.x_TooMany.xf, T.x_TooMany.no "code" (by decide +kernel), List.lookup_cons_self, rfl, fok_mk (l := ["subject", "most"]) (by decide +kernel) (fun f m => by
    rcases List.mem_cons.mp m with rfl | m
    · exact T.x_TooMany.no _ (by decide +kernel)
    rcases List.mem_cons.mp m with rfl | m
    · exact T.x_TooMany.no _ (by decide +kernel)
    cases m) ?_, rfl, rfl⟩
  show [List.lookup ("subject" : Str) (exF ["subject", "most"] "TooMany" [x, y]), List.lookup ("most" : Str) (exF ["subject", "most"] "TooMany" [x, y])] = _
  rw [l0, l1]
  rfl
theorem row_22 (T : Txt K mg) (x y z : V) : RowF T x y z 22 T.x_MisplacedStep.C (exF ["train", "step"] "MisplacedStep" [x, y]) "MisplacedStep" := by
  have l0 : List.lookup ("train" : Str) (exF ["train", "step"] "MisplacedStep" [x, y]) = some x := (lk_ne (by decide +kernel)).trans ((lk_ne (by decide +kernel)).trans (List.lookup_cons_self))
  have l1 : List.lookup ("step" : Str) (exF ["train", "step"] "MisplacedStep" [x, y]) = some y := (lk_ne (by decide +kernel)).trans (List.lookup_cons_self)
  refine ⟨rfl, T.x_MisplacedStep.xf, T.x_MisplacedStep.no "code" (by decide +kernel), List.lookup_cons_self, rfl, fok_mk (l := ["train", "step"]) (by decide +kernel) (fun f m => by
    rcases List.mem_cons.mp m with rfl | m
    · exact T.x_MisplacedStep.no _ (by decide +kernel)
    rcases List.mem_cons.mp m with rfl | m
    · exact T.x_MisplacedStep.no _ (by decide +kernel)
    cases m) ?_, rfl, rfl⟩
  show [List.lookup ("train" : Str) (exF ["train", "step"] "MisplacedStep" [x, y]), List.lookup ("step" : Str) (exF ["train", "step"] "MisplacedStep" [x, y])] = _
  rw [l0, l1]
  rfl
theorem row_23 (T : Txt K mg) (x y z : V) : RowF T x y z 23 T.x_OwnRing.C (exF ["train", "step", "element"] "OwnRing" [x, y, z]) "OwnRing" := by
  have l0 : List.lookup ("train" : Str) (exF ["train", "step", "element"] "OwnRing" [x, y, z]) = some x := (lk_ne (by decide +kernel)).trans ((lk_ne (by decide +kernel)).trans ((lk_ne (by decide +kernel)).trans (List.lookup_cons_self)))
  have l1 : List.lookup ("step" : Str) (exF ["train", "step", "element"] "OwnRing" [x, y, z]) = some y := (lk_ne (by decide +kernel)).trans ((lk_ne (by decide +kernel)).trans (List.lookup_cons_self))
  have l2 : List.lookup ("element" : Str) (exF ["train", "step", "element"] "OwnRing" [x, y, z]) = some z := (lk_ne (by decide +kernel)).trans (List.lookup_cons_self)
  refine ⟨rfl, T.x_OwnRing.xf, T.x_OwnRing.no "code" (by decide +kernel), List.lookup_cons_self, rfl, fok_mk (l := ["train", "step", "element"]) (by decide +kernel) (fun f m => by
    rcases List.mem_cons.mp m with rfl | m
    · exact T.x_OwnRing.no _ (by decide +kernel)
    rcases List.mem_cons.mp m with rfl | m
    · exact T.x_OwnRing.no _ (by decide +kernel)
    rcases List.mem_cons.mp m with rfl | m
    · exact T.x_OwnRing.no _ (by decide +kernel)
    cases m) ?_, rfl, rfl⟩
  show [List.lookup ("train" : Str) (exF ["train", "step", "element"] "OwnRing" [x, y, z]), List.lookup ("step" : Str) (exF ["train", "step", "element"] "OwnRing" [x, y, z]), List.lookup ("element" : Str) (exF ["train", "step", "element"] "OwnRing" [x, y, z])] = _
  rw [l0, l1, l2]
  rfl
theorem row_24 (T : Txt K mg) (x y z : V) : RowF T x y z 24 T.x_Refused.C (exF ["train", "element", "holder"] "Refused" [x, y, z]) "Refused" := by
  have l0 : List.lookup ("train" : Str) (exF ["train", "element", "holder"] "Refused" [x, y, z]) = some x := (lk_ne (by decide +kernel)).trans ((lk_ne (by decide +kernel)).trans ((lk_ne (by decide +kernel)).trans (List.lookup_cons_self)))
  have l1 : List.lookup ("element" : Str) (exF ["train", "element", "holder"] "Refused" [x, y, z]) = some y := (lk_ne (by decide +kernel)).trans ((lk_ne (by decide +kernel)).trans (List.lookup_cons_self))
  have l2 : List.lookup ("holder" : Str) (exF ["train", "element", "holder"] "Refused" [x, y, z]) = some z := (lk_ne (by decide +kernel)).trans (List.lookup_cons_self)
  refine ⟨rfl, T.x_Refused.xf, T.x_Refused.no "code" (by decide +kernel), List.lookup_cons_self, rfl, fok_mk (l := ["train", "element", "holder"]) (by decide +kernel) (fun f m => by
    rcases List.mem_cons.mp m with rfl | m
    · exact T.x_Refused.no _ (by decide +kernel)
    rcases List.mem_cons.mp m with rfl | m
    · exact T.x_Refused.no _ (by decide +kernel)
    rcases List.mem_cons.mp m with rfl | m
    · exact T.x_Refused.no _ (by decide +kernel)
    cases m) ?_, rfl, rfl⟩
  show [List.lookup ("train" : Str) (exF ["train", "element", "holder"] "Refused" [x, y, z]), List.lookup ("element" : Str) (exF ["train", "element", "holder"] "Refused" [x, y, z]), List.lookup ("holder" : Str) (exF ["train", "element", "holder"] "Refused" [x, y, z])] = _
  rw [l0, l1, l2]
  rfl
theorem row_25 (T : Txt K mg) (x y z : V) : RowF T x y z 25 T.x_Lacking.C (exF ["train", "other"] "Lacking" [x, y]) "Lacking" := by
  have l0 : List.lookup ("train" : Str) (exF ["train", "other"] "Lacking" [x, y]) = some x := (lk_ne (by decide +kernel)).trans ((lk_ne (by decide +kernel)).trans (List.lookup_cons_self))
  have l1 : List.lookup ("other" : Str) (exF ["train", "other"] "Lacking" [x, y]) = some y := (lk_ne (by decide +kernel)).trans (List.lookup_cons_self)
  refine ⟨rfl, T.x_Lacking.xf, T.x_Lacking.no "code" (by decide +kernel), List.lookup_cons_self, rfl, fok_mk (l := ["train", "other"]) (by decide +kernel) (fun f m => by
    rcases List.mem_cons.mp m with rfl | m
    · exact T.x_Lacking.no _ (by decide +kernel)
    rcases List.mem_cons.mp m with rfl | m
    · exact T.x_Lacking.no _ (by decide +kernel)
    cases m) ?_, rfl, rfl⟩
  show [List.lookup ("train" : Str) (exF ["train", "other"] "Lacking" [x, y]), List.lookup ("other" : Str) (exF ["train", "other"] "Lacking" [x, y])] = _
  rw [l0, l1]
  rfl
theorem row_26 (T : Txt K mg) (x y z : V) : RowF T x y z 26 T.x_Unready.C (exF ["train"] "Unready" [x]) "Unready" := by
  have l0 : List.lookup ("train" : Str) (exF ["train"] "Unready" [x]) = some x := (lk_ne (by decide +kernel)).trans (List.lookup_cons_self)
  refine ⟨rfl, T.x_Unready.xf, T.x_Unready.no "code" (by decide +kernel), List.lookup_cons_self, rfl, fok_mk (l := ["train"]) (by decide +kernel) (fun f m => by
    rcases List.mem_cons.mp m with rfl | m
    · exact T.x_Unready.no _ (by decide +kernel)
    cases m) ?_, rfl, rfl⟩
  show [List.lookup ("train" : Str) (exF ["train"] "Unready" [x])] = _
  rw [l0]
  rfl
theorem row_27 (T : Txt K mg) (x y z : V) : RowF T x y z 27 T.x_Finished.C (exF ["train"] "Finished" [x]) "Finished" := by
  have l0 : List.lookup ("train" : Str) (exF ["train"] "Finished" [x]) = some x := (lk_ne (by decide +kernel)).trans (List.lookup_cons_self)
  refine ⟨rfl, T.x_Finished.xf, T.x_Finished.no "code" (by decide +kernel), List.lookup_cons_self, rfl, fok_mk (l := ["train"]) (by decide +kernel) (fun f m => by
    rcases List.mem_cons.mp m with rfl | m
    · exact T.x_Finished.no _ (by decide +kernel)
    cases m) ?_, rfl, rfl⟩
  show [List.lookup ("train" : Str) (exF ["train"] "Finished" [x])] = _
  rw [l0]
  rfl
theorem row_28 (T : Txt K mg) (x y z : V) : RowF T x y z 28 T.x_Barred.C (exF ["train", "step"] "Barred" [x, y]) "Barred" := by
  have l0 : List.lookup ("train" : Str) (exF ["train", "step"] "Barred" [x, y]) = some x := (lk_ne (by decide +kernel)).trans ((lk_ne (by decide +kernel)).trans (List.lookup_cons_self))
  have l1 : List.lookup ("step" : Str) (exF ["train", "step"] "Barred" [x, y]) = some y := (lk_ne (by decide +kernel)).trans (List.lookup_cons_self)
  refine ⟨rfl, T.x_Barred.xf, T.x_Barred.no "code" (by decide +kernel), List.lookup_cons_self, rfl, fok_mk (l := ["train", "step"]) (by decide +kernel) (fun f m => by
    rcases List.mem_cons.mp m with rfl | m
    · exact T.x_Barred.no _ (by decide +kernel)
    rcases List.mem_cons.mp m with rfl | m
    · exact T.x_Barred.no _ (by decide +kernel)
    cases m) ?_, rfl, rfl⟩
  show [List.lookup ("train" : Str) (exF ["train", "step"] "Barred" [x, y]), List.lookup ("step" : Str) (exF ["train", "step"] "Barred" [x, y])] = _
  rw [l0, l1]
  rfl
theorem row_29 (T : Txt K mg) (x y z : V) : RowF T x y z 29 T.x_NoDay.C (exF [] "NoDay" []) "NoDay" := by
  refine ⟨rfl, T.x_NoDay.xf, T.x_NoDay.no "code" (by decide +kernel), List.lookup_cons_self, rfl, fok_mk (l := []) (by decide +kernel) (fun f m => nomatch m) ?_, rfl, rfl⟩
  rfl
theorem row_30 (T : Txt K mg) (x y z : V) : RowF T x y z 30 T.x_Doomed.C (exF [] "Doomed" []) "Doomed" := by
  refine ⟨rfl, T.x_Doomed.xf, T.x_Doomed.no "code" (by decide +kernel), List.lookup_cons_self, rfl, fok_mk (l := []) (by decide +kernel) (fun f m => nomatch m) ?_, rfl, rfl⟩
  rfl
theorem row_31 (T : Txt K mg) (x y z : V) : RowF T x y z 31 T.x_NeverCleared.C (exF ["train", "step", "element"] "NeverCleared" [x, y, z]) "NeverCleared" := by
  have l0 : List.lookup ("train" : Str) (exF ["train", "step", "element"] "NeverCleared" [x, y, z]) = some x := (lk_ne (by decide +kernel)).trans ((lk_ne (by decide +kernel)).trans ((lk_ne (by decide +kernel)).trans (List.lookup_cons_self)))
  have l1 : List.lookup ("step" : Str) (exF ["train", "step", "element"] "NeverCleared" [x, y, z]) = some y := (lk_ne (by decide +kernel)).trans ((lk_ne (by decide +kernel)).trans (List.lookup_cons_self))
  have l2 : List.lookup ("element" : Str) (exF ["train", "step", "element"] "NeverCleared" [x, y, z]) = some z := (lk_ne (by decide +kernel)).trans (List.lookup_cons_self)
  refine ⟨rfl, T.x_NeverCleared.xf, T.x_NeverCleared.no "code" (by decide +kernel), List.lookup_cons_self, rfl, fok_mk (l := ["train", "step", "element"]) (by decide +kernel) (fun f m => by
    rcases List.mem_cons.mp m with rfl | m
    · exact T.x_NeverCleared.no _ (by decide +kernel)
    rcases List.mem_cons.mp m with rfl | m
    · exact T.x_NeverCleared.no _ (by decide +kernel)
    rcases List.mem_cons.mp m with rfl | m
    · exact T.x_NeverCleared.no _ (by decide +kernel)
    cases m) ?_, rfl, rfl⟩
  show [List.lookup ("train" : Str) (exF ["train", "step", "element"] "NeverCleared" [x, y, z]), List.lookup ("step" : Str) (exF ["train", "step", "element"] "NeverCleared" [x, y, z]), List.lookup ("element" : Str) (exF ["train", "step", "element"] "NeverCleared" [x, y, z])] = _
  rw [l0, l1, l2]
  rfl
theorem row_32 (T : Txt K mg) (x y z : V) : RowF T x y z 32 T.x_NoPeriod.C (exF [] "NoPeriod" []) "NoPeriod" := by
  refine ⟨rfl, T.x_NoPeriod.xf, T.x_NoPeriod.no "code" (by decide +kernel), List.lookup_cons_self, rfl, fok_mk (l := []) (by decide +kernel) (fun f m => nomatch m) ?_, rfl, rfl⟩
  rfl
theorem row_33 (T : Txt K mg) (x y z : V) : RowF T x y z 33 T.x_TooShort.C (exF ["period"] "TooShort" [x]) "TooShort" := by
  have l0 : List.lookup ("period" : Str) (exF ["period"] "TooShort" [x]) = some x := (lk_ne (by decide +kernel)).trans (List.lookup_cons_self)
  refine ⟨rfl, T.x_TooShort.xf, T.x_TooShort.no "code" (by decide +kernel), List.lookup_cons_self, rfl, fok_mk (l := ["period"]) (by decide +kernel) (fun f m => by
    rcases List.mem_cons.mp m with rfl | m
    · exact T.x_TooShort.no _ (by decide +kernel)
    cases m) ?_, rfl, rfl⟩
  show [List.lookup ("period" : Str) (exF ["period"] "TooShort" [x])] = _
  rw [l0]
  rfl
theorem row_34 (T : Txt K mg) (x y z : V) : RowF T x y z 34 T.x_UnknownName.C (exF ["name"] "UnknownName" [x]) "UnknownName" := by
  have l0 : List.lookup ("name" : Str) (exF ["name"] "UnknownName" [x]) = some x := (lk_ne (by decide +kernel)).trans (List.lookup_cons_self)
  refine ⟨rfl, T.x_UnknownName.xf, T.x_UnknownName.no "code" (by decide +kernel), List.lookup_cons_self, rfl, fok_mk (l := ["name"]) (by decide +kernel) (fun f m => by
    rcases List.mem_cons.mp m with rfl | m
    · exact T.x_UnknownName.no _ (by decide +kernel)
    cases m) ?_, rfl, rfl⟩
  show [List.lookup ("name" : Str) (exF ["name"] "UnknownName" [x])] = _
  rw [l0]
  rfl
theorem row_35 (T : Txt K mg) (x y z : V) : RowF T x y z 35 T.x_UnknownEnd.C (exF ["end"] "UnknownEnd" [x]) "UnknownEnd" := by
  have l0 : List.lookup ("end" : Str) (exF ["end"] "UnknownEnd" [x]) = some x := (lk_ne (by decide +kernel)).trans (List.lookup_cons_self)
  refine ⟨rfl, T.x_UnknownEnd.xf, T.x_UnknownEnd.no "code" (by decide +kernel), List.lookup_cons_self, rfl, fok_mk (l := ["end"]) (by decide +kernel) (fun f m => by
    rcases List.mem_cons.mp m with rfl | m
    · exact T.x_UnknownEnd.no _ (by decide +kernel)
    cases m) ?_, rfl, rfl⟩
  show [List.lookup ("end" : Str) (exF ["end"] "UnknownEnd" [x])] = _
  rw [l0]
  rfl
theorem row_36 (T : Txt K mg) (x y z : V) : RowF T x y z 36 T.x_UnknownEntry.C (exF ["entry"] "UnknownEntry" [x]) "UnknownEntry" := by
  have l0 : List.lookup ("entry" : Str) (exF ["entry"] "UnknownEntry" [x]) = some x := (lk_ne (by decide +kernel)).trans (List.lookup_cons_self)
  refine ⟨rfl, T.x_UnknownEntry.xf, T.x_UnknownEntry.no "code" (by decide +kernel), List.lookup_cons_self, rfl, fok_mk (l := ["entry"]) (by decide +kernel) (fun f m => by
    rcases List.mem_cons.mp m with rfl | m
    · exact T.x_UnknownEntry.no _ (by decide +kernel)
    cases m) ?_, rfl, rfl⟩
  show [List.lookup ("entry" : Str) (exF ["entry"] "UnknownEntry" [x])] = _
  rw [l0]
  rfl
theorem row_37 (T : Txt K mg) (x y z : V) : RowF T x y z 37 T.x_NothingLeft.C (exF [] "NothingLeft" []) "NothingLeft" := by
  refine ⟨rfl, T.x_NothingLeft.xf, T.x_NothingLeft.no "code" (by decide +kernel), List.lookup_cons_self, rfl, fok_mk (l := []) (by decide +kernel) (fun f m => nomatch m) ?_, rfl, rfl⟩
  rfl
theorem row_of (T : Txt K mg) (x y z : V) (k : Nat) (h : k < 38) : ∃ C fs code, RowF T x y z k C fs code :=
  match k, h with
  | 0, _ => ⟨_, _, _, row_0 T x y z⟩
  | 1, _ => ⟨_, _, _, row_1 T x y z⟩
  | 2, _ => ⟨_, _, _, row_2 T x y z⟩
  | 3, _ => ⟨_, _, _, row_3 T x y z⟩
  | 4, _ => ⟨_, _, _, row_4 T x y z⟩
  | 5, _ => ⟨_, _, _, row_5 T x y z⟩
  | 6, _ => ⟨_, _, _, row_6 T x y z⟩
  | 7, _ => ⟨_, _, _, row_7 T x y z⟩
  | 8, _ => ⟨_, _, _, row_8 T x y z⟩
  | 9, _ => ⟨_, _, _, row_9 T x y z⟩
  | 10, _ => ⟨_, _, _, row_10 T x y z⟩
  | 11, _ => ⟨_, _, _, row_11 T x y z⟩
  | 12, _ => ⟨_, _, _, row_12 T x y z⟩
  | 13, _ => ⟨_, _, _, row_13 T x y z⟩
  | 14, _ => ⟨_, _, _, row_14 T x y z⟩
  | 15, _ => ⟨_, _, _, row_15 T x y z⟩
  | 16, _ => ⟨_, _, _, row_16 T x y z⟩
  | 17, _ => ⟨_, _, _, row_17 T x y z⟩
  | 18, _ => ⟨_, _, _, row_18 T x y z⟩
  | 19, _ => ⟨_, _, _, row_19 T x y z⟩
  | 20, _ => ⟨_, _, _, row_20 T x y z⟩
  | 21, _ => ⟨_, _, _, row_21 T x y z⟩
  | 22, _ => ⟨_, _, _, row_22 T x y z⟩
  | 23, _ => ⟨_, _, _, row_23 T x y z⟩
  | 24, _ => ⟨_, _, _, row_24 T x y z⟩
  | 25, _ => ⟨_, _, _, row_25 T x y z⟩
  | 26, _ => ⟨_, _, _, row_26 T x y z⟩
  | 27, _ => ⟨_, _, _, row_27 T x y z⟩
  | 28, _ => ⟨_, _, _, row_28 T x y z⟩
  | 29, _ => ⟨_, _, _, row_29 T x y z⟩
  | 30, _ => ⟨_, _, _, row_30 T x y z⟩
  | 31, _ => ⟨_, _, _, row_31 T x y z⟩
  | 32, _ => ⟨_, _, _, row_32 T x y z⟩
  | 33, _ => ⟨_, _, _, row_33 T x y z⟩
  | 34, _ => ⟨_, _, _, row_34 T x y z⟩
  | 35, _ => ⟨_, _, _, row_35 T x y z⟩
  | 36, _ => ⟨_, _, _, row_36 T x y z⟩
  | 37, _ => ⟨_, _, _, row_37 T x y z⟩
  | n + 38, h => absurd h (by omega)
end
end Rd
set_option maxHeartbeats 4000000
namespace Rd
open PySem PySem.Spec PyProof.Rows L2
open C8 (pss_cut tCut)
/-! ## the law -/
section
variable {b : Addr} {σ : L2.St} {H0 H : Hp} {te ta tb tl tc : TE} {tr : TA} {s s' : Sh} {ss : List Sh} {K : PySem.W.Frag} {D : Ends} {t1 t2 tbd : TS} {mg : Str → Option Value}
theorem e_by {T : Txt K mg} {x y z : V} (h : EvN b tr σ H0 [.c x, .c y, .c z]) : Ev1 b (tCall (spBy T) [] E0 tr) σ H0 (.l (rowsSh T x y z)) :=
  e_call h fun vs H g i Q q => by
    obtain ⟨u, v, w, rfl, i1, i2, i3⟩ := is3 i
    rw [show u = _ from i1, show v = _ from i2, show w = _ from i3]
    exact ⟨b, x, y, z, rfl, g.1, q⟩
theorem e_codesC : Ev1 b (tCall spCodes [] E0 tNil) σ H0 (.l codesSh) := fun H g Q q => ⟨b, rfl, g.1, q⟩
theorem e_lt {i j : Int} (h : Ev1 b ta σ H0 (.c (.int i))) (k : Ev1 b tb σ H0 (.c (.int j))) : Ev1 b (tOp (rI0 fun i j => .bl (decide (i < j))) ta tb) σ H0 (.c (.bl (decide (i < j)))) := fun H g Q q =>
  h H g _ fun v H1 g1 i1 => k H1 (g.trans g1) _ fun w H2 g2 i2 => ⟨i, j, i1, i2, q _ H2 (g1.trans g2) rfl⟩
theorem e_geI {i j : Int} (h : Ev1 b ta σ H0 (.c (.int i))) (k : Ev1 b tb σ H0 (.c (.int j))) : Ev1 b (tOp (rI0 fun i j => .bl (decide (j ≤ i))) ta tb) σ H0 (.c (.bl (decide (j ≤ i)))) := fun H g Q q =>
  h H g _ fun v H1 g1 i1 => k H1 (g.trans g1) _ fun w H2 g2 i2 => ⟨i, j, i1, i2, q _ H2 (g1.trans g2) rfl⟩
theorem e_eqI {i j : Int} (h : Ev1 b ta σ H0 (.c (.int i))) (k : Ev1 b tb σ H0 (.c (.int j))) : Ev1 b (tOp rEq ta tb) σ H0 (.c (.bl (decide (V.int i = V.int j)))) := fun H g Q q =>
  h H g _ fun v H1 g1 i1 => k H1 (g.trans g1) _ fun w H2 g2 i2 => by
    rw [show v = _ from i1, show w = _ from i2]
    exact ⟨rfl, q _ H2 (g1.trans g2) rfl⟩
theorem e_neB {p q' : Bool} (h : Ev1 b ta σ H0 (.c (.bl p))) (k : Ev1 b tb σ H0 (.c (.bl q'))) (e : p = q') : Ev1 b (tOp rNe ta tb) σ H0 (.c (.bl false)) := fun H g Q q =>
  h H g _ fun v H1 g1 i1 => k H1 (g.trans g1) _ fun w H2 g2 i2 => by
    rw [show v = _ from i1, show w = _ from i2, e]
    refine ⟨rfl, ?_⟩
    rw [decide_eq_true rfl]
    exact q _ H2 (g1.trans g2) rfl
theorem e_chainL {i j k : Int} (h1 : Ev1 b ta σ H0 (.c (.int i))) (h2 : Ev1 b tb σ H0 (.c (.int j))) (h3 : Ev1 b tc σ H0 (.c (.int k))) :
    Ev1 b (tChain (rI0 fun i j => .bl (decide (i ≤ j))) (rI0 fun i j => .bl (decide (i < j))) ta tb tc) σ H0 (.c (.bl (decide (i ≤ j) && decide (j < k)))) := fun H g Q q =>
  h1 H g _ fun v H1 g1 i1 => h2 H1 (g.trans g1) _ fun w H2 g2 i2 => by
    refine ⟨i, j, i1, i2, _, rfl, ?_⟩
    by_cases e : i ≤ j
    · rw [decide_eq_true e]
      refine iteT (h3 H2 (g.trans (g1.trans g2)) _ fun u H3 g3 i3 => ⟨j, k, i2, i3, ?_⟩)
      exact q _ H3 ((g1.trans g2).trans g3) (by rw [decide_eq_true e]; rfl)
    · rw [decide_eq_false e]
      exact iteF (q _ H2 (g1.trans g2) (by rw [decide_eq_false e]; rfl))
theorem e_fields {C : Addr} {fs : List (Str × V)} {z : Str} {out : List V} (h : EvN b tr σ H0 [.x C fs]) (hF : XF K C) (hn : PySem.W.findIn K (.ref C) "code" = some none) (hc : fs.lookup ("code" : Str) = some (.str z)) (hk : FOk K C fs (fieldsOf z) out) : Ev1 b (tCall (spFields K) [] E0 tr) σ H0 (.t (out.map Sh.c)) :=
  e_call h fun vs H g i Q q => by
    obtain ⟨v, rfl, i1⟩ := is1 i
    exact ⟨b, C, fs, z, out, v, rfl, g.1, i1, hF, hn, hc, hk, q⟩
theorem e_classes {T : Txt K mg} {C : Addr} {fs : List (Str × V)} {k : Nat} (h : EvN b tr σ H0 [.x C fs]) (hF : XF K C) (hk : ∀ (j : Nat) (c : Addr), T.cs[j]? = some c → PySem.W.kitOne K (.ref C) (.ref c) = some (decide (j = k))) : Ev1 b (tCall (spClasses T) [] E0 tr) σ H0 (.l (clsSh k)) :=
  e_call h fun vs H g i Q q => by
    obtain ⟨v, rfl, i1⟩ := is1 i
    exact ⟨b, C, fs, k, v, rfl, g.1, i1, hF, hk, q⟩
theorem e_caught {n : Int} {x : V} (h : EvN b tr σ H0 [.c (.int n), .c x]) : Ev1 b (tCall spCaught [] E0 tr) σ H0 (.c (.str (caughtOf n))) :=
  e_call h fun vs H g i Q q => by
    obtain ⟨u, v, rfl, i1, i2⟩ := is2 i
    rw [show u = _ from i1]
    exact ⟨n, v, rfl, fun H' s => q _ H' (Go.of_same g.1 s) rfl⟩
theorem q_set' {i : Nat} (hB : Bag H b) (h : Ev1 b te σ H s) (q : ∀ v H', Go b H H' → Is b H' s v → t2 D (σ.set i (some v)) H') : tSeq (tAsg te (gName i)) t2 D σ H := h H (.refl hB) _ q
theorem q_tup3 {i j l : Nat} {s1 s2 s3 : Sh} (hB : Bag H b) (h : Ev1 b te σ H (.t [s1, s2, s3])) (q : ∀ x y z H', Go b H H' → Is b H' s1 x → Is b H' s2 y → Is b H' s3 z → t2 D (((σ.set i (some x)).set j (some y)).set l (some z)) H') : tSeq (tAsg te (gTup K 3 (gCons (gName i) (gCons (gName j) (gCons (gName l) gNil))))) t2 D σ H :=
  h H (.refl hB) _ fun u H6 g6 i6 => by
    obtain ⟨p, xs, rfl, np, o, r⟩ := i6
    obtain ⟨x, y, z, rfl, r1, r2, r3⟩ := is3 r
    exact ⟨p, _, rfl, SqT.of o, rfl, x, _, rfl, y, _, rfl, z, _, rfl, rfl, q x y z H6 g6 r1 r2 r3⟩
theorem q_forL {v : Nat} (hB : Bag H b) (h : Ev1 b tl σ H (.l ss)) (R : Nat → L2.St → Prop) (h0 : R 0 σ)
    (step : ∀ i s x σ' H', ss[i]? = some s → Go b H H' → Is b H' s x → R i σ' → ∀ N : L2.St → Hp → Prop, (∀ σ2 H2, Go b H' H2 → R (i + 1) σ2 → N σ2 H2) → tbd { D with nx := N, ct := N, bk := t2 D } (σ'.set v (some x)) H')
    (done : ∀ σ' H', Go b H H' → R ss.length σ' → t2 D σ' H') : tSeq (tFor (iList K tl) (gName v) tbd) t2 D σ H :=
  h H (.refl hB) _ fun u H6 g6 i6 => by
    obtain ⟨p, xs, rfl, np, o, r⟩ := i6
    refine ⟨p, rfl, ⟨_, SqL.of o⟩, for_list (K := K) (a := p) (xs := xs) (fun i σ' H' => Go b H6 H' ∧ R i σ') ⟨Go.refl g6.1, h0⟩ (fun i σ' H' _ k => SqL.of (k.1.2 _ _ np o)) ?_ ?_⟩
    · rintro i x σ' H' hx ⟨g', k⟩
      obtain ⟨s, hs, is⟩ := r.at hx
      exact step i s x σ' H' hs (g6.trans g') (is.go g') k _ fun σ2 H2 g2 k2 => ⟨g'.trans g2, k2⟩
    · rintro σ' H' ⟨g', k⟩
      exact done σ' H' (g6.trans g') (by rw [← r.length]; exact k)
theorem q_forR {v n : Nat} (hB : Bag H b) (h : Ev1 b te σ H (.c (.int (n : Nat)))) (hn : n ≤ 1000) (R : Nat → L2.St → Prop) (h0 : R 0 σ)
    (step : ∀ i σ' H', i < n → Go b H H' → R i σ' → ∀ N : L2.St → Hp → Prop, (∀ σ2 H2, Go b H' H2 → R (i + 1) σ2 → N σ2 H2) → tbd { D with nx := N, ct := N, bk := D.nx } (σ'.set v (some (.int (i : Nat)))) H')
    (done : ∀ σ' H', Go b H H' → R n σ' → D.nx σ' H') : tFor (iRng1 (tCons te tNil)) (gName v) tbd D σ H :=
  h H (.refl hB) _ fun u H6 g6 i6 => by
    rw [show u = _ from i6]
    refine ⟨n, rfl, by omega, by omega, for_range (n := (n : Int).toNat) (fun i σ' H' => Go b H6 H' ∧ R i σ') ⟨Go.refl g6.1, h0⟩ ?_ ?_⟩
    · rintro i σ' H' hi ⟨g', k⟩
      show tbd _ (σ'.set v (some (.int (0 + (i : Int))))) H'
      rw [Int.zero_add]
      exact step i σ' H' (by omega) (g6.trans g') k _ fun σ2 H2 g2 k2 => ⟨g'.trans g2, k2⟩
    · rintro σ' H' ⟨g', k⟩
      rw [Int.toNat_natCast] at k
      exact done σ' H' (g6.trans g') k
end
def codeV (i : Nat) : V := match codesSh[i]? with
  | some (.c v) => v
  | _ => .non
theorem el_code {K : PySem.W.Frag} {mg : Str → Option Value} (T : Txt K mg) {b : Addr} {x y z xv : V} {i : Nat} {s : Sh} {σ : L2.St} {H : Hp} (hs : (rowsSh T x y z)[i]? = some s) (h8 : σ[8]? = some (some xv)) (hB : Bag H b) (is : Is b H s xv) : Ev1 b (tGf K "code" (tVar 8)) σ H (.c (codeV i)) := by
  have hi : i < 38 := (List.getElem?_eq_some_iff.mp hs).1
  obtain ⟨C, fs, code, F⟩ := row_of T x y z i hi
  cases F.sh.symm.trans hs
  have e : codeV i = .str code := by unfold codeV; rw [F.cd]
  rw [e]
  exact e_gf (e_var h8 is) F.xf F.no F.lk
theorem eqv_row {K : PySem.W.Frag} {b : Addr} {H : Hp} {out : List V} {v w : V} {n : Nat} (hE : ∀ u, u ∈ out → Eqv K H n u u) (l : out.length ≤ 1000) (i : Is b H (.t (out.map Sh.c)) v) (j : Is b H (.t (out.map Sh.c)) w) : Eqv K H (n + 1) v w := by
  obtain ⟨p, vs, rfl, _, o1, r1⟩ := i
  obtain ⟨q, ws, rfl, _, o2, r2⟩ := j
  have l1 := r1.length
  have l2 := r2.length
  have l3 : (out.map Sh.c).length = out.length := List.length_map _
  refine .inr ⟨p, q, vs, ws, rfl, rfl, .inr ⟨SqT.of o1, SqT.of o2⟩, by omega, by omega, fun i x y h1 h2 => ?_⟩
  obtain ⟨s, e1, i1⟩ := r1.at h1
  obtain ⟨s', e2, i2⟩ := r2.at h2
  cases e1.symm.trans e2
  rw [List.getElem?_map] at e1
  cases eu : out[i]? with
  | none => rw [eu] at e1; cases e1
  | some u =>
    rw [eu] at e1
    cases e1
    rw [show x = u from i1, show y = u from i2]
    exact hE u (List.mem_of_getElem? eu)
theorem wid3 : ∀ k, k < 38 → wid k ≤ 3 := by decide +kernel
def someSh : List Sh := [.c .non, .c (.bl true), .c (.int 0), .c (.int (-1)), .c (.int (10 ^ Int.toNat 9)), .c (.str ""), .c (.str "abc"), .t [], .l [.c (.str "a")], .t [.c (.str "a"), .c (.int 2)], .l [.t [.c (.str "a"), .c (.int 0)]], .c (.str "west.s.1")]
theorem eqv_some {K : PySem.W.Frag} {b : Addr} {H H' : Hp} {v : V} (h : Is b H (.o someSh) v) (g : Go b H H') : Eqv K H' 3 v v := by
  obtain ⟨s, m, k⟩ := IsOne.mem h
  exact eqv_det (List.all_eq_true.mp (show someSh.all (det 3) = true from rfl) s m) (k.go g) (k.go g)
def eqSh (k : Nat) : List Sh := (List.range 38).map fun j => .c (.bl (decide (V.int (0 + (j : Nat)) = V.int (k : Nat))))
theorem eq38 : ∀ k, k < 38 → eqOk (dataOf (clsSh k)) (dataOf (eqSh k)) = true := by decide +kernel
def fndSh (k : Nat) : List Sh := [.c (.bl (decide (k < 34))), .c (.bl (decide (k < 34))), .c (.bl (decide (34 ≤ k) && decide (k < 37))), .c (.bl (decide (34 ≤ k)))]
def fnd2Sh (k : Nat) : List Sh := [.c (.bl (decide ((k : Int) < 34))), .c (.bl (decide ((k : Int) < 34))), .c (.bl (decide ((34 : Int) ≤ k) && decide ((k : Int) < 37))), .c (.bl (decide ((34 : Int) ≤ k)))]
theorem fnd38 : ∀ k, k < 38 → eqOk (dataOf (fndSh k)) (dataOf (fnd2Sh k)) = true := by decide +kernel
theorem idx38 : ∀ k, k < 38 → decide (k = 37) = decide (V.int (k : Nat) = V.int 37) := by decide +kernel
local macro_rules | `(tactic| walk_at "ev") => `(tactic| repeat' (first
  | ((with_reducible show EvN _ tNil _ _ _); exact n_nil)
  | ((with_reducible show EvN _ (tCons _ _) _ _ _); apply n_cons)
  | ((with_reducible show Ev1 _ (tVar _) _ _ _); (apply e_var rfl; first | assumption | exact is_c | exact rfl))
  | ((with_reducible show Ev1 _ (tC _) _ _ _); (exact e_c))
  | ((with_reducible show Ev1 _ (tLst _) _ _ _); (apply e_lst))
  | ((with_reducible show Ev1 _ (tTup _) _ _ _); (apply e_tup))
  | ((with_reducible show Ev1 _ (tMkV _ _ _) _ _ _); (apply e_mkV))
  | ((with_reducible show Ev1 _ (tMkK _ _ _ _ _) _ _ _); (apply e_mkK))
  | ((with_reducible show Ev1 _ (tOp _ _ _) _ _ _); (first | with_reducible apply e_cat | with_reducible apply e_rep | with_reducible apply e_pow | with_reducible apply e_ix | with_reducible apply e_lt | with_reducible apply e_geI | with_reducible apply e_eqI | with_reducible apply e_inC | with_reducible apply e_eqC))
  | ((with_reducible show Ev1 _ (tCB _ _) _ _ _); (first | with_reducible apply e_isX | with_reducible apply e_isT))
  | ((with_reducible show Ev1 _ (tUn _ _) _ _ _); (apply e_neg))
  | ((with_reducible show Ev1 _ (tCall _ _ _ _) _ _ _); (first | with_reducible apply e_by | with_reducible apply e_codesC | with_reducible apply e_ofL))
  | ((with_reducible show Ev1 _ (tSl _ _ _ _) _ _ _); (apply e_sl3))
  | ((with_reducible show CPow _ _); exact ⟨by decide, by decide, by decide⟩)
  | ((with_reducible show Ev1 _ (tGf _ _ _) _ _ _); (apply e_gf))
  | ((with_reducible show allC _ = true); rfl)
  | ((with_reducible show List.length _ = _); rfl)
  | ((with_reducible show List.all _ _ = true); rfl)
  | with_reducible assumption
  | omega
  | exact Nat.le_of_ble_eq_true rfl
  | assumption))
section
variable {P : Program} {w : World} {K : PySem.W.Frag} {mg : Str → Option Value} {base : Heap}
def spLaw (K : PySem.W.Frag) : Sp := fun vs H Q _ => ∃ (a : Addr) (ns : List Int), vs = [.ref a] ∧ SqL K H a (ns.map V.int) ∧ ns.length ≤ 63 ∧ ∀ H', Q (.bl true) H'
theorem ok_law (T : Txt K mg) (U : TxX T) : FnOk P w K mg base CX0 6 T.d_law.f T.d_law.fd ["_law_script"] (spLaw K) := by
  refine T.d_law.F.ok sc_law (fun vs H Q E h => ?_) (fun cdv A outer s H vs Q E hr h => ?_)
  · obtain ⟨a, ns, rfl, _⟩ := h
    rfl
  · obtain ⟨a, ns, rfl, hS, hl, q⟩ := h
    refine ⟨_, (pss_cons (ps_set (i := 1) sc_law.nd rfl (Or.inl rfl) (pe_call (ok_law_bag T) (hr.mono (by decide)) (by rfl) T.d__law_bag.g T.d__law_bag.F.kp T.d__law_bag.b .nil pass0 (pa_cons (pv 0) pa_nil)))
      (pss_cons (ps_set (i := 2) sc_law.nd rfl (Or.inl rfl) (pe_lst (pa_cons pe_non (pa_cons pe_bl (pa_cons pe_int (pa_cons (pe_un un_neg pe_int) (pa_cons (pe_op op_pow pe_int pe_int) (pa_cons pe_str (pa_cons pe_str (pa_cons (pe_tup pa_nil) (pa_cons (pe_lst (pa_cons pe_str pa_nil)) (pa_cons (pe_tup (pa_cons pe_str (pa_cons pe_int pa_nil))) (pa_cons (pe_lst (pa_cons (pe_tup (pa_cons pe_str (pa_cons pe_int pa_nil))) pa_nil)) (pa_cons pe_str pa_nil))))))))))))))
      (pss_cons (ps_asg (pe_tup (pa_cons (pe_call (ok_law_ofL T) (hr.mono (by decide)) (by rfl) T.d__law_of.g T.d__law_of.F.kp T.d__law_of.b .nil pass0 (pa_cons (pv 1) (pa_cons (pv 2) pa_nil))) (pa_cons (pe_call (ok_law_ofL T) (hr.mono (by decide)) (by rfl) T.d__law_of.g T.d__law_of.F.kp T.d__law_of.b .nil pass0 (pa_cons (pv 1) (pa_cons (pv 2) pa_nil))) (pa_cons (pe_call (ok_law_ofL T) (hr.mono (by decide)) (by rfl) T.d__law_of.g T.d__law_of.F.kp T.d__law_of.b .nil pass0 (pa_cons (pv 1) (pa_cons (pv 2) pa_nil))) pa_nil)))) (pg_tup rfl (pgs_cons (pg_name (i := 3) sc_law.nd rfl (Or.inr rfl)) (pgs_cons (pg_name (i := 4) sc_law.nd rfl (Or.inl rfl)) (pgs_cons (pg_name (i := 5) sc_law.nd rfl (Or.inl rfl)) pgs_nil)))))
      (pss_cons (ps_set (i := 6) sc_law.nd rfl (Or.inl rfl) (pe_op op_cat (pe_op op_cat (pe_op op_rep (pe_lst (pa_cons pe_int pa_nil)) pe_int) (pe_lst (pa_cons pe_int (pa_cons pe_int (pa_cons pe_int (pa_cons pe_int (pa_cons pe_int (pa_cons pe_int (pa_cons pe_int (pa_cons pe_int (pa_cons pe_int (pa_cons pe_int (pa_cons pe_int (pa_cons pe_int (pa_cons pe_int pa_nil))))))))))))))) (pe_lst (pa_cons pe_int (pa_cons pe_int (pa_cons pe_int (pa_cons pe_int pa_nil)))))))
      (pss_cons (ps_for PassesOwn.never rfl (pi_list (pe_lst (pa_cons (pe_call (ok_law_by_name T) (hr.mono (by decide)) (by rfl) T.d__law_by_name.g T.d__law_by_name.F.kp T.d__law_by_name.b .nil pass0 (pa_cons (pv 3) (pa_cons (pv 4) (pa_cons (pv 5) pa_nil)))) (pa_cons (pe_call (ok_law_by_place T) (hr.mono (by decide)) (by rfl) T.d__law_by_place.g T.d__law_by_place.F.kp T.d__law_by_place.b .nil pass0 (pa_cons (pv 3) (pa_cons (pv 4) (pa_cons (pv 5) pa_nil)))) pa_nil)))) (pg_name (i := 7) sc_law.nd rfl (Or.inl rfl)) (pss_cons (ps_if (pt_not (pt_val (pe_call (ok_law_same T 4) (hr.mono (by decide)) (by rfl) T.d__law_same.g T.d__law_same.F.kp T.d__law_same.b .nil pass0 (pa_cons (pe_lc (own := [("_law_e", 8)]) (g := gName 8) (tt := tYes) (te := tGf K "code" (tVar 8)) (by rfl) sc_law.nd (pi_list (pv 7)) (blkOk_by (own := [("_law_e", 8)]) (N := N_law) (sc := defScope s_law) (by decide +kernel)) (fun _ _ _ _ _ => (pg_name (i := 8) sc_law.nd rfl (Or.inl rfl))) (fun _ _ _ _ _ => pts_nil) (fun _ _ _ _ _ => (pe_gf (pv 8)))) (pa_cons (pe_call0 (ok_law_codes T) (hr.mono (by decide)) (by rfl) T.d__law_codes.g T.d__law_codes.F.kp T.d__law_codes.b .nil pass0) pa_nil))))) (pss_one (ps_ret pe_bl)) pss_nil)
      (pss_one (ps_for PassesOwn.never rfl (pi_range1 (by rfl) T.z_range (pa_cons (pe_callB call_len_seq (by rfl) T.z_len (by decide +kernel) (pa_cons (pv 7) pa_nil)) pa_nil)) (pg_name (i := 9) sc_law.nd rfl (Or.inr rfl)) (pss_cons (ps_par (i := 8) (j := 10) (by rfl) sc_law.nd rfl rfl (by decide) rfl rfl (pa_cons (pe_ix ix_list (pv 7) (pv 9) (fun _ _ => rfl)) (pa_cons (pe_slice sl_tupA (pe_tup (pa_cons (pv 3) (pa_cons (pv 4) (pa_cons (pv 5) pa_nil)))) po_none (po_some (pe_ix ix_list (pv 6) (pv 9) (fun _ _ => rfl)))) pa_nil)) (by rfl))
      (pss_cons (ps_if (PW.pt (pw_or (pt_not (pt_val (pe_call (ok_law_same T 4) (hr.mono (by decide)) (by rfl) T.d__law_same.g T.d__law_same.F.kp T.d__law_same.b .nil pass0 (pa_cons (pe_call (ok_law_fields T) (hr.mono (by decide)) (by rfl) T.d__law_fields.g T.d__law_fields.F.kp T.d__law_fields.b .nil pass0 (pa_cons (pv 8) pa_nil)) (pa_cons (pv 10) pa_nil))))) (pw_or1 (pt_cmpR (op_neD hr.units) (pe_call (ok_law_classes T) (hr.mono (by decide)) (by rfl) T.d__law_classes.g T.d__law_classes.F.kp T.d__law_classes.b .nil pass0 (pa_cons (pv 8) pa_nil)) (pe_lc (own := [("_law_j", 12)]) (g := gName 12) (tt := tYes) (by rfl) sc_law.nd (pi_range1 (by rfl) T.z_range (pa_cons pe_int pa_nil)) (blkOk_by (own := [("_law_j", 12)]) (N := N_law) (sc := defScope s_law) (by decide +kernel)) (fun _ _ _ _ _ => (pg_name (i := 12) sc_law.nd rfl (Or.inl rfl))) (fun _ _ _ _ _ => pts_nil) (fun _ _ _ _ _ => (pe_cmpR op_eq (pv 12) (pv 9) (nomark _)))) (nomark _))))) (pss_one (ps_ret pe_bl)) pss_nil)
      (pss_cons (ps_set (i := 11) sc_law.nd rfl (Or.inl rfl) (pe_lst (pa_cons (pe_callB call_isX (by rfl) T.z_isinstance (by decide +kernel) (pa_cons (pv 8) (pa_cons (pe_glob (v := .ref T.a_DayError) rfl T.c_DayError rfl) pa_nil))) (pa_cons (pe_callB call_isX (by rfl) T.z_isinstance (by decide +kernel) (pa_cons (pv 8) (pa_cons (pe_bltn (v := .ty "ValueError") (by rfl) T.z_ValueError (by decide +kernel) rfl) pa_nil))) (pa_cons (pe_callB call_isX (by rfl) T.z_isinstance (by decide +kernel) (pa_cons (pv 8) (pa_cons (pe_glob (v := .ref T.a_Missing) rfl T.c_Missing rfl) pa_nil))) (pa_cons (pe_callB call_isX (by rfl) T.z_isinstance (by decide +kernel) (pa_cons (pv 8) (pa_cons (pe_bltn (v := .ty "LookupError") (by rfl) T.z_LookupError (by decide +kernel) rfl) pa_nil))) pa_nil))))))
      (pss_one (ps_if (PW.pt (pw_or (pt_cmpR (op_neD hr.units) (pv 11) (pe_lst (pa_cons (pe_cmpR op_lt (pv 9) pe_int (nomark _)) (pa_cons (pe_cmpR op_lt (pv 9) pe_int (nomark _)) (pa_cons (pe_chain op_le op_lt pe_int (pv 9) pe_int) (pa_cons (pe_cmpR op_ge (pv 9) pe_int (nomark _)) pa_nil))))) (nomark _)) (pw_or1 (pt_cmpR op_ne (pe_callB call_isX (by rfl) T.z_isinstance (by decide +kernel) (pa_cons (pv 8) (pa_cons (pe_bltn (v := .ty "IndexError") (by rfl) T.z_IndexError (by decide +kernel) rfl) pa_nil))) (pe_cmpR op_eq (pv 9) pe_int (nomark _)) (nomark _))))) (pss_one (ps_ret pe_bl)) pss_nil)))))))))
      (pss_one (ps_ret (pe_cmpR (op_eqD hr.units) (pe_lc (own := [("_law_way", 13)]) (g := gName 13) (tt := tYes) (by rfl) sc_law.nd (pi_range1 (by rfl) T.z_range (pa_cons pe_int pa_nil)) (blkOk_by (own := [("_law_way", 13)]) (N := N_law) (sc := defScope s_law) (by decide +kernel)) (fun _ _ _ _ _ => (pg_name (i := 13) sc_law.nd rfl (Or.inl rfl))) (fun _ _ _ _ _ => pts_nil) (fun _ _ _ _ _ => (pe_call (ok_law_caught T U) (hr.mono (by decide)) (by rfl) T.d__law_caught.g T.d__law_caught.F.kp T.d__law_caught.b .nil pass0 (pa_cons (pv 13) (pa_cons (pv 3) pa_nil))))) (pe_lst (pa_cons pe_str (pa_cons pe_str (pa_cons pe_str pa_nil)))) (nomark _))))))))), ?_⟩
    refine ⟨.ref a, rfl, a, ns, rfl, hS, hl, fun b H1 nb s1 hB => ?_⟩
    dsimp only [gName]
    refine q_set (b := b) hB (s := .l someSh) (by walk_at "ev") fun v2 H2 g2 i2 => ?_
    refine q_tup3 (b := b) (s1 := .o someSh) (s2 := .o someSh) (s3 := .o someSh) g2.1 (by walk_at "ev") fun x y z H5 g5 ix iy iz => ?_
    have ex : ∀ H', Go b H5 H' → Eqv K H' 3 x x := fun H' g => eqv_some ix g
    have ey : ∀ H', Go b H5 H' → Eqv K H' 3 y y := fun H' g => eqv_some iy g
    have ez : ∀ H', Go b H5 H' → Eqv K H' 3 z z := fun H' g => eqv_some iz g
    clear ix iy iz i2
    refine q_set (b := b) g5.1 (by walk_at "ev") fun v6 H6 g6 i6 => ?_
    have i6 : Is b H6 (.l widSh) v6 := i6
    refine q_forL (b := b) g6.1 (ss := [.l (rowsSh T x y z), .l (rowsSh T x y z)]) ?_ (fun i σ' => ∃ v7 v8 v9 v10 v11 v12 v13, σ' = [some (.ref a), some (.ref b), some v2, some x, some y, some z, some v6, v7, v8, v9, v10, v11, v12, v13]) ⟨_, _, _, _, _, _, _, rfl⟩ ?_ ?_
    · clear i6
      walk_at "ev"
    · rintro i s rv σ' H7 hs g7 ir ⟨v7, v8, v9, v10, v11, v12, v13, rfl⟩ N hN
      have er : s = .l (rowsSh T x y z) := by
        match i, hs with
        | 0, h => exact (Option.some.inj h).symm
        | 1, h => exact (Option.some.inj h).symm
        | n + 2, h => cases h
      subst er
      refine q_ifn (b := b) g7.1 ?_ fun H8 g8 => ?_
      · refine e_sameE (s := .l codesSh) (s' := .l codesSh) (n_cons (e_lcL (ss := rowsSh T x y z) codeV (e_var rfl ir) (by show 38 ≤ 1000; decide) fun i s hs H xv g is => el_code T hs rfl g.1 is) (n_cons e_codesC n_nil)) fun H v w g i j => eqv_det rfl i j
      · refine q_forR (n := 38) (b := b) g8.1 (show Ev1 b _ _ H8 (.c (.int ((38 : Nat) : Int))) from e_len (ss := rowsSh T x y z) (e_var rfl (ir.go g8))) (by decide)
          (fun i σ' => ∃ v8 v9 v10 v11 v12 v13, σ' = [some (.ref a), some (.ref b), some v2, some x, some y, some z, some v6, some rv, v8, v9, v10, v11, v12, v13]) ⟨_, _, _, _, _, _, rfl⟩ ?_ ?_
        · rintro k σ' H9 hk g9 ⟨v8, v9, v10, v11, v12, v13, rfl⟩ N2 hN2
          obtain ⟨C, fs, code, F⟩ := row_of T x y z k hk
          have ir9 := (ir.go g8).go g9
          have i69 := ((i6.go g7).go g8).go g9
          have gE : Go b H5 H9 := g6.trans (g7.trans (g8.trans g9))
          refine q_par (b := b) (s := .x C fs) (s' := .t (([x, y, z].take (wid k)).map Sh.c)) g9.1 (e_ix (e_var rfl ir9) (e_var (s := .c (.int (k : Nat))) rfl rfl) F.sh)
            (e_sl3 (e_tup (n_cons (e_var (s := .c x) rfl rfl) (n_cons (e_var (s := .c y) rfl rfl) (n_cons (e_var (s := .c z) rfl rfl) n_nil))) (Nat.le_of_ble_eq_true rfl)) (e_ix (e_var rfl i69) (e_var (s := .c (.int (k : Nat))) rfl rfl) F.wd) (wid3 k hk)) fun ev dv H10 g10 ie id => ?_
          refine q_ifOr (b := b) g10.1 (e_sameE (n_cons (e_fields (n_cons (e_var rfl ie) n_nil) F.xf F.no F.lk F.fk) (n_cons (e_var rfl id) n_nil)) (fun H v w g i j => eqv_row (fun u m => ?_) (Nat.le_trans (List.length_take_le' _ _) (by show 3 ≤ 1000; decide)) i j))
            (e_neD (e_classes (k := k) (n_cons (e_var rfl ie) n_nil) F.xf (fun j c h => U.kit k j C c F.cs h)) (e_lcR (n := 38) (v := 12) (fun j => .bl (decide (V.int (0 + (j : Nat)) = V.int (k : Nat)))) (by decide) fun i hi => e_eqI (e_var (s := .c (.int (0 + (i : Nat)))) rfl rfl) (e_var (s := .c (.int (k : Nat))) rfl rfl)) rfl rfl (eq38 k hk)) fun H11 g11 => ?_
          · have m' := List.mem_of_mem_take m
            rcases List.mem_cons.mp m' with rfl | m'
            · exact ex _ (gE.trans (g10.trans g))
            rcases List.mem_cons.mp m' with rfl | m'
            · exact ey _ (gE.trans (g10.trans g))
            rcases List.mem_cons.mp m' with rfl | m'
            · exact ez _ (gE.trans (g10.trans g))
            · cases m'
          have ie1 := ie.go g11
          refine q_set (b := b) (s := .l (fndSh k)) g11.1 (e_lst (n_cons (e_isX (n_cons (e_var rfl ie1) (n_cons e_c n_nil)) F.xf (U.kD k C F.cs)) (n_cons (e_isT (n_cons (e_var rfl ie1) (n_cons e_c n_nil)) F.xf (U.kV k C F.cs))
            (n_cons (e_isX (n_cons (e_var rfl ie1) (n_cons e_c n_nil)) F.xf (U.kM k C F.cs)) (n_cons (e_isT (n_cons (e_var rfl ie1) (n_cons e_c n_nil)) F.xf (U.kL k C F.cs)) n_nil)))) (Nat.le_of_ble_eq_true rfl)) fun fv H12 g12 ifn => ?_
          have ie2 := ie1.go g12
          refine q_ifOr2 (b := b) g12.1 (e_neD (ss := fndSh k) (rr := fnd2Sh k) (e_var rfl ifn) (e_lst (n_cons (e_lt (e_var (s := .c (.int (k : Nat))) rfl rfl) e_c) (n_cons (e_lt (e_var (s := .c (.int (k : Nat))) rfl rfl) e_c)
            (n_cons (e_chainL e_c (e_var (s := .c (.int (k : Nat))) rfl rfl) e_c) (n_cons (e_geI (e_var (s := .c (.int (k : Nat))) rfl rfl) e_c) n_nil)))) (Nat.le_of_ble_eq_true rfl)) rfl rfl (fnd38 k hk))
            (e_neB (e_isT (n_cons (e_var rfl ie2) (n_cons e_c n_nil)) F.xf (U.kI k C F.cs)) (e_eqI (e_var (s := .c (.int (k : Nat))) rfl rfl) e_c) (idx38 k hk)) fun H13 g13 => ?_
          exact hN2 _ H13 (g10.trans (g11.trans (g12.trans g13))) ⟨_, _, _, _, _, _, rfl⟩
        · rintro σ' H9 g9 ⟨v8, v9, v10, v11, v12, v13, rfl⟩
          exact hN _ H9 (g8.trans g9) ⟨_, _, _, _, _, _, _, rfl⟩
    · rintro σ' H7 g7 ⟨v7, v8, v9, v10, v11, v12, v13, rfl⟩
      refine q_ret (b := b) (s := .c (.bl true)) g7.1 ?_ fun v H8 g8 i8 => ?_
      · exact e_eqD (e_lcR (n := 3) (v := 13) (fun i => .str (caughtOf (0 + (i : Nat)))) (by decide) fun i hi => e_caught (n_cons (e_var (s := .c (.int (0 + (i : Nat)))) rfl rfl) (n_cons (e_var (s := .c x) rfl rfl) n_nil))) (e_lst (n_cons e_c (n_cons e_c (n_cons e_c n_nil))) (by decide)) rfl rfl (by decide +kernel)
      · rw [show v = _ from i8]
        exact q H8
end
end Rd
set_option maxHeartbeats 0
namespace Rd
open PySem PySem.Spec PyProof.Rows L2
/-! ## what the top has written -/
theorem excB_ok {K : PySem.W.Frag} {D : Addr} (h : excB K D = true) : ExcC K D := by
  obtain ⟨h1, h⟩ := Bool.and_eq_true_iff.mp h
  obtain ⟨h2, h⟩ := Bool.and_eq_true_iff.mp h
  obtain ⟨h3, h⟩ := Bool.and_eq_true_iff.mp h
  obtain ⟨h4, h⟩ := Bool.and_eq_true_iff.mp h
  obtain ⟨h5, h⟩ := Bool.and_eq_true_iff.mp h
  obtain ⟨h6, h⟩ := Bool.and_eq_true_iff.mp h
  obtain ⟨h7, h8⟩ := Bool.and_eq_true_iff.mp h
  exact ⟨of_decide_eq_true h1, of_decide_eq_true h2, of_decide_eq_true h3, h4, of_decide_eq_true h5, of_decide_eq_true h6, of_decide_eq_true h7, of_decide_eq_true h8⟩
def mkDX {K : PySem.W.Frag} {mg : Str → Option Value} {x qual : Str} {st : Stmt} {ps nm : List Str} {B newId initId : String} {bmB : List Value} {C f : Addr} {fd : FuncData}
    (FB : ExcBaseFacts B newId initId bmB) (S : StoreFacts B bmB "object.__setattr__" "object") (g : mg x = some (.ref C)) (i : PySem.W.findIn K (.ref C) "__init__" = some (some (.ref f))) (F : L2.Fun K "__init__" qual st f fd) (b : Binds K fd ps [])
    (hx : xB K C f bmB newId nm = true) : DX K mg x qual st ps nm B newId initId bmB :=
  have h1 := (Bool.and_eq_true_iff.mp hx).1
  have r1 := (Bool.and_eq_true_iff.mp hx).2
  have h2 := (Bool.and_eq_true_iff.mp r1).1
  have r2 := (Bool.and_eq_true_iff.mp r1).2
  have h3 := (Bool.and_eq_true_iff.mp r2).1
  have r3 := (Bool.and_eq_true_iff.mp r2).2
  have h4 := (Bool.and_eq_true_iff.mp r3).1
  have r4 := (Bool.and_eq_true_iff.mp r3).2
  have h5 := (Bool.and_eq_true_iff.mp r4).1
  have r5 := (Bool.and_eq_true_iff.mp r4).2
  have h6 := (Bool.and_eq_true_iff.mp r5).1
  have r6 := (Bool.and_eq_true_iff.mp r5).2
  have h7 := (Bool.and_eq_true_iff.mp r6).1
  have r7 := (Bool.and_eq_true_iff.mp r6).2
  have h8 := (Bool.and_eq_true_iff.mp r7).1
  have r8 := (Bool.and_eq_true_iff.mp r7).2
  have h9 := (Bool.and_eq_true_iff.mp r8).1
  have h10 := (Bool.and_eq_true_iff.mp r8).2
  { C := C, f := f, fd := _, g := g, T := ⟨FB, S, h1, h2, h3, of_decide_eq_true h4, h5⟩, iC := i, tI := of_decide_eq_true h8, F := F, b := b,
    xf := ⟨xfB_ok h6, excB_ok h7⟩, no := fun n hn => of_decide_eq_true (List.all_eq_true.mp h9 n (List.elem_iff.mp hn)), ty := of_decide_eq_true h10 }
theorem getD_of {cs : List Addr} {k : Nat} {c : Addr} (h : cs[k]? = some c) : cs.getD k 0 = c := by rw [List.getD_eq_getElem?_getD, h]; rfl
theorem lt_of {cs : List Addr} {k : Nat} {c : Addr} (h : cs[k]? = some c) : k ∈ List.range cs.length := List.mem_range.mpr (List.getElem?_eq_some_iff.mp h).1
theorem kit_of {K : PySem.W.Frag} {cs : List Addr} (h : kitAll K cs = true) {k j : Nat} {c d : Addr} (hc : cs[k]? = some c) (hd : cs[j]? = some d) : PySem.W.kitOne K (.ref c) (.ref d) = some (decide (j = k)) := by
  have := of_decide_eq_true (List.all_eq_true.mp (List.all_eq_true.mp h k (lt_of hc)) j (lt_of hd))
  rw [getD_of hc, getD_of hd] at this
  exact this
theorem base_of {K : PySem.W.Frag} {cs : List Addr} {v : Value} {p : Nat → Bool} (h : baseAll K cs v p = true) {k : Nat} {c : Addr} (hc : cs[k]? = some c) : PySem.W.kitOne K (.ref c) v = some (p k) := by
  have := of_decide_eq_true (List.all_eq_true.mp h k (lt_of hc))
  rw [getD_of hc] at this
  exact this
theorem fun_of {K : PySem.W.Frag} {x qual : Str} {st : Stmt} {f : Addr} {fd : FuncData} (F : FunD K x qual (defArgs st) (defBody st) (defScope st) [] [] f fd) : L2.Fun K x qual st f fd := by
  obtain ⟨oc, od, dV, kV, doc, pm, an, cdv, ct, osl, e, lk, hcd, hd, hk⟩ := F.ex
  rcases hd with ⟨_, rfl⟩ | ⟨n, _⟩
  · exact ⟨⟨oc, od, kV, doc, pm, an, cdv, ct, osl, e, lk, hcd⟩, F.kp⟩
  · exact absurd rfl n
/-! ### the head: facts by names -/
theorem factsB {P : Program} {w : World} {K : PySem.W.Frag} {h : Heap} {mg : Str → Option Value} {fa : Addr} (X : K.In h) (G : h.Ns mainGlobals mg) (hfa : mg ("law" : Str) = some (.ref fa)) (c : He.SaysD faL fnL K) (cx : exB K = true) :
    ∃ fd : FuncData, (∀ (s : Shared) (v : Value), BindsTo s fd ⟨[v], []⟩ [("_law_script", v)]) ∧ ∀ base : Heap, K.In base → base.Ns mainGlobals mg → FnOk P w K mg base CX0 6 fa fd ["_law_script"] (spLaw K) := by
  obtain ⟨hX, hK⟩ := He.ba cx
  obtain ⟨hk, hK⟩ := He.ba hK
  obtain ⟨hD, hK⟩ := He.ba hK
  obtain ⟨hM, hK⟩ := He.ba hK
  obtain ⟨hV, hK⟩ := He.ba hK
  obtain ⟨hL, hI⟩ := He.ba hK
  obtain ⟨fd0, F0'⟩ := c.def_ 0 (d := dd0) rfl
  have F0 : L2.Fun K "_law_bag" "_law_bag" s_law_bag (He.fAd K ("_law_bag", none)) fd0 := fun_of F0'
  obtain ⟨fd1, F1'⟩ := c.def_ 1 (d := dd1) rfl
  have F1 : L2.Fun K "_law_draw" "_law_draw" s_law_draw (He.fAd K ("_law_draw", none)) fd1 := fun_of F1'
  obtain ⟨fd2, F2'⟩ := c.def_ 2 (d := dd2) rfl
  have F2 : L2.Fun K "_law_of" "_law_of" s_law_of (He.fAd K ("_law_of", none)) fd2 := fun_of F2'
  obtain ⟨fd3, F3'⟩ := c.def_ 3 (d := dd3) rfl
  have F3 : L2.Fun K "_law_same" "_law_same" s_law_same (He.fAd K ("_law_same", none)) fd3 := fun_of F3'
  obtain ⟨fd4, F4'⟩ := c.def_ 4 (d := dd4) rfl
  have F4 : L2.Fun K "_law_fields" "_law_fields" s_law_fields (He.fAd K ("_law_fields", none)) fd4 := fun_of F4'
  obtain ⟨fd5, F5'⟩ := c.def_ 5 (d := dd5) rfl
  have F5 : L2.Fun K "_law_by_name" "_law_by_name" s_law_by_name (He.fAd K ("_law_by_name", none)) fd5 := fun_of F5'
  obtain ⟨fd6, F6'⟩ := c.def_ 6 (d := dd6) rfl
  have F6 : L2.Fun K "_law_by_place" "_law_by_place" s_law_by_place (He.fAd K ("_law_by_place", none)) fd6 := fun_of F6'
  obtain ⟨fd7, F7'⟩ := c.def_ 7 (d := dd7) rfl
  have F7 : L2.Fun K "_law_codes" "_law_codes" s_law_codes (He.fAd K ("_law_codes", none)) fd7 := fun_of F7'
  obtain ⟨fd8, F8'⟩ := c.def_ 8 (d := dd8) rfl
  have F8 : L2.Fun K "_law_classes" "_law_classes" s_law_classes (He.fAd K ("_law_classes", none)) fd8 := fun_of F8'
  obtain ⟨fd9, F9'⟩ := c.def_ 9 (d := dd9) rfl
  have F9 : L2.Fun K "_law_caught" "_law_caught" s_law_caught (He.fAd K ("_law_caught", none)) fd9 := fun_of F9'
  obtain ⟨fd10, F10'⟩ := c.def_ 10 (d := dd10) rfl
  have F10 : L2.Fun K "law" "law" s_law (He.fAd K ("law", none)) fd10 := fun_of F10'
  obtain ⟨fd11, F11'⟩ := c.def_ 11 (d := dd11) rfl
  have F11 : L2.Fun K "__init__" "InvalidName.__init__" (inS 2) (He.fAd K ("InvalidName", some "__init__")) fd11 := fun_of F11'
  have r11 := He.ba (List.all_eq_true.mp hX _ (List.mem_of_getElem? (i := 0) rfl))
  obtain ⟨fd12, F12'⟩ := c.def_ 12 (d := dd12) rfl
  have F12 : L2.Fun K "__init__" "InvalidNumber.__init__" (inS 3) (He.fAd K ("InvalidNumber", some "__init__")) fd12 := fun_of F12'
  have r12 := He.ba (List.all_eq_true.mp hX _ (List.mem_of_getElem? (i := 1) rfl))
  obtain ⟨fd13, F13'⟩ := c.def_ 13 (d := dd13) rfl
  have F13 : L2.Fun K "__init__" "InvalidSection.__init__" (inS 4) (He.fAd K ("InvalidSection", some "__init__")) fd13 := fun_of F13'
  have r13 := He.ba (List.all_eq_true.mp hX _ (List.mem_of_getElem? (i := 2) rfl))
  obtain ⟨fd14, F14'⟩ := c.def_ 14 (d := dd14) rfl
  have F14 : L2.Fun K "__init__" "InvalidTimes.__init__" (inS 5) (He.fAd K ("InvalidTimes", some "__init__")) fd14 := fun_of F14'
  have r14 := He.ba (List.all_eq_true.mp hX _ (List.mem_of_getElem? (i := 3) rfl))
  obtain ⟨fd15, F15'⟩ := c.def_ 15 (d := dd15) rfl
  have F15 : L2.Fun K "__init__" "InvalidStep.__init__" (inS 6) (He.fAd K ("InvalidStep", some "__init__")) fd15 := fun_of F15'
  have r15 := He.ba (List.all_eq_true.mp hX _ (List.mem_of_getElem? (i := 4) rfl))
  obtain ⟨fd16, F16'⟩ := c.def_ 16 (d := dd16) rfl
  have F16 : L2.Fun K "__init__" "InvalidStanding.__init__" (inS 7) (He.fAd K ("InvalidStanding", some "__init__")) fd16 := fun_of F16'
  have r16 := He.ba (List.all_eq_true.mp hX _ (List.mem_of_getElem? (i := 5) rfl))
  obtain ⟨fd17, F17'⟩ := c.def_ 17 (d := dd17) rfl
  have F17 : L2.Fun K "__init__" "InvalidRow.__init__" (inS 8) (He.fAd K ("InvalidRow", some "__init__")) fd17 := fun_of F17'
  have r17 := He.ba (List.all_eq_true.mp hX _ (List.mem_of_getElem? (i := 6) rfl))
  obtain ⟨fd18, F18'⟩ := c.def_ 18 (d := dd18) rfl
  have F18 : L2.Fun K "__init__" "InvalidTable.__init__" (inS 9) (He.fAd K ("InvalidTable", some "__init__")) fd18 := fun_of F18'
  have r18 := He.ba (List.all_eq_true.mp hX _ (List.mem_of_getElem? (i := 7) rfl))
  obtain ⟨fd19, F19'⟩ := c.def_ 19 (d := dd19) rfl
  have F19 : L2.Fun K "__init__" "InvalidDelays.__init__" (inS 10) (He.fAd K ("InvalidDelays", some "__init__")) fd19 := fun_of F19'
  have r19 := He.ba (List.all_eq_true.mp hX _ (List.mem_of_getElem? (i := 8) rfl))
  obtain ⟨fd20, F20'⟩ := c.def_ 20 (d := dd20) rfl
  have F20 : L2.Fun K "__init__" "InvalidPeriod.__init__" (inS 11) (He.fAd K ("InvalidPeriod", some "__init__")) fd20 := fun_of F20'
  have r20 := He.ba (List.all_eq_true.mp hX _ (List.mem_of_getElem? (i := 9) rfl))
  obtain ⟨fd21, F21'⟩ := c.def_ 21 (d := dd21) rfl
  have F21 : L2.Fun K "__init__" "InvalidHeights.__init__" (inS 12) (He.fAd K ("InvalidHeights", some "__init__")) fd21 := fun_of F21'
  have r21 := He.ba (List.all_eq_true.mp hX _ (List.mem_of_getElem? (i := 10) rfl))
  obtain ⟨fd22, F22'⟩ := c.def_ 22 (d := dd22) rfl
  have F22 : L2.Fun K "__init__" "InvalidDeed.__init__" (inS 13) (He.fAd K ("InvalidDeed", some "__init__")) fd22 := fun_of F22'
  have r22 := He.ba (List.all_eq_true.mp hX _ (List.mem_of_getElem? (i := 11) rfl))
  obtain ⟨fd23, F23'⟩ := c.def_ 23 (d := dd23) rfl
  have F23 : L2.Fun K "__init__" "InvalidTurn.__init__" (inS 14) (He.fAd K ("InvalidTurn", some "__init__")) fd23 := fun_of F23'
  have r23 := He.ba (List.all_eq_true.mp hX _ (List.mem_of_getElem? (i := 12) rfl))
  obtain ⟨fd24, F24'⟩ := c.def_ 24 (d := dd24) rfl
  have F24 : L2.Fun K "__init__" "InvalidWait.__init__" (inS 15) (He.fAd K ("InvalidWait", some "__init__")) fd24 := fun_of F24'
  have r24 := He.ba (List.all_eq_true.mp hX _ (List.mem_of_getElem? (i := 13) rfl))
  obtain ⟨fd25, F25'⟩ := c.def_ 25 (d := dd25) rfl
  have F25 : L2.Fun K "__init__" "InvalidWish.__init__" (inS 16) (He.fAd K ("InvalidWish", some "__init__")) fd25 := fun_of F25'
  have r25 := He.ba (List.all_eq_true.mp hX _ (List.mem_of_getElem? (i := 14) rfl))
  obtain ⟨fd26, F26'⟩ := c.def_ 26 (d := dd26) rfl
  have F26 : L2.Fun K "__init__" "InvalidJourney.__init__" (inS 17) (He.fAd K ("InvalidJourney", some "__init__")) fd26 := fun_of F26'
  have r26 := He.ba (List.all_eq_true.mp hX _ (List.mem_of_getElem? (i := 15) rfl))
  obtain ⟨fd27, F27'⟩ := c.def_ 27 (d := dd27) rfl
  have F27 : L2.Fun K "__init__" "InvalidText.__init__" (inS 18) (He.fAd K ("InvalidText", some "__init__")) fd27 := fun_of F27'
  have r27 := He.ba (List.all_eq_true.mp hX _ (List.mem_of_getElem? (i := 16) rfl))
  obtain ⟨fd28, F28'⟩ := c.def_ 28 (d := dd28) rfl
  have F28 : L2.Fun K "__init__" "DuplicateName.__init__" (inS 19) (He.fAd K ("DuplicateName", some "__init__")) fd28 := fun_of F28'
  have r28 := He.ba (List.all_eq_true.mp hX _ (List.mem_of_getElem? (i := 17) rfl))
  obtain ⟨fd29, F29'⟩ := c.def_ 29 (d := dd29) rfl
  have F29 : L2.Fun K "__init__" "InUse.__init__" (inS 20) (He.fAd K ("InUse", some "__init__")) fd29 := fun_of F29'
  have r29 := He.ba (List.all_eq_true.mp hX _ (List.mem_of_getElem? (i := 18) rfl))
  obtain ⟨fd30, F30'⟩ := c.def_ 30 (d := dd30) rfl
  have F30 : L2.Fun K "__init__" "TakenEnd.__init__" (inS 21) (He.fAd K ("TakenEnd", some "__init__")) fd30 := fun_of F30'
  have r30 := He.ba (List.all_eq_true.mp hX _ (List.mem_of_getElem? (i := 19) rfl))
  obtain ⟨fd31, F31'⟩ := c.def_ 31 (d := dd31) rfl
  have F31 : L2.Fun K "__init__" "LooseEnd.__init__" (inS 22) (He.fAd K ("LooseEnd", some "__init__")) fd31 := fun_of F31'
  have r31 := He.ba (List.all_eq_true.mp hX _ (List.mem_of_getElem? (i := 20) rfl))
  obtain ⟨fd32, F32'⟩ := c.def_ 32 (d := dd32) rfl
  have F32 : L2.Fun K "__init__" "TooMany.__init__" (inS 23) (He.fAd K ("TooMany", some "__init__")) fd32 := fun_of F32'
  have r32 := He.ba (List.all_eq_true.mp hX _ (List.mem_of_getElem? (i := 21) rfl))
  obtain ⟨fd33, F33'⟩ := c.def_ 33 (d := dd33) rfl
  have F33 : L2.Fun K "__init__" "MisplacedStep.__init__" (inS 24) (He.fAd K ("MisplacedStep", some "__init__")) fd33 := fun_of F33'
  have r33 := He.ba (List.all_eq_true.mp hX _ (List.mem_of_getElem? (i := 22) rfl))
  obtain ⟨fd34, F34'⟩ := c.def_ 34 (d := dd34) rfl
  have F34 : L2.Fun K "__init__" "OwnRing.__init__" (inS 25) (He.fAd K ("OwnRing", some "__init__")) fd34 := fun_of F34'
  have r34 := He.ba (List.all_eq_true.mp hX _ (List.mem_of_getElem? (i := 23) rfl))
  obtain ⟨fd35, F35'⟩ := c.def_ 35 (d := dd35) rfl
  have F35 : L2.Fun K "__init__" "Refused.__init__" (inS 26) (He.fAd K ("Refused", some "__init__")) fd35 := fun_of F35'
  have r35 := He.ba (List.all_eq_true.mp hX _ (List.mem_of_getElem? (i := 24) rfl))
  obtain ⟨fd36, F36'⟩ := c.def_ 36 (d := dd36) rfl
  have F36 : L2.Fun K "__init__" "Lacking.__init__" (inS 27) (He.fAd K ("Lacking", some "__init__")) fd36 := fun_of F36'
  have r36 := He.ba (List.all_eq_true.mp hX _ (List.mem_of_getElem? (i := 25) rfl))
  obtain ⟨fd37, F37'⟩ := c.def_ 37 (d := dd37) rfl
  have F37 : L2.Fun K "__init__" "Unready.__init__" (inS 28) (He.fAd K ("Unready", some "__init__")) fd37 := fun_of F37'
  have r37 := He.ba (List.all_eq_true.mp hX _ (List.mem_of_getElem? (i := 26) rfl))
  obtain ⟨fd38, F38'⟩ := c.def_ 38 (d := dd38) rfl
  have F38 : L2.Fun K "__init__" "Finished.__init__" (inS 29) (He.fAd K ("Finished", some "__init__")) fd38 := fun_of F38'
  have r38 := He.ba (List.all_eq_true.mp hX _ (List.mem_of_getElem? (i := 27) rfl))
  obtain ⟨fd39, F39'⟩ := c.def_ 39 (d := dd39) rfl
  have F39 : L2.Fun K "__init__" "Barred.__init__" (inS 30) (He.fAd K ("Barred", some "__init__")) fd39 := fun_of F39'
  have r39 := He.ba (List.all_eq_true.mp hX _ (List.mem_of_getElem? (i := 28) rfl))
  obtain ⟨fd40, F40'⟩ := c.def_ 40 (d := dd40) rfl
  have F40 : L2.Fun K "__init__" "NoDay.__init__" (inS 31) (He.fAd K ("NoDay", some "__init__")) fd40 := fun_of F40'
  have r40 := He.ba (List.all_eq_true.mp hX _ (List.mem_of_getElem? (i := 29) rfl))
  obtain ⟨fd41, F41'⟩ := c.def_ 41 (d := dd41) rfl
  have F41 : L2.Fun K "__init__" "Doomed.__init__" (inS 32) (He.fAd K ("Doomed", some "__init__")) fd41 := fun_of F41'
  have r41 := He.ba (List.all_eq_true.mp hX _ (List.mem_of_getElem? (i := 30) rfl))
  obtain ⟨fd42, F42'⟩ := c.def_ 42 (d := dd42) rfl
  have F42 : L2.Fun K "__init__" "NeverCleared.__init__" (inS 33) (He.fAd K ("NeverCleared", some "__init__")) fd42 := fun_of F42'
  have r42 := He.ba (List.all_eq_true.mp hX _ (List.mem_of_getElem? (i := 31) rfl))
  obtain ⟨fd43, F43'⟩ := c.def_ 43 (d := dd43) rfl
  have F43 : L2.Fun K "__init__" "NoPeriod.__init__" (inS 34) (He.fAd K ("NoPeriod", some "__init__")) fd43 := fun_of F43'
  have r43 := He.ba (List.all_eq_true.mp hX _ (List.mem_of_getElem? (i := 32) rfl))
  obtain ⟨fd44, F44'⟩ := c.def_ 44 (d := dd44) rfl
  have F44 : L2.Fun K "__init__" "TooShort.__init__" (inS 35) (He.fAd K ("TooShort", some "__init__")) fd44 := fun_of F44'
  have r44 := He.ba (List.all_eq_true.mp hX _ (List.mem_of_getElem? (i := 33) rfl))
  obtain ⟨fd45, F45'⟩ := c.def_ 45 (d := dd45) rfl
  have F45 : L2.Fun K "__init__" "UnknownName.__init__" (inS 37) (He.fAd K ("UnknownName", some "__init__")) fd45 := fun_of F45'
  have r45 := He.ba (List.all_eq_true.mp hX _ (List.mem_of_getElem? (i := 34) rfl))
  obtain ⟨fd46, F46'⟩ := c.def_ 46 (d := dd46) rfl
  have F46 : L2.Fun K "__init__" "UnknownEnd.__init__" (inS 38) (He.fAd K ("UnknownEnd", some "__init__")) fd46 := fun_of F46'
  have r46 := He.ba (List.all_eq_true.mp hX _ (List.mem_of_getElem? (i := 35) rfl))
  obtain ⟨fd47, F47'⟩ := c.def_ 47 (d := dd47) rfl
  have F47 : L2.Fun K "__init__" "UnknownEntry.__init__" (inS 39) (He.fAd K ("UnknownEntry", some "__init__")) fd47 := fun_of F47'
  have r47 := He.ba (List.all_eq_true.mp hX _ (List.mem_of_getElem? (i := 36) rfl))
  obtain ⟨fd48, F48'⟩ := c.def_ 48 (d := dd48) rfl
  have F48 : L2.Fun K "__init__" "NothingLeft.__init__" (inS 40) (He.fAd K ("NothingLeft", some "__init__")) fd48 := fun_of F48'
  have r48 := He.ba (List.all_eq_true.mp hX _ (List.mem_of_getElem? (i := 37) rfl))
  have e := hfa.symm.trans (He.glo_ok X G (c.fact 10 (f := .glo "law") rfl))
  cases e
  let T : Txt K mg := {
    d__law_bag := ⟨_, fd0, F0, He.glo_ok X G (c.fact 0 (f := .glo "_law_bag") rfl), F0.binds fun _ _ _ _ _ _ us hl => match us, hl with | [_], _ => rfl⟩,
    d__law_draw := ⟨_, fd1, F1, He.glo_ok X G (c.fact 1 (f := .glo "_law_draw") rfl), F1.binds fun _ _ _ _ _ _ us hl => match us, hl with | [_, _], _ => rfl⟩,
    d__law_of := ⟨_, fd2, F2, He.glo_ok X G (c.fact 2 (f := .glo "_law_of") rfl), F2.binds fun _ _ _ _ _ _ us hl => match us, hl with | [_, _], _ => rfl⟩,
    d__law_same := ⟨_, fd3, F3, He.glo_ok X G (c.fact 3 (f := .glo "_law_same") rfl), F3.binds fun _ _ _ _ _ _ us hl => match us, hl with | [_, _], _ => rfl⟩,
    d__law_fields := ⟨_, fd4, F4, He.glo_ok X G (c.fact 4 (f := .glo "_law_fields") rfl), F4.binds fun _ _ _ _ _ _ us hl => match us, hl with | [_], _ => rfl⟩,
    d__law_by_name := ⟨_, fd5, F5, He.glo_ok X G (c.fact 5 (f := .glo "_law_by_name") rfl), F5.binds fun _ _ _ _ _ _ us hl => match us, hl with | [_, _, _], _ => rfl⟩,
    d__law_by_place := ⟨_, fd6, F6, He.glo_ok X G (c.fact 6 (f := .glo "_law_by_place") rfl), F6.binds fun _ _ _ _ _ _ us hl => match us, hl with | [_, _, _], _ => rfl⟩,
    d__law_codes := ⟨_, fd7, F7, He.glo_ok X G (c.fact 7 (f := .glo "_law_codes") rfl), F7.binds fun _ _ _ _ _ _ us hl => match us, hl with | [], _ => rfl⟩,
    d__law_classes := ⟨_, fd8, F8, He.glo_ok X G (c.fact 8 (f := .glo "_law_classes") rfl), F8.binds fun _ _ _ _ _ _ us hl => match us, hl with | [_], _ => rfl⟩,
    d__law_caught := ⟨_, fd9, F9, He.glo_ok X G (c.fact 9 (f := .glo "_law_caught") rfl), F9.binds fun _ _ _ _ _ _ us hl => match us, hl with | [_, _], _ => rfl⟩,
    d_law := ⟨_, fd10, F10, He.glo_ok X G (c.fact 10 (f := .glo "law") rfl), F10.binds fun _ _ _ _ _ _ us hl => match us, hl with | [_], _ => rfl⟩,
    x_InvalidName := mkDX (nm := ["value", "code"]) PySem.F.excBase_ValueError PySem.F.store_ValueError (He.glo_ok X G (c.fact 11 (f := .glo "InvalidName") rfl)) (He.eqO_ok r11.1) F11 (F11.binds fun _ _ _ _ _ _ us hl => match us, hl with | [_, _], _ => rfl) r11.2,
    x_InvalidNumber := mkDX (nm := ["value", "code"]) PySem.F.excBase_ValueError PySem.F.store_ValueError (He.glo_ok X G (c.fact 12 (f := .glo "InvalidNumber") rfl)) (He.eqO_ok r12.1) F12 (F12.binds fun _ _ _ _ _ _ us hl => match us, hl with | [_, _], _ => rfl) r12.2,
    x_InvalidSection := mkDX (nm := ["value", "code"]) PySem.F.excBase_ValueError PySem.F.store_ValueError (He.glo_ok X G (c.fact 13 (f := .glo "InvalidSection") rfl)) (He.eqO_ok r13.1) F13 (F13.binds fun _ _ _ _ _ _ us hl => match us, hl with | [_, _], _ => rfl) r13.2,
    x_InvalidTimes := mkDX (nm := ["value", "code"]) PySem.F.excBase_ValueError PySem.F.store_ValueError (He.glo_ok X G (c.fact 14 (f := .glo "InvalidTimes") rfl)) (He.eqO_ok r14.1) F14 (F14.binds fun _ _ _ _ _ _ us hl => match us, hl with | [_, _], _ => rfl) r14.2,
    x_InvalidStep := mkDX (nm := ["value", "code"]) PySem.F.excBase_ValueError PySem.F.store_ValueError (He.glo_ok X G (c.fact 15 (f := .glo "InvalidStep") rfl)) (He.eqO_ok r15.1) F15 (F15.binds fun _ _ _ _ _ _ us hl => match us, hl with | [_, _], _ => rfl) r15.2,
    x_InvalidStanding := mkDX (nm := ["value", "code"]) PySem.F.excBase_ValueError PySem.F.store_ValueError (He.glo_ok X G (c.fact 16 (f := .glo "InvalidStanding") rfl)) (He.eqO_ok r16.1) F16 (F16.binds fun _ _ _ _ _ _ us hl => match us, hl with | [_, _], _ => rfl) r16.2,
    x_InvalidRow := mkDX (nm := ["value", "code"]) PySem.F.excBase_ValueError PySem.F.store_ValueError (He.glo_ok X G (c.fact 17 (f := .glo "InvalidRow") rfl)) (He.eqO_ok r17.1) F17 (F17.binds fun _ _ _ _ _ _ us hl => match us, hl with | [_, _], _ => rfl) r17.2,
    x_InvalidTable := mkDX (nm := ["value", "code"]) PySem.F.excBase_ValueError PySem.F.store_ValueError (He.glo_ok X G (c.fact 18 (f := .glo "InvalidTable") rfl)) (He.eqO_ok r18.1) F18 (F18.binds fun _ _ _ _ _ _ us hl => match us, hl with | [_, _], _ => rfl) r18.2,
    x_InvalidDelays := mkDX (nm := ["value", "code"]) PySem.F.excBase_ValueError PySem.F.store_ValueError (He.glo_ok X G (c.fact 19 (f := .glo "InvalidDelays") rfl)) (He.eqO_ok r19.1) F19 (F19.binds fun _ _ _ _ _ _ us hl => match us, hl with | [_, _], _ => rfl) r19.2,
    x_InvalidPeriod := mkDX (nm := ["value", "code"]) PySem.F.excBase_ValueError PySem.F.store_ValueError (He.glo_ok X G (c.fact 20 (f := .glo "InvalidPeriod") rfl)) (He.eqO_ok r20.1) F20 (F20.binds fun _ _ _ _ _ _ us hl => match us, hl with | [_, _], _ => rfl) r20.2,
    x_InvalidHeights := mkDX (nm := ["value", "code"]) PySem.F.excBase_ValueError PySem.F.store_ValueError (He.glo_ok X G (c.fact 21 (f := .glo "InvalidHeights") rfl)) (He.eqO_ok r21.1) F21 (F21.binds fun _ _ _ _ _ _ us hl => match us, hl with | [_, _], _ => rfl) r21.2,
    x_InvalidDeed := mkDX (nm := ["value", "code"]) PySem.F.excBase_ValueError PySem.F.store_ValueError (He.glo_ok X G (c.fact 22 (f := .glo "InvalidDeed") rfl)) (He.eqO_ok r22.1) F22 (F22.binds fun _ _ _ _ _ _ us hl => match us, hl with | [_, _], _ => rfl) r22.2,
    x_InvalidTurn := mkDX (nm := ["at", "code"]) PySem.F.excBase_ValueError PySem.F.store_ValueError (He.glo_ok X G (c.fact 23 (f := .glo "InvalidTurn") rfl)) (He.eqO_ok r23.1) F23 (F23.binds fun _ _ _ _ _ _ us hl => match us, hl with | [_, _], _ => rfl) r23.2,
    x_InvalidWait := mkDX (nm := ["at", "code"]) PySem.F.excBase_ValueError PySem.F.store_ValueError (He.glo_ok X G (c.fact 24 (f := .glo "InvalidWait") rfl)) (He.eqO_ok r24.1) F24 (F24.binds fun _ _ _ _ _ _ us hl => match us, hl with | [_, _], _ => rfl) r24.2,
    x_InvalidWish := mkDX (nm := ["at", "code"]) PySem.F.excBase_ValueError PySem.F.store_ValueError (He.glo_ok X G (c.fact 25 (f := .glo "InvalidWish") rfl)) (He.eqO_ok r25.1) F25 (F25.binds fun _ _ _ _ _ _ us hl => match us, hl with | [_, _], _ => rfl) r25.2,
    x_InvalidJourney := mkDX (nm := ["at", "code"]) PySem.F.excBase_ValueError PySem.F.store_ValueError (He.glo_ok X G (c.fact 26 (f := .glo "InvalidJourney") rfl)) (He.eqO_ok r26.1) F26 (F26.binds fun _ _ _ _ _ _ us hl => match us, hl with | [_, _], _ => rfl) r26.2,
    x_InvalidText := mkDX (nm := ["line", "code"]) PySem.F.excBase_ValueError PySem.F.store_ValueError (He.glo_ok X G (c.fact 27 (f := .glo "InvalidText") rfl)) (He.eqO_ok r27.1) F27 (F27.binds fun _ _ _ _ _ _ us hl => match us, hl with | [_, _], _ => rfl) r27.2,
    x_DuplicateName := mkDX (nm := ["name", "code"]) PySem.F.excBase_ValueError PySem.F.store_ValueError (He.glo_ok X G (c.fact 28 (f := .glo "DuplicateName") rfl)) (He.eqO_ok r28.1) F28 (F28.binds fun _ _ _ _ _ _ us hl => match us, hl with | [_, _], _ => rfl) r28.2,
    x_InUse := mkDX (nm := ["name", "code"]) PySem.F.excBase_ValueError PySem.F.store_ValueError (He.glo_ok X G (c.fact 29 (f := .glo "InUse") rfl)) (He.eqO_ok r29.1) F29 (F29.binds fun _ _ _ _ _ _ us hl => match us, hl with | [_, _], _ => rfl) r29.2,
    x_TakenEnd := mkDX (nm := ["end", "code"]) PySem.F.excBase_ValueError PySem.F.store_ValueError (He.glo_ok X G (c.fact 30 (f := .glo "TakenEnd") rfl)) (He.eqO_ok r30.1) F30 (F30.binds fun _ _ _ _ _ _ us hl => match us, hl with | [_, _], _ => rfl) r30.2,
    x_LooseEnd := mkDX (nm := ["end", "code"]) PySem.F.excBase_ValueError PySem.F.store_ValueError (He.glo_ok X G (c.fact 31 (f := .glo "LooseEnd") rfl)) (He.eqO_ok r31.1) F31 (F31.binds fun _ _ _ _ _ _ us hl => match us, hl with | [_, _], _ => rfl) r31.2,
    x_TooMany := mkDX (nm := ["subject", "most", "code"]) PySem.F.excBase_ValueError PySem.F.store_ValueError (He.glo_ok X G (c.fact 32 (f := .glo "TooMany") rfl)) (He.eqO_ok r32.1) F32 (F32.binds fun _ _ _ _ _ _ us hl => match us, hl with | [_, _, _], _ => rfl) r32.2,
    x_MisplacedStep := mkDX (nm := ["train", "step", "code"]) PySem.F.excBase_ValueError PySem.F.store_ValueError (He.glo_ok X G (c.fact 33 (f := .glo "MisplacedStep") rfl)) (He.eqO_ok r33.1) F33 (F33.binds fun _ _ _ _ _ _ us hl => match us, hl with | [_, _, _], _ => rfl) r33.2,
    x_OwnRing := mkDX (nm := ["train", "step", "element", "code"]) PySem.F.excBase_ValueError PySem.F.store_ValueError (He.glo_ok X G (c.fact 34 (f := .glo "OwnRing") rfl)) (He.eqO_ok r34.1) F34 (F34.binds fun _ _ _ _ _ _ us hl => match us, hl with | [_, _, _, _], _ => rfl) r34.2,
    x_Refused := mkDX (nm := ["train", "element", "holder", "code"]) PySem.F.excBase_ValueError PySem.F.store_ValueError (He.glo_ok X G (c.fact 35 (f := .glo "Refused") rfl)) (He.eqO_ok r35.1) F35 (F35.binds fun _ _ _ _ _ _ us hl => match us, hl with | [_, _, _, _], _ => rfl) r35.2,
    x_Lacking := mkDX (nm := ["train", "other", "code"]) PySem.F.excBase_ValueError PySem.F.store_ValueError (He.glo_ok X G (c.fact 36 (f := .glo "Lacking") rfl)) (He.eqO_ok r36.1) F36 (F36.binds fun _ _ _ _ _ _ us hl => match us, hl with | [_, _, _], _ => rfl) r36.2,
    x_Unready := mkDX (nm := ["train", "code"]) PySem.F.excBase_ValueError PySem.F.store_ValueError (He.glo_ok X G (c.fact 37 (f := .glo "Unready") rfl)) (He.eqO_ok r37.1) F37 (F37.binds fun _ _ _ _ _ _ us hl => match us, hl with | [_, _], _ => rfl) r37.2,
    x_Finished := mkDX (nm := ["train", "code"]) PySem.F.excBase_ValueError PySem.F.store_ValueError (He.glo_ok X G (c.fact 38 (f := .glo "Finished") rfl)) (He.eqO_ok r38.1) F38 (F38.binds fun _ _ _ _ _ _ us hl => match us, hl with | [_, _], _ => rfl) r38.2,
    x_Barred := mkDX (nm := ["train", "step", "code"]) PySem.F.excBase_ValueError PySem.F.store_ValueError (He.glo_ok X G (c.fact 39 (f := .glo "Barred") rfl)) (He.eqO_ok r39.1) F39 (F39.binds fun _ _ _ _ _ _ us hl => match us, hl with | [_, _, _], _ => rfl) r39.2,
    x_NoDay := mkDX (nm := ["code"]) PySem.F.excBase_ValueError PySem.F.store_ValueError (He.glo_ok X G (c.fact 40 (f := .glo "NoDay") rfl)) (He.eqO_ok r40.1) F40 (F40.binds fun _ _ _ _ _ _ us hl => match us, hl with | [_], _ => rfl) r40.2,
    x_Doomed := mkDX (nm := ["code"]) PySem.F.excBase_ValueError PySem.F.store_ValueError (He.glo_ok X G (c.fact 41 (f := .glo "Doomed") rfl)) (He.eqO_ok r41.1) F41 (F41.binds fun _ _ _ _ _ _ us hl => match us, hl with | [_], _ => rfl) r41.2,
    x_NeverCleared := mkDX (nm := ["train", "step", "element", "code"]) PySem.F.excBase_ValueError PySem.F.store_ValueError (He.glo_ok X G (c.fact 42 (f := .glo "NeverCleared") rfl)) (He.eqO_ok r42.1) F42 (F42.binds fun _ _ _ _ _ _ us hl => match us, hl with | [_, _, _, _], _ => rfl) r42.2,
    x_NoPeriod := mkDX (nm := ["code"]) PySem.F.excBase_ValueError PySem.F.store_ValueError (He.glo_ok X G (c.fact 43 (f := .glo "NoPeriod") rfl)) (He.eqO_ok r43.1) F43 (F43.binds fun _ _ _ _ _ _ us hl => match us, hl with | [_], _ => rfl) r43.2,
    x_TooShort := mkDX (nm := ["period", "code"]) PySem.F.excBase_ValueError PySem.F.store_ValueError (He.glo_ok X G (c.fact 44 (f := .glo "TooShort") rfl)) (He.eqO_ok r44.1) F44 (F44.binds fun _ _ _ _ _ _ us hl => match us, hl with | [_, _], _ => rfl) r44.2,
    x_UnknownName := mkDX (nm := ["name", "code"]) PySem.F.excBase_LookupError PySem.F.store_LookupError (He.glo_ok X G (c.fact 45 (f := .glo "UnknownName") rfl)) (He.eqO_ok r45.1) F45 (F45.binds fun _ _ _ _ _ _ us hl => match us, hl with | [_, _], _ => rfl) r45.2,
    x_UnknownEnd := mkDX (nm := ["end", "code"]) PySem.F.excBase_LookupError PySem.F.store_LookupError (He.glo_ok X G (c.fact 46 (f := .glo "UnknownEnd") rfl)) (He.eqO_ok r46.1) F46 (F46.binds fun _ _ _ _ _ _ us hl => match us, hl with | [_, _], _ => rfl) r46.2,
    x_UnknownEntry := mkDX (nm := ["entry", "code"]) PySem.F.excBase_LookupError PySem.F.store_LookupError (He.glo_ok X G (c.fact 47 (f := .glo "UnknownEntry") rfl)) (He.eqO_ok r47.1) F47 (F47.binds fun _ _ _ _ _ _ us hl => match us, hl with | [_, _], _ => rfl) r47.2,
    x_NothingLeft := mkDX (nm := ["code"]) PySem.F.excBase_IndexError PySem.F.store_IndexError (He.glo_ok X G (c.fact 48 (f := .glo "NothingLeft") rfl)) (He.eqO_ok r48.1) F48 (F48.binds fun _ _ _ _ _ _ us hl => match us, hl with | [_], _ => rfl) r48.2,
    z_IndexError := He.free_ok X G (c.fact 57 (f := .free "IndexError") rfl),
    z_LookupError := He.free_ok X G (c.fact 58 (f := .free "LookupError") rfl),
    z_ValueError := He.free_ok X G (c.fact 59 (f := .free "ValueError") rfl),
    z_abs := He.free_ok X G (c.fact 60 (f := .free "abs") rfl),
    z_all := He.free_ok X G (c.fact 61 (f := .free "all") rfl),
    z_bool := He.free_ok X G (c.fact 62 (f := .free "bool") rfl),
    z_int := He.free_ok X G (c.fact 63 (f := .free "int") rfl),
    z_isinstance := He.free_ok X G (c.fact 64 (f := .free "isinstance") rfl),
    z_len := He.free_ok X G (c.fact 65 (f := .free "len") rfl),
    z_list := He.free_ok X G (c.fact 66 (f := .free "list") rfl),
    z_range := He.free_ok X G (c.fact 67 (f := .free "range") rfl),
    z_str := He.free_ok X G (c.fact 68 (f := .free "str") rfl),
    z_tuple := He.free_ok X G (c.fact 69 (f := .free "tuple") rfl),
    z_zip := He.free_ok X G (c.fact 70 (f := .free "zip") rfl),
    a_DayError := He.ga K "DayError", c_DayError := He.glo_ok X G (c.fact 49 (f := .glo "DayError") rfl),
    a_Missing := He.ga K "Missing", c_Missing := He.glo_ok X G (c.fact 50 (f := .glo "Missing") rfl) }
  have U : TxX T := ⟨He.exm_ok (c.fact 51 (f := .exm "InvalidText" "DayError" true) rfl), He.exm_ok (c.fact 52 (f := .exm "UnknownEntry" "DayError" false) rfl), He.exm_ok (c.fact 53 (f := .exm "UnknownEntry" "Missing" true) rfl), He.exm_ok (c.fact 54 (f := .exm "NothingLeft" "DayError" false) rfl), He.exm_ok (c.fact 55 (f := .exm "NothingLeft" "Missing" false) rfl), He.exm_ok (c.fact 56 (f := .exm "NothingLeft" "NothingLeft" true) rfl), fun k j c d hc hd => kit_of (cs := exN.map (He.ga K)) hk hc hd, fun k c hc => base_of (cs := exN.map (He.ga K)) hD hc, fun k c hc => base_of (cs := exN.map (He.ga K)) hM hc, fun k c hc => base_of (cs := exN.map (He.ga K)) hV hc, fun k c hc => base_of (cs := exN.map (He.ga K)) hL hc, fun k c hc => base_of (cs := exN.map (He.ga K)) hI hc⟩
  have b := FunD.bindsA (ps := ["_law_script"]) F10' fun _ _ _ _ _ _ us hl => match us, hl with | [_], _ => rfl
  exact ⟨fd10, fun s v => b s [v] rfl, fun base _ _ => ok_law T U⟩
end Rd
open PySem PySem.W PySem.Calls PyProof.Rows
theorem PySem.Challenge.cw_ringlessday_k00_errors_by_themselves_holds : PySem.Challenge.rw_ringlessday_k00_errors_by_themselves.Holds := by
  w_on; o_law
  refine HandSHeadRun.head_any (r := OpenLaw.row PySem.Challenge.rw_ringlessday_k00_errors_by_themselves) (q := Rd.qv) (H := Rd.hkB) (ob := Rd.obB) (M := 10600) (loose := []) (d := HandSHeadRun.topDef (OpenLaw.row PySem.Challenge.rw_ringlessday_k00_errors_by_themselves).prog 52) (kwd := []) Rd.obB_eq
    (by kernel_rfl) (fun s => by kernel_rfl) Rd.runB (by kernel_rfl) (by kernel_rfl) (by kernel_rfl) (by rfl) (by first | assumption | decide +kernel) (by decide +kernel) ⟨rfl, rfl, rfl, rfl, rfl, by decide +kernel⟩ ?hw ?hc
  case hw => w_witness2
  case hc =>
    refine L2.walk_ofE (l := PySem.Challenge.rw_ringlessday_k00_errors_by_themselves) (n := 63) (k := 6) (x := "_law_script") (CX := L2.CX0) rfl (by decide) (by kernel_rfl) ⟨rfl, by decide, by decide⟩ ?F (fun _ _ _ _ z => z)
    intro w mg fa h Y G hmg0
    obtain ⟨K, KX, c, cx⟩ := Y
    have hmg : mg ("law" : PySem.Str) = some (.ref fa) := by
      have e : (HandSHeadRun.topDef (OpenLaw.row PySem.Challenge.rw_ringlessday_k00_errors_by_themselves).prog 52).name = ("law" : PySem.Str) := by kernel_rfl
      rw [← e]
      exact hmg0
    obtain ⟨fd, hb, hF⟩ := Rd.factsB (P := (PySem.Challenge.rw_ringlessday_k00_errors_by_themselves).prog) (w := w) KX G hmg c cx
    exact ⟨K, fd, Rd.spLaw K, KX, hb, fun H a ns hl _ hS => ⟨a, ns, rfl, hS, hl, fun _ => rfl⟩, hF⟩
